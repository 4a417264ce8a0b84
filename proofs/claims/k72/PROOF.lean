import PyProof.Rows.All
import Wide.All
import OpenK.AllK
import Wide.FinOn
import Lean
import PyProof.EqAt
import PyProof.EqKinds
import PyProof.TupleCall
import PySem.Challenge.RW_shadowpost_k72_rows_that_cannot_stand
set_option Elab.async false
set_option linter.all false
set_option maxRecDepth 100000
set_option maxHeartbeats 4000000
noncomputable section
open Array renaming length_toList->zf,getElem?_setIfInBounds_ne->mX,getElem?_eq_some_iff->jX
open Bool renaming false_ne_true->ϖ,or_false->sv,false_eq_true->jY,eq_iff_iff->jZ,and_eq_true->ē,or_eq_true->sw,or_eq_true_iff->zg,or_self->sx
open Char renaming toNat->ϗ
open Classical renaming choose->zh,byContradiction->sy
open False renaming elim->Ļ
open ForInStep renaming yield->dM
open Function renaming comp_def->mY
open Int renaming fdiv_eq_ediv_of_nonneg->zi,fmod_eq_emod_of_nonneg->fg,eq_ofNat_of_zero_le->zj,emod_nonneg->cn,emod_lt_of_pos->cq
open List renaming range->ġ,mem_range->cr,filterMap_cons->sA,mem_cons_self->ű,mem_cons_of_mem->í,mem_cons->Č,mem_append->Ų,mem_append_left->bp,getElem?_eq_some_iff->fh,getElem?_set_self->j_,getElem?_set_ne->fi,mem_filterMap->mZ,mem_append_right->Ϙ,size_toArray->ļ,length_cons->þ,length_nil->io,lookup->fj,map_cons->Ý,length_map->ď,append_nil->cu,nodup_cons->cw,of_mem_zip->m_,replicate->Ê,length->aF,length_take->nb,getElem?_append_right->fk,getElem?_replicate->fq,getElem?_append_left->aG,getElem?_map->Ņ,take_sublist->sB,mem_of_getElem?->fu,length_append->Ī,replicate_succ->aj,flatten_cons->cx,append_assoc->bq,length_singleton->zk,nil_append->ϰ,map_nil->Ľ,all_eq_true->aH,lookup_cons->ņ,forIn_cons->nc,mem_iff_getElem->zl,getD_eq_getElem?_getD->ka,getElem?_eq_getElem->ž,getElem_mem->ng,drop_zero->nh,take_of_length_le->fv,eq_nil_of_length_eq_zero->zm,map_map->ľ,map_congr_left->fw,drop_eq_getElem_cons->dN,drop_eq_nil_of_le->cy,length_eq_zero_iff->ip,contains_cons->kc,cons_append->ſ,getElem?_cons_succ->fA,mem_singleton->dO,any_cons->iq,getLast?_cons_cons->zn,map_append->Ģ,getElem?_of_mem->zo,mem_map->Ĕ,nodup_append->ke,range'->ir,range'_succ->sC,take_succ_cons->kf,mem_of_getLast?->fB,flatMap_cons->ϙ,set_cons_succ->sD,set_cons_zero->sE,map_take->kg,mem_replicate->nj,range_eq_range'->sG,take_append_of_le_length->zp,mem_of_mem_take->dP,flatMap_append->sI,take_append_drop->sJ,forall_mem_cons->zq,take_length->sK,isEmpty_eq_false_iff->zr
open List.Pairwise renaming nil->zt
open Nat renaming lt_of_lt_of_le->ŕ,lt_irrefl->ϱ,ne_of_lt->ħ,le_trans->ϲ,le_of_lt->kh,ne_of_gt->bt,le_refl->î,le_of_eq->sM,lt_succ_self->sN,zero_le->ϳ,add_comm->iu,lt_trans->sO,lt_succ_of_lt->iw,mul_le_mul->cz,le_succ->sP,toDigits->ų
open Ne renaming symm->Đ
open OfNat renaming ofNat->Ŗ
open Option renaming bind_some->sQ,map_eq_some_iff->ki,bind_eq_some_iff->sR
open Option.some renaming inj->Š
open Or renaming inl->ĕ,inr->ĉ
open Pure renaming pure->ç
open PyProof.Rows renaming AllBare->bu,callWith_type1->zu,envOfC->ú,ext_toList->zv,boot_str->iy,boot_abs->sS,boot_divmod->zw,boot_list->cA,boot_all->kj,boot_isinstance->cB
open PySem renaming Value->Á,World->Ø,Program->Þ,Addr->À,Heap->Ð,Within->km,mainGlobals->Ϛ,bootBuiltins->bv,Around->à,Shared->Â,Scope->õ,Model->cC,wpAny->Î,Expr->Æ,model->Ì,backTo->ĝ,starEach->Ö,Stmt->Ò,wpAny_mono->Ň,wpAny_execs_nil->kn,wpAny_execs_cons->sT,swapsWith->ŗ,assign->cD,assignEach->Ŵ,PassesOwn->ko,wpAny_passesOwn->fC,pyNext->fE,letOwnedTupleGo->nk,wpAny_pure->â,wpAny_bind->Ë,rawInt->ň,foldedSetIterable->bA,binaryOp->ŋ,compareOp->ı,CmpOp->cE,behindInMarks->iz,sizeLine_eq->ϛ,wpAny_truthy_bool->cF,standAt->iA,wpAny_loadPart->nn,wpAny_lookBehind->sU,pastItsLine_dict->sW,Result->dQ,codeAny->Ϝ,attributeBase->bB,plainObj_wpAny_Assign_Attribute->zx,recursionLimit->sX,cLine->ϝ,FuncData->Ė,BindsTo->cG,Keyword->ϴ,NameKind->ak,leaving->fF,cellsFrom->Ķ,mem_of_lookup->kq,Arguments->cH,wpAny_newFunctionEnv_cells->zy,wpAny_Call_Name_kw->cI,typeLookup->kr,typeIs_str->iB,sliceBounds->fG,backToKw->fH,keywordEach->fJ,call_meets->fK,callerA->dR,call->nq,codeAny_mono->dS,PyData->Ϟ,noteFrame->aI,wpAny_standAt->cJ,wpAny_comprehension_free->zA,wpAny_newObj_type->sY,wpAny_pyIter_list->iE,wpAny_call->cK,wpAny_setField->iF,wpAny_field->Ř,setFlight->kt,isInstance->iG,ExceptHandler->iH,Builtin->dU,wpAny_loadPart_at->cL,wpAny_holding->aJ,codeAny_call_builtin->ku,getAttrByItsOwn->nu,wpAny_attempt->kv,raiseStmt->iI,cameBackBy->nv,boot_len->ķ,IsEnum->ϵ,wpAny_setField_rec->kx,Str->š,evalEach->ky,intText?->kz
open PySem.Around renaming under->sZ
open PySem.Builtin.Int renaming intBits->ny
open PySem.Builtin.List renaming listTooLong->nA
open PySem.Builtin.SmallTypes renaming ownedTupleIsFree->zB,ownedTupleHandOut->zC
open PySem.Builtin.Str renaming strSliceIndices->iJ,occurrences->fL,strKind->iK
open PySem.Calls renaming Name_function_global->zD
open PySem.Code renaming isFrame->s_,quiet_builtin->ti
open PySem.EntryCells renaming newEntry->zE
open PySem.F renaming slot_list_append->am,slot_list_extend->nB,excBase_ValueError->zF,attrBase_ValueError->nC,entry_bexc_ga->zG,args_bexc_ga->zH,plainAttrs_list->ϟ,type_list_append->aK,called_enumerate->tj,slot_enumerate_next->nD,entry_enumerate_next->zI,args_enumerate_next_1->zJ,slot_str_split->fM,entry_str_split->tq,args_str_split_2->tu,plainAttrs_str->϶,type_str_split->nE,type_list_extend->tw,slot_str_join->fN,type_str_join->fO,slot_str_startswith->zK,type_str_startswith->zL
open PySem.Heap renaming lt_size->ñ,get?_none_of_le->tz,SameBut->ao,get?_push_of_some->ö,get?_push_size->Ŀ,size_push->bC,get?_update_other->cM,get?_update_self->bE,MadeExcOf->tD,get?_push_at->tE,get?_update_ne->zM,get?_push_cases->zN
open PySem.Heap.Ns1 renaming of_empty->zO
open PySem.NameKind renaming free->aq,cell->dW
open PySem.Obj renaming data_mapFields->Ϸ,mapFields->Ϡ,isFreed_of_fields->cO
open PySem.PassesOwn renaming leaving->aL
open PySem.PyData renaming eqv->ī,strOk->Ĩ,canLay0->tF,canLayAll0->fP,eqvAll->kA
open PySem.Str renaming empty->dX,length->ar,ofString->Ä,ext'->bF,cps_append->nF
open PySem.Value renaming int->nG,str->nH,bool->ŉ,float->tH,ref->ă,type->tJ
open PySem.Value.type renaming inj->tK
open PySem.W renaming instObj->cP,methodObj->tM,hideAll->cQ,hideAll_get->tN,of_hideAll->tQ,hideAll_none->tU,Frag->É,tabIn->au,CodeHd->tX,lookIn->iL,InstAt->bG,plainGet->kB,hasDictIn->iM,findIn->Ĭ,handedIn->tY,plainGet_of->tZ,findObj_own->t_,isFn->kC,plainOver->ua,takerIn->ub,set_plain->uc,looks_clsIn->nK,makesIn->ud,typeIn->nL,emptyDict->bH,looks_findIn->fQ,keepIn->Ţ,specialIn->ue,takesIn->uf,mroIn->av,kitOne->ŀ,kia_one->ϡ,kitx_list->ug,kitx_tuple->zP,kitx_dict->zQ,cellsFrom_some->uh,fnOf->Ϣ,codeIn->iO,codeRec_of->zR,OpenLaw->fR,WalkO->nM,noTabs->ui,callWith_K->kD,callWith_K0->zS,funFrames_hide->zT,excIn->fS,tail_of_in->zU,kitCls->aM,looks_mroIn->fT,tailIn->iP,Looks->dY,check_slot->uj,looks_find->uk,handedOut_of->zW,mg_of->ģ,mg_none_of->ϣ
open PySem.W.KIN renaming val_back->zX
open PySem.W.Looks renaming here->ul
open PySem.Within renaming cons->um
open Sum renaming inl->fU,inr->fV
open ToString renaming toString->ϸ
namespace L2
open PySem PySem.Spec PyProof.Rows
abbrev Key:=Sum Int Str
noncomputable def Hs:Key->Á->Bool
 | .inl k,v=>Value.isInt k v
 | .inr x,v=>Value.isStrOf x v
def T2(w:Ø):Key->Int
 | .inl k=>hashInt k
 | .inr x=>hashStr w x
theorem ţ:∀{k:Key} {v:Á},Hs k v=true->(∃i t,k=fU i/\v=nG i t)\/(∃x t,k=fV x/\v=nH x t)
 | .inl i,v,h=>by obtain⟨t,e⟩:=Value.isInt_shape (k:=i) (v:=v) h;exact .inl ⟨i,t,rfl,e⟩
 | .inr x,v,h=>by obtain⟨t,e⟩:=Value.isStrOf_shape (x:=x) (v:=v) h;exact .inr ⟨x,t,rfl,e⟩
def KR(a b:Int):decide ((fU a:Key)=fU b)=(a== b):=by
 by_cases e:a=b
 ·subst e;simp
 ·have h:¬(fU a:Key)=fU b:=λq=>e (Sum.inl.inj q);rw[decide_eq_false h];exact(beq_eq_false_iff_ne.mpr e).symm
def KS(a b:Str):decide ((fV a:Key)=fV b)=decide (a=b):=by
 by_cases e:a=b
 ·subst e;simp
 ·have h:¬(fV a:Key)=fV b:=λq=>e (Sum.inr.inj q);rw[decide_eq_false h,decide_eq_false e]
def KU(a:Int)(b:Str):decide ((fU a:Key)=fV b)=false:=decide_eq_false (λq=>nomatch q)
def KW(a:Str)(b:Int):decide ((fV a:Key)=fU b)=false:=decide_eq_false (λq=>nomatch q)
def uo(prog:Þ)(w:Ø):PySem.KeyKind prog w Key where
 is:=Hs
 hash:=T2 w
 inj:=λv a b ha hb=>by
  rcases ţ ha with⟨i,t,rfl,rfl⟩|⟨x,t,rfl,rfl⟩
  ·rcases ţ hb with⟨j,u,rfl,e⟩|⟨y,u,rfl,e⟩
   ·injection e with e1 _;rw[e1]
   ·exact nomatch e
  ·rcases ţ hb with⟨j,u,rfl,e⟩|⟨y,u,rfl,e⟩
   ·exact nomatch e
   ·injection e with e1 _;rw[e1]
 byValue:=λk v h=>by rcases ţ h with⟨i,t,rfl,rfl⟩|⟨x,t,rfl,rfl⟩<;>rfl
 pyHash:=λhv h=>by
  rcases ţ hv with⟨i,t,rfl,rfl⟩|⟨x,t,rfl,rfl⟩
  ·exact wpAny_pyHash_int h
  ·exact wpAny_pyHash_str h
 eqBool:=λhu hv h=>by
  rcases ţ hu with⟨i,t,rfl,rfl⟩|⟨x,t,rfl,rfl⟩
  ·rcases ţ hv with⟨j,u,rfl,rfl⟩|⟨y,u,rfl,rfl⟩
   ·rw[KR] at h;exact wpAny_eqBool_int h
   ·rw[KU] at h;exact SeqAt.EqAt.int_str i t y u _ _ _ _ h
  ·rcases ţ hv with⟨j,u,rfl,rfl⟩|⟨y,u,rfl,rfl⟩
   ·rw[KW] at h;exact SeqAt.EqAt.str_int x t j u _ _ _ _ h
   ·rw[KS] at h;exact wpAny_eqBool_str h
 «strs» := fun k x t v h=>by
   rcases ţ h with⟨i,u,rfl,e⟩|⟨y,u,rfl,e⟩
   ·exact nomatch e
   ·injection e with e1 _
    subst e1;cases v<;>rfl
inductive V where
 |non|bl (b:Bool)|int (i:Int)|str (x:Str)|Ht (b:Array UInt8)|flt (b:UInt64)|ref (a:À)|ty (n:String)
 deriving DecidableEq
def RelV:V->Á->Prop
 | .non,u=>u=Value.none
 | .bl b,u=>u=ŉ b
 | .int i,u=>∃t,u=nG i t
 | .str x,u=>∃t,u=nH x t
 | .Ht b,u=>∃t,u=Value.bytes b t
 | .flt b,u=>∃t,u=tH b t
 | .ref a,u=>u=ă a
 | .ty n,u=>u=tJ n
abbrev ĭ:List V->List Á->Prop:=Paired RelV
theorem ĭ.length{xs:List V}{us:List Á}(r:ĭ xs us):xs.length=us.length:=Paired.length r
theorem ĭ.get:∀{xs:List V} {us:List Á} {i:Nat} {x:V},ĭ xs us->xs[i]?=some x->∃u,us[i]?=some u/\RelV x u
 |_,_,_,_,.nil,e=>by simp at e
 |_,_,0,_,.cons r _,e=>by simp at e;subst e;exact⟨_,rfl,r⟩
 |_,_,i+1,x,.cons _ t,e=>by obtain⟨u,h1,h2⟩:=ĭ.get (i:=i) (x:=x) t (by simpa using e);exact⟨u,by simpa using h1,h2⟩
theorem ĭ.append:∀{xs ys:List V} {us ws:List Á},ĭ xs us->ĭ ys ws->ĭ (xs++ys) (us++ws)
 |_,_,_,_,.nil,s=>s
 |_,_,_,_,.cons r t,s=>.cons r (ĭ.append t s)
theorem ĭ.take:∀{xs:List V} {us:List Á} (n:Nat),ĭ xs us->ĭ (xs.take n) (us.take n)
 |_,_,0,_=>.nil
 |_,_,_+1,.nil=>.nil
 |_,_,n+1,.cons r t=>.cons r (ĭ.take n t)
theorem ĭ.drop:∀{xs:List V} {us:List Á} (n:Nat),ĭ xs us->ĭ (xs.drop n) (us.drop n)
 |_,_,0,r=>r
 |_,_,_+1,.nil=>.nil
 |_,_,n+1,.cons _ t=>ĭ.drop n t
def kE:Option V->Option Á->Prop
 |some v,some u=>RelV v u
 |none,none=>True
 |_,_=>False
def KV{κ:Type}:List (κ×V)->List (κ×Á)->Prop:=Paired λ(p:κ×V) (q:κ×Á)=>p.1=q.1/\RelV p.2 q.2
noncomputable def kV:Key->V
 | .inl i=>.int i
 | .inr x=>.str x
inductive HO where
 |lst (xs:List V)
 |tup (xs:List V)
 |dK (ff:List (Key×V))|dT (ff:List (List Key×V))
 |set (S:Int->Bool) (n:Nat)
 |ins (C dx:À) (fs:List (Str×V))
 |own (x:À)
 |xd (fs:List (Str×V))
 |met (f x:À)
 |rng (lo hi:Int)
 |bS (o:Obj) (u:HO)
 |jd (q:Str)
 |Hv (q:Str)
 |ext (φ:Ð->Prop)
abbrev Hp:=À->Option HO
noncomputable def upd(H:Hp)(a:À)(o:HO):Hp:=λb=>if b=a then some o else H b
def ã{H:Hp}{a:À}{o:HO}:upd H a o a=some o:=by unfold upd;rw[if_pos rfl]
def Ú{H:Hp}{a b:À}{o:HO}(h:b≠a):upd H a o b=H b:=by unfold upd;rw[if_neg h]
def é{H:Hp}{a b:À}{o:HO}(h:H a=some o)(h':H b=none):a≠b:=by intro e;subst e;rw[h] at h';cases h'
section
variable(P:Þ)(w:Ø)
def Ť(H:Hp)(h:Ð)(a:À):HO->Prop
 | .lst xs=>xs.length<=sizeLine/\∃(ě:List Á) (n:Nat),ĭ xs ě/\h.get? a=some {cls:=.type "list",data:=.seq ě.toArray n}
 | .tup xs=>xs.length<=sizeLine/\∃ě:List Á,ĭ xs ě/\IsTup h a ě.toArray
 | .dK ff=>ff.length<=sizeLine/\(a== sysModules)=false/\∃vs,KV ff vs/\h.DictOf (uo P w) a vs
 | .dT ff=>ff.length≤sizeLine∧(a== sysModules)=false∧∃xs:List (List Key×À×Á),
     Paired (λ(p:List Key×V) (q:List Key×À×Á)=>p.1=q.1/\H q.2.1=some (.tup (p.1.map kV))/\RelV p.2 q.2.2) ff xs/\
     ∃o es ep,h.get? a=some o/\o.ExactDict/\o.data=.dict es ep/\es.toList=xs.map (entryOfKey (tupleKind (uo P w)))/\(xs.map (·.1)).Nodup
 | .set S n=>h.SetOf (intKind P w) a S n
 | .ins C dx fs=>H dx=some (.own a)∧fs.length≤1000∧dx≠a∧h.get? a=some (cP C dx)∧
     ∃mA,h.Ns1 dx mA/\(∀f,kE (fs.lookup f) (mA f))/\km mA (fs.map (·.1))
 | .own _=>∃o,h.get? a=some o
 | .xd fs=>∃mA,h.Ns1 a mA/\∀f,kE (fs.lookup f) (mA f)
 | .rng lo hi=>∃t u v,h.get? a=some {cls:=.type "range",data:=.fields #[.int lo t,.int hi u,.int 1 v]}
 | .bS o u=>h.get? a=some o/\Ť H h a u
 | .jd q=>∃ps:Array Á,h.get? a=some {cls:=.none,data:=.fields ps}/\TriplesOk ps.toList/\∀pos cv,codeAmong pos ps.toList=some cv->∃c,cv=.ref c/\H c=some (.Hv q)
 | .Hv q=>h.CodeRec (.ref a) q
 | .met f x=>h.get? a=some (tM (.ref f) (.ref x))
 | .ext φ=>φ h/\(∃o,h.get? a=some o)/\∀h1 h2:Ð,φ h1->(∀o,h1.get? a=some o->h2.get? a=some o)->φ h2
def cZ(H:Hp)(h:Ð):Prop:=∀a o,H a=some o->Ť P w H h a o
end
section
variable{P:Þ}{w:Ø}{H H':Hp}{h h':Ð}{a:À}{o:HO}
theorem Ť.lt(x:Ť P w H h a o):a<h.objs.size:=by
 cases o with
 |lst xs=>obtain⟨_,_,_,_,e⟩:=x;exact ñ e
 |tup xs=>obtain⟨_,_,_,p⟩:=x;exact p.lt
 |dK ff=>obtain⟨_,_,_,_,o,_,_,e,_⟩:=x;exact ñ e
 |dT ff=>obtain⟨_,_,_,_,o,_,_,e,_⟩:=x;exact ñ e
 |set S n=>obtain⟨o,_,_,_,e,_⟩:=x;exact ñ e
 |ins C dx fs=>obtain⟨_,_,_,e,_⟩:=x;exact ñ e
 |own y=>obtain⟨_,e⟩:=x;exact ñ e
 |xd fs=>obtain⟨_,⟨_,_,_,e,_⟩,_⟩:=x;exact ñ e
 |rng lo hi=>obtain⟨_,_,_,e⟩:=x;exact ñ e
 |bS ob u=>obtain⟨e,_⟩:=x;exact ñ e
 |jd q=>obtain⟨_,e,_⟩:=x;exact ñ e
 |Hv q=>obtain⟨c,o,_,_,z,e,_⟩:=x;cases z;exact ñ e
 |met f y=>exact ñ (show h.get? a=some _ from x)
 |ext φ=>obtain⟨_,⟨_,e⟩,_⟩:=x;exact ñ e
theorem Paired.KY{α β:Type}{F G:α->β->Prop}:∀{l₁:List α} {l₂:List β},Paired F l₁ l₂->(∀a b,F a b->G a b)->Paired G l₁ l₂
 |_,_,.nil,_=>.nil
 |_,_,.cons r t,f=>.cons (f _ _ r) (Paired.KY t f)
def Ť.stay(x:Ť P w H h a o)(k:∀b u,(b=a\/H b=some (.own a))->h.get? b=some u->h'.get? b=some u)
 (ho:∀b,H b=some (.own a)->H' b=some (.own a))(ht:∀b xs,H b=some (.tup xs)->H' b=some (.tup xs))(hc:∀b q,H b=some (.Hv q)->H' b=some (.Hv q):=by exact λ_ _ z=>z):Ť P w H' h' a o:=by
 induction o with
 |lst xs=>obtain⟨z,ě,n,r,e⟩:=x;exact⟨z,ě,n,r,k _ _ (.inl rfl) e⟩
 |tup xs=>obtain⟨z,ě,r,ob,e,c⟩:=x;exact⟨z,ě,r,ob,k _ _ (.inl rfl) e,c⟩
 |dK ff=>obtain⟨z,y,vs,r,ob,es,ep,e,c⟩:=x;exact⟨z,y,vs,r,ob,es,ep,k _ _ (.inl rfl) e,c⟩
 |dT ff=>obtain⟨z,y,xs,r,ob,es,ep,e,c⟩:=x;exact⟨z,y,xs,Paired.KY r λp q z=>⟨z.1,ht _ _ z.2.1,z.2.2⟩,ob,es,ep,k _ _ (.inl rfl) e,c⟩
 |set S n=>obtain⟨ob,es,ep,t,e,c⟩:=x;exact⟨ob,es,ep,t,k _ _ (.inl rfl) e,c⟩
 |ins C dx fs=>obtain⟨d,z,ne,e,mA,⟨od,es,ep,e2,c⟩,r⟩:=x;exact⟨ho _ d,z,ne,k _ _ (.inl rfl) e,mA,⟨od,es,ep,k _ _ (.inr d) e2,c⟩,r⟩
 |own y=>obtain⟨ob,e⟩:=x;exact⟨ob,k _ _ (.inl rfl) e⟩
 |xd fs=>obtain⟨mA,⟨od,es,ep,e,c⟩,r⟩:=x;exact⟨mA,⟨od,es,ep,k _ _ (.inl rfl) e,c⟩,r⟩
 |rng lo hi=>obtain⟨t,u,v,e⟩:=x;exact⟨t,u,v,k _ _ (.inl rfl) e⟩
 |bS ob u ih=>obtain⟨e,q⟩:=x;exact⟨k _ _ (.inl rfl) e,ih q⟩
 |jd q=>obtain⟨ps,e,t,r⟩:=x;exact⟨ps,k a _ (.inl rfl) e,t,λpos cv z=>let ⟨c,z1,z2⟩:=r pos cv z;⟨c,z1,hc c q z2⟩⟩
 |Hv q=>obtain⟨c,o,vs,t,z,e,r⟩:=x;cases z;exact⟨a,o,vs,t,rfl,k a _ (.inl rfl) e,r⟩
 |met f y=>have e:h.get? a=some (tM (.ref f) (.ref y)):=x;show h'.get? a=some (tM (.ref f) (.ref y));exact k a _ (.inl rfl) e
 |ext φ=>obtain⟨p,⟨o,e⟩,st⟩:=x;exact⟨st _ _ p λo q=>k _ _ (.inl rfl) q,⟨o,k _ _ (.inl rfl) e⟩,st⟩
theorem cZ.lt(x:cZ P w H h)(e:H a=some o):a<h.objs.size:=(x a o e).lt
def cZ.fresh(x:cZ P w H h)(e:h.objs.size<=a):H a=none:=by
 cases q:H a with
 |none=>rfl
 |some u=>exact absurd (ŕ (x.lt q) e) (ϱ _)
def cZ.kept(x:cZ P w H h)(k:∀b u,h.get? b=some u->h'.get? b=some u):cZ P w H h':=λa o e=>
 (x a o e).stay (λb u _ q=>k b u q) (λ_ q=>q) λ_ _ q=>q
def cZ.laid(x:cZ P w H h)(k:∀b u,h.get? b=some u->h'.get? b=some u)(hp:h.objs.size<=a)(new:Ť P w (upd H a o) h' a o):cZ P w (upd H a o) h':=λb u e=>by
 have hn:=x.fresh hp;by_cases hb:b=a
 ·subst hb;rw[ã] at e;cases e;exact new
 ·rw[Ú hb] at e;exact(x b u e).stay (λc v _ q=>k c v q) (λc q=>by rw[Ú (é q hn)];exact q) (λc xs q=>by rw[Ú (é q hn)];exact q) λc xs q=>by rw[Ú (é q hn)];exact q
end
def Rd(H:Hp)(a:À)(u:HO):Prop:=H a=some u\/∃o,H a=some (.bS o u)
def Rd.ok{P:Þ}{w:Ø}{H:Hp}{h:Ð}{a:À}{u:HO}(r:Rd H a u)(x:cZ P w H h):Ť P w H h a u:=by
 rcases r with r|⟨o,r⟩
 ·exact x a u r
 ·obtain⟨_,q⟩:=x a _ r;exact q
def Si:Option HO->Prop
 |some (.lst _)=>True
 |some (.dK _)=>True
 |some (.dT _)=>True
 |some (.set _ _)=>True
 |some (.ins _ _ _)=>True
 |some (.ext _)=>True
 |some (.xd _)=>True
 |_=>False
section
variable{P:Þ}{w:Ø}{H:Hp}{h h':Ð}{x e:À}{o':HO}
def cZ.write(ok:cZ P w H h)(mu:Si (H x))(he:e=x\/H e=some (.own x))(k:∀b u,b≠e->h.get? b=some u->h'.get? b=some u)(Hf:∃u,h'.get? e=some u)
 (new:Ť P w (upd H x o') h' x o'):cZ P w (upd H x o') h':=λb u q=>by
 have Pa:∀c y,H c=some (.own y)->c≠x:=λc y r z=>by subst z;rw[r] at mu;exact mu
 have T3:∀c xs,H c=some (.tup xs)->c≠x:=λc xs r z=>by subst z;rw[r] at mu;exact mu
 have T4:∀c q,H c=some (.Hv q)->c≠x:=λc xs r z=>by subst z;rw[r] at mu;exact mu
 by_cases hb:b=x
 ·subst hb;rw[ã] at q;cases q;exact new
 ·rw[Ú hb] at q;by_cases wa:b=e
  ·have q':H b=some (.own x):=by
    rcases he with z|z
    ·exact absurd (wa.trans z) hb
    ·rw[wa];exact z
   rw[q] at q';cases q';obtain⟨v,hv⟩:=Hf;exact⟨v,by rw[wa];exact hv⟩
  ·refine(ok b u q).stay (λc v hc r=>k c v ?_ r) (λc r=>by rw[Ú (Pa c b r)];exact r) (λc xs r=>by rw[Ú (T3 c xs r)];exact r) λc xs r=>by rw[Ú (T4 c xs r)];exact r
   rcases hc with rfl|hc
   ·exact wa
   ·rintro rfl;rcases he with z|z
    ·exact Pa c b hc z
    ·rw[hc] at z;cases z;exact hb rfl
end
structure Un(fs ex:List À)(H H':Hp)(h h':Ð):Prop where
 keep:∀b o,h.get? b=some o->H b=none->b∉fs->b∉ex->h'.get? b=some o
 slot:∀b o,h.get? b=some o->H b=none->b∈fs->b∉ex->∃sl,h'.get? b=some {o with slots:=sl}
 free:∀b o,h.get? b=some o->H b=none->b∉ex->H' b=none
 there:∀b o,h.get? b=some o->b∉ex->∃o',h'.get? b=some o'
 tups:∀b xs,H b=some (.tup xs)->H' b=some (.tup xs)
 eI:∀b o u,H b=some (.bS o u)->H' b=some (.bS o u)
 c_:∀b q,H b=some (.jd q)->H' b=some (.jd q)
section
variable{fs ex:List À}{H H1:Hp}{h h1 h':Ð}{a x e:À}{o:HO}
def Un.any(u:Un fs ex H H1 h h1){b:À}{ob:Obj}(q:h.get? b=some ob)(n:H b=none)(hx:b∉ex):∃sl,h1.get? b=some {ob with slots:=sl}:=by
 by_cases hb:b∈fs
 ·exact u.slot b ob q n hb hx
 ·exact⟨ob.slots,u.keep b ob q n hb hx⟩
def Un.kept(k:∀b u,h.get? b=some u->h'.get? b=some u):Un fs ex H H h h':=
 ⟨λb ob q _ _ _=>k b ob q,λb ob q _ _ _=>⟨ob.slots,k b ob q⟩,λ_ _ _ n _=>n,λb ob q _=>⟨ob,k b ob q⟩,λ_ _ q=>q,λ_ _ _ q=>q,λ_ _ q=>q⟩
def Un.refl:Un fs ex H H h h:=Un.kept λ_ _ q=>q
def Un.laid(k:∀b u,h.get? b=some u->h'.get? b=some u)(hp:h.objs.size<=a)(hn:H a=none):Un fs ex H (upd H a o) h h' where
 keep:=λb u q _ _ _=>k b u q
 slot:=λb u q _ _ _=>⟨u.slots,k b u q⟩
 free:=λb u q n _=>by rw[Ú (ħ (ŕ (ñ q) hp))];exact n
 there:=λb u q _=>⟨u,k b u q⟩
 tups:=λb xs q=>by rw[Ú (é q hn)];exact q
 eI:=λb u xs q=>by rw[Ú (é q hn)];exact q
 c_:=λb ps q=>by rw[Ú (é q hn)];exact q
def Un.write(mu:Si (H x))(he:e=x\/H e=some (.own x))(k:∀b u,b≠e->h.get? b=some u->h'.get? b=some u)(Hf:∃u,h'.get? e=some u):Un fs ex H (upd H x o) h h':=by
 have hx:∀b,H b=none->b≠x:=λb n z=>by subst z;rw[n] at mu;exact mu
 have hb:∀b,H b=none->b≠e:=λb n z=>by
  subst z;rcases he with r|r
  ·exact hx b n r
  ·rw[n] at r;cases r
 have hm:∀b u,H b=some u->¬Si (some u)->b≠x:=λb u q nm z=>by subst z;rw[q] at mu;exact nm mu
 refine⟨λb u q n _ _=>k b u (hb b n) q,λb u q n _ _=>⟨u.slots,k b u (hb b n) q⟩,λb u q n _=>by rw[Ú (hx b n)];exact n,λb u q _=>?_,
  λb xs q=>by rw[Ú (hm b _ q λz=>z)];exact q,λb u xs q=>by rw[Ú (hm b _ q λz=>z)];exact q,λb ps q=>by rw[Ú (hm b _ q λz=>z)];exact q⟩
 by_cases wa:b=e
 ·subst wa;exact Hf
 ·exact⟨u,k b u wa q⟩
end
def Sj(h:Ð)(H:Hp):List À:=(ġ h.objs.size).filter λa=>(H a).isSome
def qo(h:Ð)(H:Hp):Ð:=cQ h (Sj h H)
def Bh(h:Ð)(H:Hp):(qo h H).objs.size=h.objs.size:=PySem.W.hideAll_size _ _
def Cf{h:Ð}{H:Hp}{b:À}{o:Obj}(e:h.get? b=some o)(n:H b=none):(qo h H).get? b=some o:=
 tN _ e λhm=>by have q:(H b).isSome=true:=(List.mem_filter.mp hm).2;rw[n] at q;simp at q
def FC{h:Ð}{H:Hp}{b:À}{o:Obj}(e:(qo h H).get? b=some o):h.get? b=some o/\H b=none:=by
 have e':h.get? b=some o:=tQ (Sj h H) e;refine⟨e',?_⟩;cases q:H b with
 |none=>rfl
 |some x=>have hm:b∈Sj h H:=List.mem_filter.mpr ⟨cr.mpr (ñ e'),by simp[q]⟩;have z:(qo h H).get? b=none:=tU (Sj h H) hm;rw[z] at e;cases e
noncomputable def FD(g h:Ð)(L:À):List (À×Obj):=(ġ h.objs.size).filterMap λa=>if a=L\/(g.get? a).isSome=true then none else(h.get? a).map λo=>(a,o)
def ü(g h:Ð)(L d:À):List (À×Obj):=(FD g h L).filter λp=>decide (p.1≠d)
structure Mod(K:É)(mg:Str->Option Á)(base:Ð):Prop where
 Hw:K.In base
 glob:base.Ns Ϛ mg
 blt:∃mb,base.Ns builtinsNs mb/\∀x:Str,x≠ "__name__" ->mb x=bv x
 nolimit:base.NoLimit
def bQ:List Str:=[]
abbrev ur(x:Str):Str:=(x ++ ".<locals>.") ++ "<lambda>"
def vT(K:É)(mg:Str->Option Á)(base:Ð)(H:Hp):Prop:=∀x c P,x∈bQ->au K x=some (c,P)->tX base c P/\H P=some (.jd (ur x))/\base.BuiltinsAt mg P
structure Cx where
 prog:Þ
 w:Ø
 K:É
 mg:Str->Option Á
 base:Ð
 A:à
 N:List Str
 s₀:Â
 H₀:Hp
 env:Env
 outer:List Env
 stack:List Env
 ex:List À
 fn:Str->Bool
 calm:Bool
 pn:List (À×Obj)
 xe:Á->Â->Prop
def gI(l:List Env):List À:=l.filterMap (·.frame)
abbrev Cx.fs(X:Cx):List À:=gI X.outer
def Bi(sc:õ)(x:Str):Prop:=sc.names.lookup x=some .local\/sc.names.lookup x=some .cell\/sc.names.lookup x=some .free
def Loc(sc:õ)(x:Str):Prop:=sc.names.lookup x=some .local\/sc.names.lookup x=some .cell
def Look(env:Env)(h:Ð)(m:Str->Option Á)(x:Str)(u:Á):Prop:=
 (env.kindOf x=some .local/\m x=some u)\/((env.kindOf x=some .cell\/env.kindOf x=some .free)/\∃c,env.cells.lookup x=some c/\h.IsCell c (some u))
structure Cx.Ok(X:Cx):Prop where
 mod:Mod X.K X.mg X.base
 kind:X.env.scope.kind=.function
 glob:X.env.globals=Ϛ
 blt:X.env.builtins=builtinsNs
 above:X.s₀.heap.objs.size<=X.env.locals
 inj:∀x y c,X.env.cells.lookup x=some c->X.env.cells.lookup y=some c->x=y
 has:∀x,(X.env.kindOf x=some .cell\/X.env.kindOf x=some .free)->∃c,X.env.cells.lookup x=some c
 cab:∀x c,X.fn x=true->X.env.cells.lookup x=some c->X.s₀.heap.objs.size<=c
 hd:X.calm=true->X.A.handled=none
 frames:X.A.frames=some X.stack
 stk:X.stack=X.outer\/(X.stack=X.env::X.outer/\X.env.frame=some X.env.locals)
 OP:∀b∈X.ex,b≠X.env.locals/\∀x c,X.env.cells.lookup x=some c->c≠b
 bs:∀b o,X.base.get? b=some o->X.s₀.heap.get? b=some o/\X.H₀ b=none
 zY:X.base.objs.size<=X.s₀.heap.objs.size
 ut:∀b o,X.base.get? b=some o->b∉X.ex
 we:∀b∈X.ex,b∉X.fs
 gK:X.s₀.heap.FunFrames X.base X.outer
 B4:∀b∈X.fs,X.H₀ b=none
 tb:vT X.K X.mg X.base X.H₀
structure Inv(X:Cx)(Ã:List (À×Obj))(Y:List (Option V))(H:Hp)(s:Â):Prop where
 ok:X.Ok
 os:s.os=X.s₀.os
 bare:bu s.gens
 base:Un X.fs X.ex X.H₀ H X.s₀.heap s.heap
 loc:∃m,s.heap.Ns X.env.locals m/\∀(i:Nat) (x:Str) (v:V),X.N[i]?=some x->Y[i]?=some (some v)->Bi X.env.scope x->∃u,RelV v u/\Look X.env s.heap m x u
 cell:∀x c,X.env.cells.lookup x=some c->∃v,s.heap.IsCell c v
 free:H X.env.locals=none
 bX:∀x c,X.env.cells.lookup x=some c->H c=none
 pin:∀p∈X.pn++Ã,s.heap.get? p.1=some p.2/\H p.1=none/\p.1≠X.env.locals/\p.1∉X.fs/\∀v,p.2.data≠ .cell v
 hok:cZ X.prog X.w H s.heap
 len:Y.length=X.N.length
section
variable{X:Cx}{Ã:List (À×Obj)}{Y:List (Option V)}{H H':Hp}{s:Â}{h':Ð}
def Cx.Ok.T5(ok:X.Ok){b:À}{o:Obj}(e:X.base.get? b=some o):b∉X.fs:=λhb=>by have:=(ok.gK.mem hb).1;rw[e] at this;cases this
theorem Inv.bs(I:Inv X Ã Y H s):∀b o,X.base.get? b=some o->s.heap.get? b=some o/\H b=none:=λb o e=>
 ⟨I.base.keep b o (I.ok.bs b o e).1 (I.ok.bs b o e).2 (I.ok.T5 e) (I.ok.ut b o e),I.base.free b o (I.ok.bs b o e).1 (I.ok.bs b o e).2 (I.ok.ut b o e)⟩
def Inv.bk(I:Inv X Ã Y H s):∀b o,X.base.get? b=some o->s.heap.get? b=some o:=λb o e=>(I.bs b o e).1
theorem Inv.tb(I:Inv X Ã Y H s):vT X.K X.mg X.base H:=λx c P hx e=>⟨(I.ok.tb x c P hx e).1,I.base.c_ _ _ (I.ok.tb x c P hx e).2.1,(I.ok.tb x c P hx e).2.2⟩
theorem Inv.mod(I:Inv X Ã Y H s):Mod X.K X.mg X.base:=I.ok.mod
def Inv.da(I:Inv X Ã Y H s):X.K.In s.heap:=I.ok.mod.Hw.keeps I.bk
theorem Inv.lt(I:Inv X Ã Y H s):X.env.locals<s.heap.objs.size:=let ⟨_,hn,_⟩:=I.loc;hn.lt
def Inv.sz(I:Inv X Ã Y H s):X.s₀.heap.objs.size<=s.heap.objs.size:=ϲ I.ok.above (kh I.lt)
def Inv.T6(I:Inv X Ã Y H s){a:À}(h:s.heap.objs.size<=a):a∉X.fs:=λhb=>by obtain⟨_,o,ho,_⟩:=I.ok.gK.mem hb;exact absurd (ŕ (ñ ho) (ϲ I.sz h)) (ϱ _)
def Inv.FE(I:Inv X Ã Y H s):∀x c,X.env.cells.lookup x=some c->c≠X.env.locals:=λx c e z=>by obtain⟨v,o,ho,hd⟩:=I.cell x c e;obtain⟨m,⟨o',es,ep,yZ,KC,_⟩,_⟩:=I.loc;rw[z,yZ] at ho;cases ho;rw[KC] at hd;cases hd
theorem Inv.gK(I:Inv X Ã Y H s):s.heap.FunFrames X.base X.outer:=by
 have all:∀(l:List Env),(∀b∈gI l,b∈X.fs)->X.s₀.heap.FunFrames X.base l->s.heap.FunFrames X.base l:=by
  intro l
  induction l with
  |nil=>intro _ _;trivial
  |cons env r ih=>intro hs hl;obtain⟨hk,⟨L,o,hf,hn,ho,hd⟩,hr⟩:=hl;have hL:L∈X.fs:=hs L (by unfold gI;rw[sA,hf];exact ű);obtain⟨sl,e⟩:=I.base.slot L o ho (I.ok.B4 L hL) hL λz=>I.ok.we L z hL;exact⟨hk,⟨L,_,hf,hn,e,hd⟩,ih (λb hb=>hs b (by unfold gI;rw[sA,hf];exact í _ hb)) hr⟩
 exact all X.outer (λ_ hb=>hb) I.ok.gK
theorem Inv.stack(I:Inv X Ã Y H s):s.heap.FunFrames X.base X.stack:=by
 rcases I.ok.stk with e|⟨e,hf⟩
 ·rw[e];exact I.gK
 ·rw[e];obtain⟨m,hn,_⟩:=I.loc;refine .cons (by rw[I.ok.kind];decide) hf hn ?_ I.gK;exact tz (ϲ I.ok.zY I.ok.above)
def Inv.oa(I:Inv X Ã Y H s):∀b∈gI X.stack,b∈X.env.locals::X.fs:=λb hb=>by
 rcases I.ok.stk with e|⟨e,hf⟩
 ·rw[e] at hb;exact í _ hb
 ·rw[e] at hb;unfold gI at hb;rw[sA,hf] at hb;exact hb
def Inv.nN(I:Inv X Ã Y H s):∀b∈gI X.stack,H b=none:=λb hb=>by
 rcases Č.mp (I.oa b hb) with e|hb
 ·rw[e];exact I.free
 ·obtain⟨_,o,ho,_⟩:=I.ok.gK.mem hb;exact I.base.free b o ho (I.ok.B4 b hb) λz=>I.ok.we b z hb
def Inv.step{g':Array GenState}{t':Nat}{d':Drawn}{ch:List À}(I:Inv X Ã Y H s)
 (Cc:∀b∈ch,(b∈X.ex\/X.s₀.heap.objs.size<=b)/\b≠X.env.locals/\(∀x c,X.env.cells.lookup x=some c->c≠b)/\∀p∈X.pn++Ã,p.1≠b)
 (keep:∀b o,b≠X.env.locals->b∉X.fs->b∉ch->s.heap.get? b=some o->H b=none->h'.get? b=some o)
 (slot:∀b o,b≠X.env.locals->b∈X.fs->b∉ch->s.heap.get? b=some o->H b=none->∃sl,h'.get? b=some {o with slots:=sl})(free:∀b o,b∉ch->s.heap.get? b=some o->H b=none->H' b=none)
 (there:∀b o,b∉ch->s.heap.get? b=some o->∃o',h'.get? b=some o')
 (tups:∀b xs,H b=some (.tup xs)->H' b=some (.tup xs))(eI:∀b o u,H b=some (.bS o u)->H' b=some (.bS o u))(c_:∀b q,H b=some (.jd q)->H' b=some (.jd q))
 (ns:∀m,s.heap.Ns X.env.locals m->h'.Ns X.env.locals m)(hok:cZ X.prog X.w H' h')(hg:bu g') :
 Inv X Ã Y H' {s with heap:=h',gens:=g',drawn:=d',toks:=t'}:=by
 have B5:∀b o,X.s₀.heap.get? b=some o->b≠X.env.locals:=λb o e=>ħ (ŕ (ñ e) I.ok.above);have Sk:∀b o,X.s₀.heap.get? b=some o->b∉X.ex->b∉ch:=λb o e hx hb=>by
  rcases(Cc b hb).1 with z|z
  ·exact hx z
  ·exact absurd (ŕ (ñ e) z) (ϱ _)
 have KD:∀x c,X.env.cells.lookup x=some c->∀v,s.heap.IsCell c v->h'.IsCell c v:=λx c e v ⟨o,ho,hd⟩=>by
  have Pb:c∉ch:=λz=>(Cc c z).2.2.1 x c e rfl;by_cases hc:c∈X.fs
  ·obtain⟨sl,q⟩:=slot c o (I.FE x c e) hc Pb ho (I.bX x c e);exact⟨_,q,hd⟩
  ·exact⟨o,keep c o (I.FE x c e) hc Pb ho (I.bX x c e),hd⟩
 refine⟨I.ok,I.os,hg,⟨λb o e n hb hx=>?_,λb o e n hb hx=>?_,λb o e n hx=>?_,λb o e hx=>?_,λb xs e=>tups b xs (I.base.tups b xs e),λb o xs e=>eI b o xs (I.base.eI b o xs e),λb ps e=>?_⟩,?_,λx c e=>?_,?_,λx c e=>?_,λp hp=>?_,hok,I.len⟩
 ·exact keep b o (B5 b o e) hb (Sk b o e hx) (I.base.keep b o e n hb hx) (I.base.free b o e n hx)
 ·obtain⟨sl,e1⟩:=I.base.slot b o e n hb hx;obtain⟨sl',e2⟩:=slot b _ (B5 b o e) hb (Sk b o e hx) e1 (I.base.free b o e n hx);exact⟨sl',e2⟩
 ·obtain⟨o',e1⟩:=I.base.there b o e hx;exact free b o' (Sk b o e hx) e1 (I.base.free b o e n hx)
 ·obtain⟨o',e1⟩:=I.base.there b o e hx;exact there b o' (Sk b o e hx) e1
 ·exact c_ b ps (I.base.c_ b ps e)
 ·obtain⟨m,hn,hl⟩:=I.loc;refine⟨m,ns m hn,λi x v e1 e2 e3=>?_⟩;obtain⟨u,r,l⟩:=hl i x v e1 e2 e3;refine⟨u,r,?_⟩;rcases l with l|⟨k,c,e,z⟩
  ·exact .inl l
  ·exact .inr ⟨k,c,e,KD x c e _ z⟩
 ·obtain⟨v,z⟩:=I.cell x c e;exact⟨v,KD x c e v z⟩
 ·obtain⟨m,⟨o,_,_,ho,_⟩,_⟩:=I.loc;exact free _ o (λz=>(Cc _ z).2.1 rfl) ho I.free
 ·obtain⟨v,o,ho,hd⟩:=I.cell x c e;exact free c o (λz=>(Cc c z).2.2.1 x c e rfl) ho (I.bX x c e)
 ·obtain⟨e,n,ne,nf,d⟩:=I.pin p hp;have Pb:p.1∉ch:=λz=>(Cc p.1 z).2.2.2 p hp rfl;exact⟨keep p.1 p.2 ne nf Pb e n,free p.1 p.2 Pb e n,ne,nf,d⟩
def Inv.un{t':Nat}(I:Inv X Ã Y H s)(u:Un X.fs [] H H' s.heap h')(hok:cZ X.prog X.w H' h'):Inv X Ã Y H' {s with heap:=h',toks:=t'}:=by obtain⟨m,⟨o,es,ep,ho,r⟩,_⟩:=id I.loc;obtain⟨sl,hL⟩:=u.any ho I.free (by simp);exact I.step (g':=s.gens) (d':=s.drawn) (ch:=[]) (λ_ z=>nomatch z) (λb o _ hb _ e n=>u.keep b o e n hb (by simp)) (λb o _ hb _ e n=>u.slot b o e n hb (by simp)) (λb o _ e n=>u.free b o e n (by simp)) (λb o _ e=>u.there b o e (by simp)) u.tups u.eI u.c_ (λm' hm=>by obtain⟨o',WI,WJ,yZ,r'⟩:=hm;rw[ho] at yZ;cases yZ;exact⟨_,WI,WJ,hL,r'⟩) hok I.bare
def Inv.call{g':Array GenState}{t':Nat}{d':Drawn}{ch:List À}(I:Inv X Ã Y H s)(u:Un (gI X.stack) ch H H' s.heap h')(hok:cZ X.prog X.w H' h')(hg:bu g')
 (Cc:∀b∈ch,(b∈X.ex\/X.s₀.heap.objs.size<=b)/\b≠X.env.locals/\(∀x c,X.env.cells.lookup x=some c->c≠b)/\∀p∈X.pn++Ã,p.1≠b) :
 Inv X Ã Y H' {s with heap:=h',gens:=g',drawn:=d',toks:=t'}:=by
 obtain⟨m,⟨o,es,ep,ho,r⟩,_⟩:=id I.loc;obtain⟨sl,hL⟩:=u.any ho I.free λz=>(Cc _ z).2.1 rfl;exact I.step (ch:=ch) Cc (λb o hL hb hc e n=>u.keep b o e n (λz=>(Č.mp (I.oa b z)).elim hL hb) hc) (λb o _ _ hc e n=>u.any e n hc) (λb o hc e n=>u.free b o e n hc) (λb o hc e=>u.there b o e hc) u.tups u.eI u.c_ (λm' hm=>by obtain⟨o',WI,WJ,yZ,r'⟩:=hm;rw[ho] at yZ;cases yZ;exact⟨_,WI,WJ,hL,r'⟩) hok hg
def Inv.turned{t':Nat}{it:À}(I:Inv X Ã Y H s)(k:∀b o,b≠it->s.heap.get? b=some o->h'.get? b=some o)(hn:H it=none)(hL:it≠X.env.locals)
 (h1:it∈X.ex\/X.s₀.heap.objs.size<=it)(h2:∀x c,X.env.cells.lookup x=some c->c≠it)(h3:∀p∈X.pn++Ã,p.1≠it):Inv X Ã Y H {s with heap:=h',toks:=t'}:=by
 have Pc:∀b u,H b=some u->b≠it:=λb u e z=>by rw[z,hn] at e;cases e
 refine I.step (g':=s.gens) (d':=s.drawn) (ch:=[it]) (λb hb=>?_) (λb o _ _ hc e _=>k b o (λz=>hc (by simp[z])) e) (λb o _ _ hc e _=>⟨o.slots,k b o (λz=>hc (by simp[z])) e⟩) (λ_ _ _ _ n=>n)
  (λb o hc e=>⟨o,k b o (λz=>hc (by simp[z])) e⟩) (λ_ _ e=>e) (λ_ _ _ e=>e) (λ_ _ e=>e) (λm hm=>?_) (λb u e=>?_) I.bare
 ·have e:b=it:=by simpa using hb
  subst e;exact⟨h1,hL,h2,h3⟩
 ·obtain⟨o,es,ep,ho,r⟩:=hm;exact⟨o,es,ep,k _ o (Đ hL) ho,r⟩
 ·refine(I.hok b u e).stay (λc v hc q=>k c v ?_ q) (λ_ q=>q) λ_ _ q=>q;rcases hc with z|z
  ·rw[z];exact Pc b u e
  ·exact Pc c _ z
def Inv.tok(I:Inv X Ã Y H s)(t:Nat):Inv X Ã Y H {s with toks:=t}:=I.un (h':=s.heap) (t':=t) Un.refl I.hok
theorem Inv.kept{t':Nat}(I:Inv X Ã Y H s)(k:∀b u,s.heap.get? b=some u->h'.get? b=some u):Inv X Ã Y H {s with heap:=h',toks:=t'}:=I.un (Un.kept k) (I.hok.kept k)
theorem Inv.laid{a:À}{o:HO}{t':Nat}(I:Inv X Ã Y H s)(k:∀b u,s.heap.get? b=some u->h'.get? b=some u)(hp:s.heap.objs.size<=a)(new:Ť X.prog X.w (upd H a o) h' a o) :
 Inv X Ã Y (upd H a o) {s with heap:=h',toks:=t'}:=I.un (Un.laid k hp (I.hok.fresh hp)) (I.hok.laid k hp new)
theorem Inv.write{x e:À}{o:HO}{t':Nat}(I:Inv X Ã Y H s)(mu:Si (H x))(he:e=x\/H e=some (.own x))(k:∀b u,b≠e->s.heap.get? b=some u->h'.get? b=some u)(Hf:∃u,h'.get? e=some u)
 (new:Ť X.prog X.w (upd H x o) h' x o):Inv X Ã Y (upd H x o) {s with heap:=h',toks:=t'}:=I.un (Un.write mu he k Hf) (I.hok.write mu he k Hf new)
def Inv.zZ{og:List (À×Obj)}(I:Inv X Ã Y H s)(h:∀p∈og,s.heap.get? p.1=some p.2/\H p.1=none/\p.1≠X.env.locals/\p.1∉X.fs/\∀v,p.2.data≠ .cell v):Inv X og Y H s:=
 ⟨I.ok,I.os,I.bare,I.base,I.loc,I.cell,I.free,I.bX,λp hp=>(Ų.mp hp).elim (λz=>I.pin p (bp _ z)) (h p),I.hok,I.len⟩
def oi{N:List Str}(hN:N.Nodup){i j:Nat}{x:Str}(a:N[i]?=some x)(b:N[j]?=some x):i=j:=by obtain⟨h1,e1⟩:=fh.mp a;obtain⟨h2,e2⟩:=fh.mp b;exact(List.getElem_inj hN).mp (e1.trans e2.symm)
def qW{M:cC}{A:à}{E:Á->Â->Prop}{i:Nat}{x:Str}{v:V}{u:Á}{Q:Unit->Â->Prop}(I:Inv X Ã Y H s)(hN:X.N.Nodup)(hi:X.N[i]?=some x)(hx:Loc X.env.scope x)(r:RelV v u)
 (h:∀s',Inv X Ã (Y.set i (some v)) H s'->(∃a,ao a s.heap s'.heap/\(a=X.env.locals\/X.env.cells.lookup x=some a))->Q () s')(hf:X.fn x=true\/X.env.scope.names.lookup x=some .local:=by first|exact .inl rfl|exact .inr rfl|assumption):Î M A (storeName X.env x u) Q E s:=by
 obtain⟨m,hn,hl⟩:=id I.loc;have WK:(X.env.scope.kind== .class || (X.env.scope.kind== .module && X.env.locals != X.env.globals))=false:=by rw[I.ok.kind];rfl
 have Xr:i < Y.length:=by rw[I.len];exact(fh.mp hi).1
 have FE:=I.FE;have A8:∀{a:À} {h':Ð},(∃o,s.heap.get? a=some o/\H a=none)->ao a s.heap h'->cZ X.prog X.w H h':=fun{a h'} ha hs b ob e=>by
  obtain⟨_,_,hfree⟩:=ha;refine(I.hok b ob e).stay (λc w' hc q=>(hs.2 c ?_).trans q) (λ_ q=>q) λ_ _ q=>q;rintro rfl;rcases hc with rfl|hc
  ·rw[hfree] at e;cases e
  ·rw[hfree] at hc;cases hc
 rcases hx with hk|hk
 ·refine wpAny_storeName_local hk hn (λh' KE hs=>?_) WK;obtain⟨oL,_,_,hoL,_⟩:=id hn;refine h _ ⟨I.ok,I.os,I.bare,⟨λb o e n hb hx=>?_,λb o e n hb hx=>?_,I.base.free,λb o e hx=>?_,I.base.tups,I.base.eI,I.base.c_⟩,⟨_,KE,λj y v' e1 e2 e3=>?_⟩,λy c e=>?_,I.free,I.bX,λp hp=>?_,A8 ⟨oL,hoL,I.free⟩ hs,by simpa using I.len⟩ ⟨_,hs,.inl rfl⟩
  ·exact(hs.2 b (ħ (ŕ (ñ e) I.ok.above))).trans (I.base.keep b o e n hb hx)
  ·obtain⟨sl,e1⟩:=I.base.slot b o e n hb hx;exact⟨sl,(hs.2 b (ħ (ŕ (ñ e) I.ok.above))).trans e1⟩
  ·obtain⟨o',e1⟩:=I.base.there b o e hx;exact⟨o',(hs.2 b (ħ (ŕ (ñ e) I.ok.above))).trans e1⟩
  ·by_cases hj:j=i
   ·subst hj;rw[hi] at e1;cases e1;rw[j_ Xr] at e2;cases e2;exact⟨u,r,.inl ⟨hk,by simp⟩⟩
   ·rw[fi (Đ hj)] at e2;obtain⟨u',r',q⟩:=hl j y v' e1 e2 e3;refine⟨u',r',?_⟩;rcases q with⟨k,e⟩|⟨k,c,e,z⟩
    ·refine .inl ⟨k,?_⟩;have:y≠x:=λe=>hj (oi hN e1 (e▸hi));simp[this,e]
    ·exact .inr ⟨k,c,e,z.sameBut hs (FE y c e)⟩
  ·obtain⟨w',z⟩:=I.cell y c e;exact⟨w',z.sameBut hs (FE y c e)⟩
  ·obtain⟨e,n,ne,nf,d⟩:=I.pin p hp;exact⟨(hs.2 p.1 ne).trans e,n,ne,nf,d⟩
 ·have WL:X.fn x=true:=by
   rcases hf with z|z
   ·exact z
   ·rw[z] at hk;cases hk
  obtain⟨c,hc⟩:=I.ok.has x (.inl hk);obtain⟨w',z⟩:=I.cell x c hc;refine wpAny_storeName_cell I.ok.kind hk hc z (λh' Qqq7 hs=>?_);obtain⟨oc,Qqj3,T7⟩:=id z;refine h {s with heap:=h'} ⟨I.ok,I.os,I.bare,⟨λb o e n hb hx=>?_,λb o e n hb hx=>?_,I.base.free,λb o e hx=>?_,I.base.tups,I.base.eI,I.base.c_⟩,⟨m,hn.sameBut hs (Đ (FE x c hc)),λj y v' e1 e2 e3=>?_⟩,λy c' e=>?_,I.free,I.bX,λp hp=>?_,A8 ⟨oc,Qqj3,I.bX x c hc⟩ hs,by simpa using I.len⟩ ⟨c,hs,.inr hc⟩
  ·exact(hs.2 b (ħ (ŕ (ñ e) (I.ok.cab x c WL hc)))).trans (I.base.keep b o e n hb hx)
  ·obtain⟨sl,e1⟩:=I.base.slot b o e n hb hx;exact⟨sl,(hs.2 b (ħ (ŕ (ñ e) (I.ok.cab x c WL hc)))).trans e1⟩
  ·obtain⟨o',e1⟩:=I.base.there b o e hx;exact⟨o',(hs.2 b (ħ (ŕ (ñ e) (I.ok.cab x c WL hc)))).trans e1⟩
  ·by_cases hj:j=i
   ·subst hj;rw[hi] at e1;cases e1;rw[j_ Xr] at e2;cases e2;exact⟨u,r,.inr ⟨.inl hk,c,hc,Qqq7⟩⟩
   ·rw[fi (Đ hj)] at e2;obtain⟨u',r',q⟩:=hl j y v' e1 e2 e3;refine⟨u',r',?_⟩;rcases q with q|⟨k,c',e,z'⟩
    ·exact .inl q
    ·refine .inr ⟨k,c',e,z'.sameBut hs ?_⟩;rintro rfl;exact hj (oi hN e1 (I.ok.inj _ _ _ e hc▸hi))
  ·by_cases Qqj4:c'=c
   ·subst Qqj4;exact⟨_,Qqq7⟩
   ·obtain⟨w2,z2⟩:=I.cell y c' e;exact⟨w2,z2.sameBut hs Qqj4⟩
  ·obtain⟨e,n,ne,nf,d⟩:=I.pin p hp;refine⟨(hs.2 p.1 ?_).trans e,n,ne,nf,d⟩;intro q;rw[q,Qqj3] at e;have q':oc=p.2:=Š e;exact d w' (by rw[<-q'];exact T7)
def oj{M:cC}{A:à}{E:Á->Â->Prop}{i:Nat}{x:Str}{v:V}{u:Á}{Q:Unit->Â->Prop}(I:Inv X Ã Y H s)(hN:X.N.Nodup)(hi:X.N[i]?=some x)(hx:Loc X.env.scope x)(r:RelV v u)
 (h:∀s',Inv X Ã (Y.set i (some v)) H s'->Q () s')(hf:X.fn x=true\/X.env.scope.names.lookup x=some .local:=by first|exact .inl rfl|exact .inr rfl|assumption):Î M A (storeName X.env x u) Q E s:=
 qW I hN hi hx r (λs' I' _=>h s' I') hf
def Inv.call'{s':Â}{ch:List À}(I:Inv X Ã Y H s)(ho:s'.os=s.os)(u:Un (gI X.stack) ch H H' s.heap s'.heap)(hok:cZ X.prog X.w H' s'.heap)(hg:bu s'.gens)
 (Cc:∀b∈ch,(b∈X.ex\/X.s₀.heap.objs.size<=b)/\b≠X.env.locals/\(∀x c,X.env.cells.lookup x=some c->c≠b)/\∀p∈X.pn++Ã,p.1≠b):Inv X Ã Y H' s':=by
 obtain⟨h',g',d',t',o'⟩:=s';have e:o'=s.os:=ho;subst e;exact I.call (g':=g') (t':=t') (d':=d') u hok hg Cc
end
abbrev XK:=Á->Option À->Hp->Prop
abbrev St:=List (Option V)
abbrev Ą:= St
abbrev VK:=V->Hp->Prop
abbrev TE:=St->Hp->VK->Prop
abbrev TT:=St->Hp->(Bool->Hp->Prop)->Prop
abbrev TA:=St->Hp->(List V->Hp->Prop)->Prop
structure Ends where
 nx:St->Hp->Prop
 rt:VK
 bk:St->Hp->Prop:=λ_ _=>False
 ct:St->Hp->Prop:=λ_ _=>False
abbrev TS:=Ends->St->Hp->Prop
def EP(X:Cx)(Ã:List (À×Obj))(Y:St)(Q:VK)(u:Á)(s':Â):Prop:=∃v H',Inv X Ã Y H' s'/\RelV v u/\Q v H'
def TP(X:Cx)(Ã:List (À×Obj))(Y:St)(Q:Bool->Hp->Prop)(b:Bool)(s':Â):Prop:=∃H',Inv X Ã Y H' s'/\Q b H'
def AP(X:Cx)(Ã:List (À×Obj))(Y:St)(Q:List V->Hp->Prop)(us:List Á)(s':Â):Prop:=∃vs H',Inv X Ã Y H' s'/\ĭ vs us/\Q vs H'
def SP(X:Cx)(Ã:List (À×Obj))(D:Ends)(f:Flow)(s':Â):Prop:=
 match f with
 | .next=>∃Y' H',Inv X Ã Y' H' s'/\D.nx Y' H'
 | .brk=>∃Y' H',Inv X Ã Y' H' s'/\D.bk Y' H'
 | .cont=>∃Y' H',Inv X Ã Y' H' s'/\D.ct Y' H'
 | .ret u=>∃v Y' H',Inv X Ã Y' H' s'/\RelV v u/\D.rt v H'
def PE(X:Cx)(e:Æ)(t:TE):Prop:=
 ∀(Ã:List (À×Obj)) (s:Â) (Y:St) (H:Hp) (Q:VK),Inv X Ã Y H s->t Y H Q->Î (Ì X.prog X.w) X.A (eval e X.env) (EP X Ã Y Q) X.xe s
def PT(X:Cx)(e:Æ)(t:TT):Prop:=
 ∀(Ã:List (À×Obj)) (s:Â) (Y:St) (H:Hp) (Q:Bool->Hp->Prop),Inv X Ã Y H s->t Y H Q->Î (Ì X.prog X.w) X.A (isTrue e X.env (eval e X.env)) (TP X Ã Y Q) X.xe s
def PW(X:Cx)(e:Æ)(t:TT):Prop:=
 ∀(whole:Sem Á) (Ã:List (À×Obj)) (s:Â) (Y:St) (H:Hp) (Q:Bool->Hp->Prop),Inv X Ã Y H s->t Y H Q->Î (Ì X.prog X.w) X.A (isTrue e X.env whole) (TP X Ã Y Q) X.xe s
def PW.pt{X:Cx}{e:Æ}{t:TT}(h:PW X e t):PT X e t:=h _
def PA(X:Cx)(es:List Æ)(t:TA):Prop:=
 ∀(pos:Pos) (Ã:List (À×Obj)) (s:Â) (Y:St) (H:Hp) (Q:List V->Hp->Prop),Inv X Ã Y H s->t Y H Q->Î (Ì X.prog X.w) X.A (spliced (ĝ pos (Ö es X.env))) (AP X Ã Y Q) X.xe s
def PS(X:Cx)(st:Ò)(t:TS):Prop:=
 ∀(Ã:List (À×Obj)) (s:Â) (Y:St) (H:Hp) (D:Ends),Inv X Ã Y H s->t D Y H->Î (Ì X.prog X.w) X.A (exec st X.env) (SP X Ã D) X.xe s
def ay(X:Cx)(st:List Ò)(t:TS):Prop:=
 ∀(Ã:List (À×Obj)) (s:Â) (Y:St) (H:Hp) (D:Ends),Inv X Ã Y H s->t D Y H->Î (Ì X.prog X.w) X.A (execs st X.env) (SP X Ã D) X.xe s
def ŝ{α:Type}{t:Sem α}{Q Q':α->Â->Prop}{M:cC}{A:à}{E:Á->Â->Prop}{s:Â}(h:Î M A t Q E s)(hQ:∀a s,Q a s->Q' a s):Î M A t Q' E s:=Ň h hQ λ_ _ x=>x
section
variable{X:Cx}
def gF(i:Nat):TE:=λY H Q=>∃v,Y[i]?=some (some v)/\Q v H
def tC(v:V):TE:=λ_ H Q=>Q v H
def gL{i:Nat}{x:Str}{pos:Pos}(hN:X.N[i]?=some x)(hv:Bi X.env.scope x)(hd:(x== ("__debug__" :Str))=false:=by decide)(gE:(x== ("__classdict__" :Str))=false:=by decide):PE X (.Name x pos) (gF i):=by
 intro Ã s Y H Q I h;obtain⟨v,e,h⟩:=h;obtain⟨m,hn,hl⟩:=I.loc;obtain⟨u,r,l⟩:=hl i x v hN e hv;have jP:EP X Ã Y Q u s:=⟨v,H,I,r,h⟩;rcases l with⟨hk,hm⟩|⟨hk,c,hc,hcell⟩
 ·exact wpAny_Name (wpAny_loadName_local I.ok.kind hk hn hm jP) hd
 ·rcases hk with hk|hk
  ·exact wpAny_Name (wpAny_loadName_cell I.ok.kind hk hc hcell jP) hd
  ·exact wpAny_Name (wpAny_loadName_free I.ok.kind hk hc hcell jP gE) hd
def uu{i j pos}:PE X (.Constant (.int i) j pos) (tC (.int i)):=λ_ _ _ H _ I h=>wpAny_Constant_int ⟨.int i,H,I.tok _,⟨_,rfl⟩,h⟩
def Pd{b j pos}:PE X (.Constant (.bool b) j pos) (tC (.bl b)):=λ_ _ _ H _ I h=>Constant_bool ⟨.bl b,H,I,rfl,h⟩
def KZ{j pos}:PE X (.Constant .none j pos) (tC .non):=λ_ _ _ H _ I h=>Constant_none ⟨.non,H,I,rfl,h⟩
def K_{x j pos}:PE X (.Constant (.str x) j pos) (tC (.str x)):=λ_ _ _ H _ I h=>Calls.Constant_str ⟨.str x,H,I.tok _,⟨_,rfl⟩,h⟩
def Gl(X:Cx)(x:Str):Prop:=X.env.kindOf x=some .globalImplicit
def bI{E:Á->Â->Prop}{Ã:List (À×Obj)}{s:Â}{Y:St}{H:Hp}{x:Str}{u:Á}{pos:Pos}{Q:Á->Â->Prop}(I:Inv X Ã Y H s)(hg:Gl X x)(hm:X.mg x=some u)(h:Q u s)
 (hd:(x== ("__debug__" :Str))=false:=by decide):Î (Ì X.prog X.w) X.A (eval (.Name x pos) X.env) Q E s:=
 zD I.ok.kind hg (Calls.loadGlobal_global (by rw[I.ok.glob];exact I.mod.glob.keeps I.bk) hm h) hd
def om{E:Á->Â->Prop}{Ã:List (À×Obj)}{s:Â}{Y:St}{H:Hp}{x:Str}{u:Á}{pos:Pos}{Q:Á->Â->Prop}(I:Inv X Ã Y H s)(hg:Gl X x)(hm:X.mg x=none)(hv:bv x=some u)(h:Q u s)
 (hn:x≠ "__name__" := by decide)(hd:(x== ("__debug__" :Str))=false:=by decide):Î (Ì X.prog X.w) X.A (eval (.Name x pos) X.env) Q E s:=by
 obtain⟨mb,h1,h2⟩:=I.mod.blt;exact zD I.ok.kind hg (Calls.loadGlobal_builtin (by rw[I.ok.glob];exact I.mod.glob.keeps I.bk) hm (by rw[I.ok.blt];exact h1.keeps I.bk) ((h2 x hn).trans hv) h) hd
def ĸ{x:Str}{v:V}{u:Á}{pos:Pos}(hg:Gl X x)(hm:X.mg x=some u)(r:RelV v u)(hd:(x== ("__debug__" :Str))=false:=by decide):PE X (.Name x pos) (tC v):=
 λ_ _ _ H _ I h=>bI I hg hm ⟨v,H,I,r,h⟩ hd
def z_{x:Str}{v:V}{u:Á}{pos:Pos}(hg:Gl X x)(hm:X.mg x=none)(hv:bv x=some u)(r:RelV v u)(hn:x≠ "__name__" := by decide)(hd:(x== ("__debug__" :Str))=false:=by decide):PE X (.Name x pos) (tC v):=
 λ_ _ _ H _ I h=>om I hg hm hv ⟨v,H,I,r,h⟩ hn hd
variable{a b:Æ}{ta tb:TE}{pos:Pos}
variable{tA Sm:TT}{ü:List Æ}
def T8(t u:TT):TT:=λY H Q=>t Y H λc H1=>if c=true then u Y H1 Q else Q false H1
def tOr(t u:TT):TT:=λY H Q=>t Y H λc H1=>if c=true then Q true H1 else u Y H1 Q
def T9(t:TT):TT:=λY H Q=>t Y H λc H1=>Q (!c) H1
def FF(ha:PT X a tA):PW X (.BoolOp .And [a] pos) tA:=by
 intro wh Ã s Y H Q I h;refine isTrue_and (ŝ (ha Ã s Y H Q I h) λc s1 e=>?_);cases c with
 |true=>exact isTrue_and_nil e
 |false=>exact e
def K0(ha:PT X a tA):PW X (.BoolOp .Or [a] pos) tA:=by
 intro wh Ã s Y H Q I h;refine isTrue_or (ŝ (ha Ã s Y H Q I h) λc s1 e=>?_);cases c with
 |false=>exact isTrue_or_nil e
 |true=>exact e
def K1(ha:PT X a tA)(hb:PW X (.BoolOp .And (b::ü) pos) Sm):PW X (.BoolOp .And (a::b::ü) pos) (T8 tA Sm):=by
 intro wh Ã s Y H Q I h;refine isTrue_and (ŝ (ha Ã s Y H _ I h) λc s1 ⟨H1,I1,q1⟩=>?_);cases c with
 |true=>exact hb wh Ã s1 Y H1 Q I1 q1
 |false=>exact⟨H1,I1,q1⟩
def Pe(ha:PT X a tA)(hb:PW X (.BoolOp .Or (b::ü) pos) Sm):PW X (.BoolOp .Or (a::b::ü) pos) (tOr tA Sm):=by
 intro wh Ã s Y H Q I h;refine isTrue_or (ŝ (ha Ã s Y H _ I h) λc s1 ⟨H1,I1,q1⟩=>?_);cases c with
 |true=>exact⟨H1,I1,q1⟩
 |false=>exact hb wh Ã s1 Y H1 Q I1 q1
def K2(ha:PT X a tA):PT X (.UnaryOp .Not a pos) (T9 tA):=by intro Ã s Y H Q I h;exact isTrue_not (ha Ã s Y H (λc H1=>Q (!c) H1) I h)
def K3{op}{t:TE}(h:PE X a t):PE X (.BoolOp op [a] pos) t:=λÃ s Y H Q I hw=>BoolOp_one (h Ã s Y H Q I hw)
def tIf(t:TT)(ta tb:TE):TE:=λY H Q=>t Y H λc H1=>if c=true then ta Y H1 Q else tb Y H1 Q
def Cg{c:Æ}(hc:PT X c tA)(ha:PE X a ta)(hb:PE X b tb):PE X (.IfExp c a b pos) (tIf tA ta tb):=by
 intro Ã s Y H Q I h;refine wpAny_IfExp (ŝ (hc Ã s Y H _ I h) λd s1 ⟨H1,I1,q1⟩=>?_);cases d with
 |true=>exact ha Ã s1 Y H1 Q I1 q1
 |false=>exact hb Ã s1 Y H1 Q I1 q1
end
def ϒ(K:É)(H:Hp)(a:À)(xs:List V):Prop:=
 Rd H a (.lst xs)\/
  ∃(o:Obj) (ě:Array Á) (n:Nat),K.lookup a=some o/\o.cls=.type "list" /\o.dict=none/\o.data=.seq ě n/\ě.size<=sizeLine/\ĭ xs ě.toList
def eQ(K:É)(H:Hp)(a:À)(xs:List V):Prop:=
 Rd H a (.tup xs)\/
  ∃(o:Obj) (ě:Array Á) (n:Nat),K.lookup a=some o/\o.cls=.type "tuple" /\o.data=.seq ě n/\ě.size<=sizeLine/\ĭ xs ě.toList
noncomputable def Ua:Á->Option V
 | .none=>some .non
 | .bool b=>some (.bl b)
 | .int i _=>some (.int i)
 | .str x _=>some (.str x)
 | .bytes b _=>some (.Ht b)
 | .float b _=>some (.flt b)
 | .ref a=>some (.ref a)
 | .type n=>some (.ty n)
 |_=>none
def RelV.abs{x:V}{u:Á}(r:RelV x u):Ua u=some x:=by
 cases x with
 |non=>cases r;rfl
 |bl _=>cases r;rfl
 |int _=>obtain⟨t,rfl⟩:=r;rfl
 |str _=>obtain⟨t,rfl⟩:=r;rfl
 |Ht _=>obtain⟨t,rfl⟩:=r;rfl
 |flt _=>obtain⟨t,rfl⟩:=r;rfl
 |ref _=>cases r;rfl
 |ty _=>cases r;rfl
def RelV.inj{x y:V}{u:Á}(r:RelV x u)(q:RelV y u):x=y:=Š (r.abs.symm.trans q.abs)
theorem ĭ.inj:∀{xs ys:List V} {us:List Á},ĭ xs us->ĭ ys us->xs=ys
 |_,_,_,.nil,.nil=>rfl
 |_,_,_,.cons r t,.cons r' t'=>by rw[r.inj r',ĭ.inj t t']
section
variable{X:Cx}{Ã:List (À×Obj)}{Y:St}{H:Hp}{s:Â}{a:À}{xs ys:List V}
def ϒ.of{K:É}(h:H a=some (.lst xs)):ϒ K H a xs:=.inl (.inl h)
def eQ.of{K:É}(h:H a=some (.tup xs)):eQ K H a xs:=.inl (.inl h)
def Inv.list(I:Inv X Ã Y H s)(h:ϒ X.K H a xs):∃ě:List Á,ĭ xs ě/\PlainL s.heap a ě.toArray/\xs.length<=sizeLine:=by
 rcases h with h|⟨o,ě,n,hk,hc,hd,hs,hz,r⟩
 ·obtain⟨z,ě,n,r,e⟩:=h.ok I.hok;exact⟨ě,r,⟨_,n,e,rfl,rfl,rfl⟩,z⟩
 ·refine⟨ě.toList,r,⟨o,n,I.da a o hk,hc,hd,by simpa using hs⟩,?_⟩;have e:=r.length;simp only[zf] at e;lia
def Inv.tuple(I:Inv X Ã Y H s)(h:eQ X.K H a xs):∃ě:List Á,ĭ xs ě/\IsTup s.heap a ě.toArray/\xs.length<=sizeLine:=by
 rcases h with h|⟨o,ě,n,hk,hc,hs,hz,r⟩
 ·obtain⟨z,ě,r,p⟩:=h.ok I.hok;exact⟨ě,r,p,z⟩
 ·refine⟨ě.toList,r,⟨o,I.da a o hk,hc,n,by simpa using hs⟩,?_⟩;have e:=r.length;simp only[zf] at e;lia
def Inv.wf(I:Inv X Ã Y H s)(h:ϒ X.K H a xs)(h':ϒ X.K H a ys):xs=ys:=by
 obtain⟨ě,r,⟨o,n,e,_,_,d⟩,_⟩:=I.list h;obtain⟨its',r',⟨o',n',e',_,_,d'⟩,_⟩:=I.list h';rw[e] at e';cases e';rw[d] at d';injection d' with d1 _
 have:ě=its':=by simpa using congrArg Array.toList d1
 subst this;exact r.inj r'
def Inv.Bj(I:Inv X Ã Y H s)(h:eQ X.K H a xs)(h':eQ X.K H a ys):xs=ys:=by
 obtain⟨ě,r,⟨o,e,_,n,d⟩,_⟩:=I.tuple h;obtain⟨its',r',⟨o',e',_,n',d'⟩,_⟩:=I.tuple h';rw[e] at e';cases e';rw[d] at d';injection d' with d1 _
 have:ě=its':=by simpa using congrArg Array.toList d1
 subst this;exact r.inj r'
end
noncomputable abbrev Cx.wish(X:Cx)(E:Á->Â->Prop):Cx:={X with xe:=E}
abbrev Cx.Ŭ(X:Cx):Cx:=X.wish λ_ _=>False
theorem Cx.Ok.wish{X:Cx}(ok:X.Ok)(E:Á->Â->Prop):(X.wish E).Ok:=
 ⟨ok.mod,ok.kind,ok.glob,ok.blt,ok.above,ok.inj,ok.has,ok.cab,ok.hd,ok.frames,ok.stk,ok.OP,ok.bs,ok.zY,ok.ut,ok.we,ok.gK,ok.B4,ok.tb⟩
def Cx.Ok.fW{X:Cx}{E:Á->Â->Prop}(ok:(X.wish E).Ok):X.Ok:=
 ⟨ok.mod,ok.kind,ok.glob,ok.blt,ok.above,ok.inj,ok.has,ok.cab,ok.hd,ok.frames,ok.stk,ok.OP,ok.bs,ok.zY,ok.ut,ok.we,ok.gK,ok.B4,ok.tb⟩
section
variable{X:Cx}{Ã:List (À×Obj)}{Y:St}{H:Hp}{s:Â}{E:Á->Â->Prop}
theorem Inv.wish(I:Inv X Ã Y H s)(E:Á->Â->Prop):Inv (X.wish E) Ã Y H s:=⟨I.ok.wish E,I.os,I.bare,I.base,I.loc,I.cell,I.free,I.bX,I.pin,I.hok,I.len⟩
theorem Inv.fW(I:Inv (X.wish E) Ã Y H s):Inv X Ã Y H s:=⟨I.ok.fW,I.os,I.bare,I.base,I.loc,I.cell,I.free,I.bX,I.pin,I.hok,I.len⟩
theorem SP.fW{D:Ends}{f:Flow}{s':Â}(h:SP (X.wish E) Ã D f s'):SP X Ã D f s':=by
 cases f with
 |next=>obtain⟨Y',H',I,q⟩:=h;exact⟨Y',H',I.fW,q⟩
 |brk=>obtain⟨Y',H',I,q⟩:=h;exact⟨Y',H',I.fW,q⟩
 |cont=>obtain⟨Y',H',I,q⟩:=h;exact⟨Y',H',I.fW,q⟩
 |ret u=>obtain⟨v,Y',H',I,r,q⟩:=h;exact⟨v,Y',H',I.fW,r,q⟩
theorem PE.Ŭ{e:Æ}{t:TE}(h:PE X.Ŭ e t):PE X e t:=λÃ s Y H Q I hw=>
 Ň (h Ã s Y H Q (I.wish _) hw) (λ_ _ ⟨v,H',I',r,q⟩=>⟨v,H',I'.fW,r,q⟩) λ_ _ z=>Ļ z
end
section
variable{X:Cx}{st:Ò}{ü:List Ò}{t u:TS}{e:Æ}{te:TE}{pos:Pos}
def Hx:TS:=λD Y H=>D.nx Y H
def Pf(t u:TS):TS:=λD Y H=>t {D with nx:=u D} Y H
def uv:ay X [] Hx:=λ_ _ Y H _ I h=>kn ⟨Y,H,I,h⟩
def db(h1:PS X st t)(h2:ay X ü u):ay X (st::ü) (Pf t u):=by
 intro Ã s Y H D I h;refine sT (ŝ (h1 Ã s Y H {D with nx:=u D} I h) λf s1 q=>?_);cases f with
 |next=>obtain⟨Y',H',I',q⟩:=q;exact h2 Ã s1 Y' H' D I' q
 |ret v=>exact q
 |brk=>exact q
 |cont=>exact q
def fX(h1:PS X st t):ay X [st] t:=by
 intro Ã s Y H D I h;refine sT (ŝ (h1 Ã s Y H D I h) λf s1 q=>?_);cases f with
 |next=>exact kn q
 |ret v=>exact q
 |brk=>exact q
 |cont=>exact q
def Inv.quiet{Ã:List (À×Obj)}{Y:St}{H:Hp}{s:Â}(I:Inv X Ã Y H s):interactive X.env=false:=by simp[interactive,I.ok.kind]
def on(te:TE):TS:=λD Y H=>te Y H λ_ H1=>D.nx Y H1
def ť(he:PE X e te)(hs:ŗ e none pos.line X.env=ç false:=by rfl):PS X (.Expr e pos) (on te):=by intro Ã s Y H D I h;exact wpAny_Expr_any (ŝ (he Ã s Y H _ I h) λv s1 ⟨x,H1,I1,r1,q1⟩=>⟨Y,H1,I1,q1⟩) I.quiet hs
def Ub(te:TE):TS:=λD Y H=>te Y H D.rt
def K4(he:PE X e te):PS X (.Return (some e) pos) (Ub te):=by intro Ã s Y H D I h;exact wpAny_Return_some (ŝ (he Ã s Y H _ I h) λv s1 ⟨x,H1,I1,r1,q1⟩=>⟨x,Y,H1,I1,r1,q1⟩)
def Uc(c:TT)(t u:TS):TS:=λD Y H=>c Y H λb H1=>if b=true then t D Y H1 else u D Y H1
def Ch{c:Æ}{a b:List Ò}{tc:TT}(hc:PT X c tc)(ha:ay X a t)(hb:ay X b u):PS X (.If c a b pos) (Uc tc t u):=by
 intro Ã s Y H D I h;refine wpAny_If (ŝ (hc Ã s Y H _ I h) λd s1 ⟨H1,I1,q1⟩=>?_);cases d with
 |true=>exact ha Ã s1 Y H1 D I1 q1
 |false=>exact hb Ã s1 Y H1 D I1 q1
end
abbrev TG:=V->St->Hp->(St->Hp->Prop)->Prop
abbrev Ci:=List V->St->Hp->(St->Hp->Prop)->Prop
def PG(X:Cx)(target:Æ)(t:TG):Prop:=
 ∀(Ã:List (À×Obj)) (s:Â) (Y:St) (H:Hp) (v:V) (u:Á) (Q:St->Hp->Prop),Inv X Ã Y H s->RelV v u->t v Y H Q->
  Î (Ì X.prog X.w) X.A (cD target X.env u) (λ_ s'=>∃Y' H',Inv X Ã Y' H' s'/\Q Y' H') X.xe s
def xG(X:Cx)(ts:List Æ)(t:Ci):Prop:=
 ∀(Ã:List (À×Obj)) (s:Â) (Y:St) (H:Hp) (vs:List V) (us:List Á) (Q:St->Hp->Prop),Inv X Ã Y H s->ĭ vs us->t vs Y H Q->
  Î (Ì X.prog X.w) X.A (assignInOrder ((Ŵ ts X.env).map (·.2)) us) (λ_ s'=>∃Y' H',Inv X Ã Y' H' s'/\Q Y' H') X.xe s
section
variable{X:Cx}{pos:Pos}
def qX(i:Nat):TG:=λv Y H Q=>Q (Y.set i (some v)) H
def iQ{i:Nat}{x:Str}(hN:X.N.Nodup)(hi:X.N[i]?=some x)(hx:Loc X.env.scope x)(hf:X.fn x=true\/X.env.scope.names.lookup x=some .local:=by first|exact .inl rfl|exact .inr rfl|assumption):PG X (.Name x pos) (qX i):=by intro Ã s Y H v u Q I r h;exact wpAny_assign_Name (oj I hN hi hx r (λs' I'=>⟨_,H,I',h⟩) hf)
def Ph:Ci:=λvs Y H Q=>vs=[]/\Q Y H
def Cj(t:TG)(u:Ci):Ci:=λvs Y H Q=>∃v r,vs=v::r/\t v Y H λY' H'=>u r Y' H' Q
def uw:xG X [] Ph:=by intro Ã s Y H vs us Q I r h;obtain⟨e,h⟩:=h;subst e;cases r;exact assignInOrder_nil ⟨Y,H,I,h⟩
def eU{e:Æ}{es:List Æ}{t:TG}{u:Ci}(h1:PG X e t)(h2:xG X es u)
 (hs:(Ŵ (e::es) X.env).map (·.2)=cD e X.env::(Ŵ es X.env).map (·.2):=by rfl):xG X (e::es) (Cj t u):=by
 intro Ã s Y H vs us Q I r h;obtain⟨v,vr,e1,h⟩:=h;subst e1;cases r with
 |cons r rr=>rw[hs];refine assignInOrder_cons (ŝ (h1 Ã s Y H _ _ _ I r h) λ_ s1 ⟨Y1,H1,I1,q1⟩=>?_);exact h2 Ã s1 Y1 H1 _ _ Q I1 rr q1
def Pj(K:É)(n:Nat)(t:Ci):TG:=λv Y H Q=>∃a xs,v=.ref a/\eQ K H a xs/\xs.length=n/\t xs Y H Q
def ux{es:List Æ}{k:Nat}{t:Ci}{n:Nat}(hc:X.calm=true)(h:xG X es t)
 (hn:(Ŵ es X.env).length=n:=by rfl)(vU:(Ŵ es X.env).findIdx? (·.1)=none:=by rfl):PG X (.Tuple es k pos) (Pj X.K n t):=by
 intro Ã s Y H v u Q I r hw;obtain⟨a,xs,e1,hq,hl,hw⟩:=hw;subst e1;cases r;obtain⟨ě,rv,ht,hz⟩:=I.tuple hq;refine assign_Tuple_tuple (I.ok.hd hc) ht (by simp[hn,<-hl,rv.length]) vU λh' hx=>?_;have I1:Inv X Ã Y H {s with heap:=h'}:=I.kept (t':=s.toks) λb o e=>hx b o (ħ (ñ e)) e;exact h Ã _ Y H xs _ Q I1 (by simpa using rv) hw
def FG(te:TE)(g:TG):TS:=λD Y H=>te Y H λx H1=>g x Y H1 D.nx
def K5{tg e:Æ}{te:TE}{g:TG}(he:PE X e te)(hg:PG X tg g)(hs:swapsWithSole [tg] e pos.line X.env=ç false:=by rfl)(hw:swappedStores [tg] e X.env=ç none:=by rfl)
 (h1:(Ŵ [tg] X.env).map (·.2)=[cD tg X.env]:=by rfl):PS X (.Assign [tg] e pos) (FG te g):=by
 intro Ã s Y H D I h;refine wpAny_Assign_stores (ŝ (he Ã s Y H _ I h) λv s1 ⟨x,H1,I1,r1,q1⟩=>?_) hs hw;rw[h1];exact ŝ (hg Ã s1 Y H1 x v _ I1 r1 q1) λ_ s2 q=>q
def uy{i:Nat}{x:Str}{e:Æ}{te:TE}{bW:Pos}(hN:X.N.Nodup)(hi:X.N[i]?=some x)(hx:Loc X.env.scope x)(he:PE X e te)(hs:ŗ e (some (.Name x bW)) pos.line X.env=ç false:=by rfl)(hf:X.fn x=true\/X.env.scope.names.lookup x=some .local:=by first|exact .inl rfl|exact .inr rfl|assumption) :
 PS X (.Assign [.Name x bW] e pos) (FG te (qX i)):=by
 intro Ã s Y H D I h;refine wpAny_Assign_Name (ŝ (he Ã s Y H _ I h) λv s1 ⟨y,H1,I1,r1,q1⟩=>?_) hs;exact oj I1 hN hi hx r1 (λs2 I2=>⟨_,H1,I2,q1⟩) hf
end
section
variable{X:Cx}{pos:Pos}
def K6(c:TT)(tb:TS):TS:=λD Y H=>∃W:Nat->St->Hp->Prop,(∃m,W m Y H)/\∀m Y H,W m Y H->
 c Y H λb H1=>if b=true then ∃N:St->Hp->Prop,(∀Y' H',N Y' H'->∃m',m'<m/\W m' Y' H')/\tb {D with nx:=N,ct:=N,bk:=D.nx} Y H1 else D.nx Y H1
def Ck{c:Æ}{body:List Ò}{tc:TT}{tb:TS}(hp:ko (Ì X.prog X.w) X.A X.env X.xe)(hc:PT X c tc)(hb:ay X body tb):PS X (.While c body [] pos) (K6 tc tb):=by
 intro Ã s Y H D I h;obtain⟨W,⟨m0,w0⟩,turn⟩:=h;refine wpAny_While (codeAny_whileLoop (λn s'=>∃Y' H',Inv X Ã Y' H' s'/\W n Y' H') ?_ m0 ⟨Y,H,I,w0⟩);rintro n s1 ⟨Y1,H1,I1,w1⟩;refine fC hp (ŝ (hc Ã s1 Y1 H1 _ I1 (turn n Y1 H1 w1)) λb s2 ⟨H2,I2,q2⟩=>?_);cases b with
 |true=>
  obtain⟨N,hN,q2⟩:=q2;rw[if_pos rfl];refine fC hp (ŝ (hb Ã s2 Y1 H2 _ I2 q2) λf s3 q3=>?_);cases f with
  |next=>obtain⟨Y3,H3,I3,n3⟩:=q3;obtain⟨m',hm,w3⟩:=hN Y3 H3 n3;exact⟨m',hm,Y3,H3,I3,w3⟩
  |cont=>obtain⟨Y3,H3,I3,n3⟩:=q3;obtain⟨m',hm,w3⟩:=hN Y3 H3 n3;exact⟨m',hm,Y3,H3,I3,w3⟩
  |brk=>exact q3
  |ret v=>exact q3
 |false=>rw[if_neg ϖ];exact kn ⟨Y1,H2,I2,q2⟩
end
structure It where
 go:Nat->Hp->Prop
 Pk:Nat->Hp->V->Hp->Prop
 stop:Nat->Hp->Prop
def je(X:Cx)(Ã:List (À×Obj))(H:Hp)(b:À):Prop:=
 H b=none/\b≠X.env.locals/\b∉X.fs/\(b∈X.ex\/X.s₀.heap.objs.size<=b)/\(∀x c,X.env.cells.lookup x=some c->c≠b)/\∀p∈X.pn++Ã,p.1≠b
def Inv.Cm{X:Cx}{Ã:List (À×Obj)}{Y:St}{H H':Hp}{s:Â}{b:À}(I:Inv X Ã Y H s)(hb:s.heap.objs.size<=b)(hn:H' b=none):je X Ã H' b:=by
 refine⟨hn,bt (ŕ I.lt hb),I.T6 hb,.inr (ϲ I.sz hb),λx c e z=>?_,λp hp z=>?_⟩
 ·obtain⟨v,q⟩:=I.cell x c e;exact absurd (ŕ q.lt (by rw[z];exact hb)) (ϱ _)
 ·exact absurd (ŕ (ñ (I.pin p hp).1) (by rw[z];exact hb)) (ϱ _)
structure BZ(P:Þ)(w:Ø)(K:É)(tg:Æ)(J:It)(fp:List À)(it:À)(tn:Nat->Ð->Prop):Prop where
 mem:it∈fp
 obj:∀i h,tn i h->∀b∈fp,∃o,h.get? b=some o/\∀v,o.data≠ .cell v
 keep:∀i h h',tn i h->(∀b∈fp,∀o,h.get? b=some o->h'.get? b=some o)->tn i h'
 item:∀(X:Cx),X.prog=P->X.w=w->X.K=K->X.calm=true->∀(i:Nat) (Ã:List (À×Obj)) (s:Â) (Y:St) (H:Hp) (E:Á->Â->Prop),Inv X Ã Y H s->(∀b∈fp,je X Ã H b)->tn i s.heap->J.go i H->
  Î (Ì P w) X.A (fE (.ref it)) (λr s1=>∃u,r=some u/\
   Î (Ì P w) X.A (nk tg (.ref it) u) (λ_ s2=>∃x H',Inv X Ã Y H' s2/\RelV x u/\J.Pk i H x H'/\tn (i+1) s2.heap/\∀b∈fp,H' b=none) E s1) E s
 done:∀(X:Cx),X.prog=P->X.w=w->X.K=K->X.calm=true->∀(i:Nat) (Ã:List (À×Obj)) (s:Â) (Y:St) (H:Hp) (E:Á->Â->Prop),Inv X Ã Y H s->(∀b∈fp,je X Ã H b)->tn i s.heap->J.stop i H->
  Î (Ì P w) X.A (fE (.ref it)) (λr s1=>r=none/\Inv X Ã Y H s1) E s
 self:∀(A:à) (i:Nat) (s:Â) (Q:Á->Â->Prop) (E:Á->Â->Prop),tn i s.heap->Q (.ref it) s->Î (Ì P w) A (pyIter (.ref it)) Q E s
abbrev TI:=St->Hp->(It->Hp->Prop)->Prop
def TK(X:Cx)(Ã:List (À×Obj))(Y:St)(tg:Æ)(R:It->Hp->Prop)(TM:Á)(s2:Â):Prop:=
 ∃(it:À) (fp:List À) (tn:Nat->Ð->Prop) (J:It) (H':Hp),TM=.ref it/\Inv X Ã Y H' s2/\BZ X.prog X.w X.K tg J fp it tn/\tn 0 s2.heap/\(∀b∈fp,je X Ã H' b)/\R J H'
def PI(X:Cx)(tg iter:Æ)(wi:TI):Prop:=
 ∀(Ã:List (À×Obj)) (s:Â) (Y:St) (H:Hp) (R:It->Hp->Prop),Inv X Ã Y H s->wi Y H R->
  Î (Ì X.prog X.w) X.A (eval iter X.env) (λv s1=>Î (Ì X.prog X.w) X.A (pyIter v) (TK X Ã Y tg R) X.xe s1) X.xe s
def Aa{M:cC}{A:à}{E:Á->Â->Prop}{s:Â}{tg:Æ}{it:À}{u:Á}{o:Obj}{n:String}{vs:Array Á}{Q:Unit->Â->Prop}(ho:s.heap.get? it=some o)(hc:o.cls=.type n)(hd:o.data=.fields vs)
 (hn:["enumerate","zip","dict_itemiterator","dict_reverseitemiterator","odict_iterator","itertools.zip_longest","itertools.pairwise"].contains n=false)(hQ:Q () s):Î M A (nk tg (.ref it) u) Q E s:=by
 unfold nk;cases tg<;>first
  |exact â hQ
  |(cases u<;>first
     |exact â hQ
     |(refine Ë (wpAny_load ho ?_)
       rw[hc,hd];show Î M A (if(["enumerate","zip","dict_itemiterator","dict_reverseitemiterator","odict_iterator","itertools.zip_longest","itertools.pairwise"].contains n && vs[0]?== some (ň _))=true then _ else _) Q E s;rw[if_neg (by intro h;rw[hn,Bool.false_and] at h;cases h)];exact â hQ))
def Pm(K:É)(a:À):It:=
 ⟨λi H=>∃xs x,ϒ K H a xs/\xs[i]?=some x,λi H x H'=>H'=H/\∀xs,ϒ K H a xs->xs[i]?=some x,λi H=>∃xs,ϒ K H a xs/\xs.length<=i⟩
def Xs(K:É)(a:À):It:=
 ⟨λi H=>∃xs x,eQ K H a xs/\xs[i]?=some x,λi H x H'=>H'=H/\∀xs,eQ K H a xs->xs[i]?=some x,λi H=>∃xs,eQ K H a xs/\xs.length<=i⟩
def Sn(lo:Int)(n:Nat):It:=⟨λi _=>i<n,λi H x H'=>H'=H/\x=.int (lo+i),λi _=>n<=i⟩
def Bk{P:Þ}{w:Ø}{K:É}{tg:Æ}(a it:À):BZ P w K tg (Pm K a) [it] it (λi h=>h.IsListIter it a i) where
 mem:=by simp
 obj:=λi h st b hb=>by
  have e:b=it:=by simpa using hb
  subst e;obtain⟨o,e,c,d⟩:=st;exact⟨o,e,λv z=>by rw[d] at z;cases z⟩
 keep:=λi h h' st k=>st.at λo e=>k it (by simp) o e
 item:=by intro X hP hw hK hc i Ã s Y H E I hf st hg;subst hP hw hK;obtain⟨xs,x,hq,hx⟩:=hg;obtain⟨ě,rv,p,hz⟩:=I.list hq;obtain⟨u,hu,ru⟩:=rv.get hx;obtain⟨f0,f1,f2,f3,f4,f5⟩:=hf it (by simp);refine wpAny_pyNext_list_item st p.isList (x:=u) (by simpa using hu) λh' Fc sb=>?_;have I1:Inv X Ã Y H {s with heap:=h'}:=I.turned (t':=s.toks) (λb o hb e=>(sb.2 b hb).trans e) f0 f1 f3 f4 f5;obtain⟨o,e,c,d⟩:=id Fc;exact⟨u,rfl,Aa (s:={s with heap:=h'}) e c d (by decide) ⟨x,H,I1,ru,⟨rfl,λys hy=>by rw[I.wf hy hq];exact hx⟩,Fc,λb hb=>(hf b hb).1⟩⟩
 done:=by intro X hP hw hK hc i Ã s Y H E I hf st hg;subst hP hw hK;obtain⟨xs,hq,hx⟩:=hg;obtain⟨ě,rv,p,hz⟩:=I.list hq;obtain⟨f0,f1,f2,f3,f4,f5⟩:=hf it (by simp);have hl:=rv.length;exact wpAny_pyNext_list_end (I.ok.hd hc) st p.isList (by simp;lia) λh' eb=>⟨rfl,I.turned (t':=s.toks) (λb o hb e=>eb b o hb e) f0 f1 f3 f4 f5⟩
 self:=λ_ _ _ _ _ st h=>wpAny_pyIter_listiter st h
def xK{P:Þ}{w:Ø}{K:É}{tg:Æ}(a it:À):BZ P w K tg (Xs K a) [it] it (λi h=>h.IsTupleIter it a i) where
 mem:=by simp
 obj:=λi h st b hb=>by
  have e:b=it:=by simpa using hb
  subst e;obtain⟨o,e,c,d⟩:=st;exact⟨o,e,λv z=>by rw[d] at z;cases z⟩
 keep:=λi h h' st k=>st.at λo e=>k it (by simp) o e
 item:=by intro X hP hw hK hc i Ã s Y H E I hf st hg;subst hP hw hK;obtain⟨xs,x,hq,hx⟩:=hg;obtain⟨ě,rv,p,hz⟩:=I.tuple hq;obtain⟨u,hu,ru⟩:=rv.get hx;obtain⟨f0,f1,f2,f3,f4,f5⟩:=hf it (by simp);refine wpAny_pyNext_tuple_item st (show s.heap.IsTuple a ě.toArray from p) (x:=u) (by simpa using hu) λh' Fc sb=>?_;have I1:Inv X Ã Y H {s with heap:=h'}:=I.turned (t':=s.toks) (λb o hb e=>(sb.2 b hb).trans e) f0 f1 f3 f4 f5;obtain⟨o,e,c,d⟩:=id Fc;exact⟨u,rfl,Aa (s:={s with heap:=h'}) e c d (by decide) ⟨x,H,I1,ru,⟨rfl,λys hy=>by rw[I.Bj hy hq];exact hx⟩,Fc,λb hb=>(hf b hb).1⟩⟩
 done:=by intro X hP hw hK hc i Ã s Y H E I hf st hg;subst hP hw hK;obtain⟨xs,hq,hx⟩:=hg;obtain⟨ě,rv,p,hz⟩:=I.tuple hq;obtain⟨f0,f1,f2,f3,f4,f5⟩:=hf it (by simp);have hl:=rv.length;exact wpAny_pyNext_tuple_end (I.ok.hd hc) st (show s.heap.IsTuple a ě.toArray from p) (by simp;lia) λh' eb=>⟨rfl,I.turned (t':=s.toks) (λb o hb e=>eb b o hb e) f0 f1 f3 f4 f5⟩
 self:=λ_ _ _ _ _ st h=>wpAny_pyIter_tupleiter st h
def xL{P:Þ}{w:Ø}{K:É}{tg:Æ}(it:À)(lo:Int)(n:Nat):BZ P w K tg (Sn lo n) [it] it (λi h=>IsRangeIter h it (lo+(i:Nat)*1) ((n:Int)-(i:Nat)) 1) where
 mem:=by simp
 obj:=λi h st b hb=>by
  have e:b=it:=by simpa using hb
  subst e;exact⟨_,st,λv z=>by have z':Data.fields _=Data.cell v:=z;cases z'⟩
 keep:=λi h h' st k=>k it (by simp) _ st
 item:=by intro X hP hw hK hc i Ã s Y H E I hf st hg;subst hP hw hK;obtain⟨f0,f1,f2,f3,f4,f5⟩:=hf it (by simp);have W:=Walks.range (prog:=X.prog) (w:=X.w) (I.ok.hd hc) it lo 1 n;refine W.item i s _ _ hg st λv h' tk hv Fc kk=>?_;obtain⟨t,rfl⟩:=hv;have I1:Inv X Ã Y H {s with heap:=h',toks:=tk}:=I.turned (λb o hb e=>kk b o (by simpa using hb) e) f0 f1 f3 f4 f5;refine⟨_,rfl,Aa (s:={s with heap:=h',toks:=tk}) (n:= "range_iterator") Fc rfl rfl (by decide) ⟨.int (lo+i),H,I1,⟨t,?_⟩,⟨rfl,rfl⟩,Fc,λb hb=>(hf b hb).1⟩⟩;rw[Int.mul_one]
 done:=by intro X hP hw hK hc i Ã s Y H E I hf st hg;subst hP hw hK;obtain⟨f0,f1,f2,f3,f4,f5⟩:=hf it (by simp);exact wpAny_pyNext_range_end (I.ok.hd hc) st (by have:n<=i:=hg;lia) λh' eb=>⟨rfl,I.turned (t':=s.toks) (λb o hb e=>eb b o hb e) f0 f1 f3 f4 f5⟩
 self:=λ_ _ _ _ _ st h=>wpAny_pyIter_rangeiter st h
section
variable{X:Cx}{tg:Æ}
def Cn{Ã:List (À×Obj)}{Y:St}{H:Hp}{s:Â}{R:It->Hp->Prop}{E:Á->Â->Prop}{lo hi:Int}{t u v:Tok}{tk:Nat}(I:Inv X Ã Y H s)(h1: -(2 ^ 62)<=lo)(h2:lo<2 ^ 62)(h3: -(2 ^ 62)<=hi)(h4:hi<2 ^ 62)
 (q:R (Sn lo (hi-lo).toNat) H):Î (Ì X.prog X.w) X.A (pyIter (.ref s.heap.objs.size)) (TK X Ã Y tg R) E {s with heap:=s.heap.push {cls:=.type "range",data:=.fields #[.int lo t,.int hi u,.int 1 v]},toks:=tk}:=by
 refine wpAny_pyIter_range (IsRange.new ..) (small_one h1 h2 h3 h4) ?_;have I1:Inv X Ã Y H {s with heap:=s.heap.push {cls:=.type "range",data:=.fields #[.int lo t,.int hi u,.int 1 v]},toks:=tk}:=I.kept λb o e=>ö _ e;refine⟨(s.heap.push {cls:=.type "range",data:=.fields #[.int lo t,.int hi u,.int 1 v]}).objs.size,[(s.heap.push {cls:=.type "range",data:=.fields #[.int lo t,.int hi u,.int 1 v]}).objs.size],_,_,H,rfl,
  I1.kept (t':=tk) λb o e=>ö _ e,xL _ lo (hi-lo).toNat,?_,λb hb=>?_,q⟩
 ·have e1:lo+((0:Nat):Int)*1=lo:=by simp
  have e2:(((hi-lo).toNat:Nat):Int)-((0:Nat):Int)=Builtin.Range.rangeSize lo hi 1:=by rw[rangeSize_one];split<;>lia
  show IsRangeIter _ _ (lo+((0:Nat):Int)*1) ((((hi-lo).toNat:Nat):Int)-((0:Nat):Int)) 1;rw[e1,e2];exact Ŀ _ rfl
 ·have e:b=(s.heap.push {cls:=.type "range",data:=.fields #[.int lo t,.int hi u,.int 1 v]}).objs.size:=by simpa using hb
  subst e;exact I1.Cm (î _) (I1.hok.fresh (î _))
def Pn(ta:TA):TI:=λY H R=>ta Y H λvs H1=>∃j:Int,vs=[.int j]/\ -(2 ^ 62)<=j/\j<2 ^ 62/\R (Sn 0 j.toNat) H1
def Bl{a:Æ}{ta:TA}{p pos:Pos}(hg:Gl X "range")(hm:X.mg "range" =none)(ha:PA X [a] ta)(hs:Ö [a] X.env=[(false,eval a X.env)]:=by rfl):PI X tg (.Call (.Name "range" p) [a] [] pos) (Pn ta):=by
 intro Ã s Y H R I h;refine Call_ (om I hg hm boot_range (zu (ŝ (ha pos Ã s Y H _ I h) λus s1 ⟨vs,H1,I1,r1,q1⟩=>?_) hs rfl));obtain⟨j,e,q1,q2,q⟩:=q1;subst e;cases r1 with
 |cons r rr=>cases rr;obtain⟨t,rfl⟩:=r;exact call_range_1 (Cn I1 (by lia) (by lia) q1 q2 (by simpa using q))
def Ud(wi:TI)(g:TG)(tb:TS):TS:=λD Y H=>wi Y H λJ H1=>∃W:Nat->Nat->St->Hp->Prop,(∃m,W 0 m Y H1)/\∀i m Y H,W i m Y H->
 (J.stop i H/\D.nx Y H)\/(J.go i H/\∃N:St->Hp->Prop,(∀Y' H',N Y' H'->∃m',m'<m/\W (i+1) m' Y' H')/\∀x H',J.Pk i H x H'->g x Y H' λY2 H2=>tb {D with nx:=N,ct:=N,bk:=D.nx} Y2 H2)
def lx(fp:List À)(h:Ð):List (À×Obj):=fp.filterMap λb=>(h.get? b).map λo=>(b,o)
def bc{fp:List À}{h:Ð}{b:À}{o:Obj}(hb:b∈fp)(e:h.get? b=some o):(b,o)∈lx fp h:=mZ.mpr ⟨b,hb,by rw[e];rfl⟩
def Bm{fp:List À}{h:Ð}{p:À×Obj}(hp:p∈lx fp h):p.1∈fp/\h.get? p.1=some p.2:=by
 obtain⟨b,hb,e⟩:=mZ.mp hp;cases q:h.get? b with
 |none=>rw[q] at e;cases e
 |some o=>rw[q] at e;have e':(b,o)=p:=Š e;subst e';exact⟨hb,q⟩
def Inv.pinned{Ã:List (À×Obj)}{Y:St}{H:Hp}{s:Â}{fp:List À}(I:Inv X Ã Y H s)(hf:∀b∈fp,je X Ã H b)(ho:∀b∈fp,∃o,s.heap.get? b=some o/\∀v,o.data≠ .cell v):Inv X (Ã++lx fp s.heap) Y H s:=
 I.zZ fun p hp=>(Ų.mp hp).elim (fun z=>I.pin p (Ϙ _ z)) fun z=>by obtain⟨hb,e⟩:=Bm z;obtain⟨f0,f1,f2,_⟩:=hf p.1 hb;obtain⟨o,e',d⟩:=ho p.1 hb;rw[e] at e';cases e';exact⟨e,f0,f1,f2,d⟩
def Inv.gM{Ã pl:List (À×Obj)}{Y:St}{H:Hp}{s:Â}(I:Inv X (Ã++pl) Y H s):Inv X Ã Y H s:=I.zZ λp hp=>I.pin p (Ϙ _ (bp _ hp))
def Co{iter:Æ}{body:List Ò}{wi:TI}{g:TG}{tb:TS}{pos:Pos}(hp:ko (Ì X.prog X.w) X.A X.env X.xe)(hc:X.calm=true)(hi:PI X tg iter wi)(hg:PG X tg g)(hb:ay X body tb)
 (hs:∀x,bA iter X.env x=ç x:=by intro _;rfl):PS X (.For tg iter body [] pos) (Ud wi g tb):=by
 intro Ã s Y H D I h;refine wpAny_For (ŝ (hi Ã s Y H _ I h) λv s1 h1=>ŝ h1 λTM s2 h2=>?_) hs;obtain⟨it,fp,tn,J,H2,e,I2,T,A9,f2,W,⟨m0,w0⟩,turn⟩:=h2;subst e;have stat:∀{H':Hp},(∀b∈fp,H' b=none)->∀b∈fp,je X Ã H' b:=λhn b hb=>⟨hn b hb,(f2 b hb).2⟩;refine codeAny_forLoop_any (λn s'=>∃i Y' H',Inv X Ã Y' H' s'/\tn i s'.heap/\(∀b∈fp,H' b=none)/\W i n Y' H') ?_ m0 ⟨0,Y,H2,I2,A9,λb hb=>(f2 b hb).1,w0⟩;rintro n s3 ⟨i,Y3,H3,I3,Qqj5,Xt,w3⟩;rcases turn i n Y3 H3 w3 with⟨stop,qn⟩|⟨go,N,hN,step⟩
 ·refine fC hp (ŝ (T.done X rfl rfl rfl hc i Ã s3 Y3 H3 X.xe I3 (stat Xt) Qqj5 stop) λr s4 ⟨hr,I4⟩=>?_);subst hr;exact kn ⟨Y3,H3,I4,qn⟩
 ·refine fC hp (ŝ (T.item X rfl rfl rfl hc i Ã s3 Y3 H3 X.xe I3 (stat Xt) Qqj5 go) λr s4 ⟨u,hr,h4⟩=>?_);subst hr;refine fC hp (ŝ h4 λ_ s5 ⟨x,H5,I5,r5,y5,FH,K7⟩=>?_);have I5':=I5.pinned (stat K7) (T.obj _ _ FH);refine fC hp (ŝ (hg _ s5 Y3 H5 x u _ I5' r5 (step x H5 y5)) λ_ s6 ⟨Y6,H6,I6,q6⟩=>?_);refine fC hp (ŝ (hb _ s6 Y6 H6 _ I6 q6) λf s7 q7=>?_);have again:∀{Y7:St} {H7:Hp},Inv X (Ã++lx fp s5.heap) Y7 H7 s7->N Y7 H7->∃m,m<n/\∃i Y' H',Inv X Ã Y' H' s7/\tn i s7.heap/\(∀b∈fp,H' b=none)/\W i m Y' H':=fun{Y7 H7} I7 n7=>by
   obtain⟨m',hm,w7⟩:=hN Y7 H7 n7;refine⟨m',hm,i+1,Y7,H7,I7.gM,T.keep _ _ _ FH λb hb o e=>(I7.pin (b,o) (Ϙ _ (Ϙ _ (bc hb e)))).1,λb hb=>?_,w7⟩;obtain⟨o,e,d⟩:=T.obj _ _ FH b hb;exact(I7.pin (b,o) (Ϙ _ (Ϙ _ (bc hb e)))).2.1
  cases f with
  |next=>obtain⟨Y7,H7,I7,n7⟩:=q7;exact again I7 n7
  |cont=>obtain⟨Y7,H7,I7,n7⟩:=q7;exact again I7 n7
  |brk=>obtain⟨Y7,H7,I7,q7⟩:=q7;exact⟨Y7,H7,I7.gM,q7⟩
  |ret v=>obtain⟨x7,Y7,H7,I7,r7,q7⟩:=q7;exact⟨x7,Y7,H7,I7.gM,r7,q7⟩
end
abbrev R2:=V->V->Hp->VK->Prop
def aD(X:Cx)(f:Á->Á->Sem Á)(r:R2):Prop:=
 ∀(Ã:List (À×Obj)) (s:Â) (Y:St) (H:Hp) (x y:V) (v u:Á) (Q:VK),Inv X Ã Y H s->RelV x v->RelV y u->r x y H Q->
  Î (Ì X.prog X.w) X.A (f v u) (EP X Ã Y Q) X.xe s
def FI(X:Cx)(f:Á->Sem Á)(r:V->Hp->VK->Prop):Prop:=
 ∀(Ã:List (À×Obj)) (s:Â) (Y:St) (H:Hp) (x:V) (v:Á) (Q:VK),Inv X Ã Y H s->RelV x v->r x H Q->
  Î (Ì X.prog X.w) X.A (f v) (EP X Ã Y Q) X.xe s
def Ŝ(X:Cx)(f:Á)(r:List V->Hp->VK->Prop):Prop:=
 ∀(Ã:List (À×Obj)) (s:Â) (Y:St) (H:Hp) (xs:List V) (us:List Á) (Q:VK),Inv X Ã Y H s->ĭ xs us->r xs H Q->
  Î (Ì X.prog X.w) X.A (call f us) (EP X Ã Y Q) X.xe s
def Ue(X:Cx)(r:V->Hp->(Bool->Hp->Prop)->Prop):Prop:=
 ∀(Ã:List (À×Obj)) (s:Â) (Y:St) (H:Hp) (x:V) (v:Á) (Q:Bool->Hp->Prop),Inv X Ã Y H s->RelV x v->r x H Q->
  Î (Ì X.prog X.w) X.A (truthy v) (TP X Ã Y Q) X.xe s
def Hy(r:R2)(ta tb:TE):TE:=λY H Q=>ta Y H λx H1=>tb Y H1 λy H2=>r x y H2 Q
def Xu(r:V->Hp->VK->Prop)(ta:TE):TE:=λY H Q=>ta Y H λx H1=>r x H1 Q
def rI(C:Int->Int->Prop)(g:Int->Int->V):R2:=λx y H Q=>∃i j,x=.int i/\y=.int j/\C i j/\Q (g i j) H
def Hz(g:Int->Int->V):R2:=λx y H Q=>∃i j,x=.int i/\y=.int j/\Q (g i j) H
def rU(g:Int->V):V->Hp->VK->Prop:=λx H Q=>∃i,x=.int i/\Q (g i) H
section
variable{X:Cx}{a b:Æ}{ta tb:TE}{pos:Pos}
def K8(ha:PE X a ta)(hb:PE X b tb){Ã:List (À×Obj)}{s:Â}{Y:St}{H:Hp}{R:V->V->Hp->Prop}(I:Inv X Ã Y H s)
 (h:ta Y H λx H1=>tb Y H1 λy H2=>R x y H2){Q:Á->Â->Prop}{f:Á->Á->Sem Á}
 (hf:∀v u s2 x y H2,Inv X Ã Y H2 s2->RelV x v->RelV y u->R x y H2->Î (Ì X.prog X.w) X.A (f v u) Q X.xe s2) :
 Î (Ì X.prog X.w) X.A (eval a X.env) (λv s₁=>Î (Ì X.prog X.w) X.A (eval b X.env) (λu s₂=>Î (Ì X.prog X.w) X.A (f v u) Q X.xe s₂) X.xe s₁) X.xe s:=by
 refine ŝ (ha Ã s Y H _ I h) λv s1 ⟨x,H1,I1,r1,q1⟩=>?_;refine ŝ (hb Ã s1 Y H1 _ I1 q1) λu s2 ⟨y,H2,I2,r2,q2⟩=>?_;exact hf v u s2 x y H2 I2 r1 r2 q2
def Cp{op:Operator}{r:R2}(ho:aD X (ŋ op) r)(ha:PE X a ta)(hb:PE X b tb):PE X (.BinOp a op b pos) (Hy r ta tb):=by intro Ã s Y H Q I h;exact wpAny_BinOp (K8 ha hb I h λv u s2 x y H2 I2 rx ry q=>ho Ã s2 Y H2 x y v u Q I2 rx ry q)
def HA{op:UnaryOp}{r:V->Hp->VK->Prop}(ho:FI X (unaryOp op) r)(ha:PE X a ta):PE X (.UnaryOp op a pos) (Xu r ta):=by intro Ã s Y H Q I h;exact UnaryOp_ (ŝ (ha Ã s Y H _ I h) λv s1 ⟨x,H1,I1,r1,q1⟩=>ho Ã s1 Y H1 x v Q I1 r1 q1)
def Fq{f:Á->Á->Sem Á}{C:Int->Int->Prop}{g:Int->Int->Int}
 (rule:∀(i j:Int) (t u:Tok) (s:Â) (Q:Á->Â->Prop) (E:Á->Â->Prop),C i j->Q (.int (g i j) s.toks) {s with toks:=s.toks+1}->Î (Ì X.prog X.w) X.A (f (.int i t) (.int j u)) Q E s) :
 aD X f (rI C λi j=>.int (g i j)):=by
 intro Ã s Y H x y v u Q I rx ry h;obtain⟨i,j,rfl,rfl,hc,q⟩:=h;obtain⟨t,rfl⟩:=rx;obtain⟨t',rfl⟩:=ry;exact rule i j t t' s _ _ hc ⟨.int (g i j),H,I.tok _,⟨_,rfl⟩,q⟩
def Bn{f:Á->Á->Sem Á}{g:Int->Int->Int}
 (rule:∀(i j:Int) (t u:Tok) (s:Â) (Q:Á->Â->Prop) (E:Á->Â->Prop),Q (.int (g i j) s.toks) {s with toks:=s.toks+1}->Î (Ì X.prog X.w) X.A (f (.int i t) (.int j u)) Q E s) :
 aD X f (Hz λi j=>.int (g i j)):=by
 intro Ã s Y H x y v u Q I rx ry h;obtain⟨i,j,rfl,rfl,q⟩:=h;obtain⟨t,rfl⟩:=rx;obtain⟨t',rfl⟩:=ry;exact rule i j t t' s _ _ ⟨.int (g i j),H,I.tok _,⟨_,rfl⟩,q⟩
def K9{f:Á->Á->Sem Á}{g:Int->Int->Bool}
 (rule:∀(i j:Int) (t u:Tok) (s:Â) (Q:Á->Â->Prop) (E:Á->Â->Prop),Q (.bool (g i j)) s->Î (Ì X.prog X.w) X.A (f (.int i t) (.int j u)) Q E s) :
 aD X f (Hz λi j=>.bl (g i j)):=by
 intro Ã s Y H x y v u Q I rx ry h;obtain⟨i,j,rfl,rfl,q⟩:=h;obtain⟨t,rfl⟩:=rx;obtain⟨t',rfl⟩:=ry;exact rule i j t t' s _ _ ⟨.bl (g i j),H,I,rfl,q⟩
def Po(i j:Int):Prop:=0<j/\j<1073741824
def La(i j:Int):Prop:=0<=j/\j<=1000000/\i.natAbs<2 ^ 64
def Lb(i j:Int):Prop:=(-(2 ^ 64)<i/\i<2 ^ 64)\/(-(2 ^ 64)<j/\j<2 ^ 64)
def Lb.ok{i j:Int}(h:Lb i j):IntMulOk i j:=by
 rcases h with⟨h1,h2⟩|⟨h1,h2⟩
 ·exact .of_left (intBits_le_64 h1 h2)
 ·exact .of_right (intBits_le_64 h1 h2)
def Lc:aD X (ŋ .Add) (Hz λi j=>.int (i+j)):=Bn λ_ _ _ _ _ _ _ q=>add_int q
def Ld:aD X (ŋ .Sub) (Hz λi j=>.int (i-j)):=Bn λ_ _ _ _ _ _ _ q=>sub_int q
def FJ:aD X (ŋ .Mod) (rI (λ_ j=>j≠0) λi j=>.int (i.fmod j)):=Fq λ_ _ _ _ _ _ _ hc q=>mod_int' hc q
def Le:aD X (ŋ .Pow) (rI La λi j=>.int (i ^ j.toNat)):=Fq λ_ _ _ _ _ _ _ hc q=>pow_int_small hc.1 hc.2.1 hc.2.2 q
def unI{f:Á->Sem Á}{g:Int->Int}
 (rule:∀(i:Int) (t:Tok) (s:Â) (Q:Á->Â->Prop) (E:Á->Â->Prop),Q (.int (g i) s.toks) {s with toks:=s.toks+1}->Î (Ì X.prog X.w) X.A (f (.int i t)) Q E s) :
 FI X f (rU λi=>.int (g i)):=by
 intro Ã s Y H x v Q I rx h;obtain⟨i,rfl,q⟩:=h;obtain⟨t,rfl⟩:=rx;exact rule i t s _ _ ⟨.int (g i),H,I.tok _,⟨_,rfl⟩,q⟩
def Cq:FI X (unaryOp .USub) (rU λi=>.int (-i)):=unI λ_ _ _ _ _ q=>neg_int q
end
section
variable{X:Cx}{a b:Æ}{ta tb:TE}{pos:Pos}
def Lf{Ã:List (À×Obj)}{Y:St}{H:Hp}{s:Â}{Q:VK}{k k':Bool}(I:Inv X Ã Y H s)(q:Q (.bl k) H)(e:k=k'):EP X Ã Y Q (.bool k') s:=by subst e;exact⟨.bl k,H,I,rfl,q⟩
def Pp:aD X (ı .Lt) (Hz λi j=>.bl (decide (i<j))):=K9 λ_ _ _ _ _ _ _ q=>lt_int q
def Pq:aD X (ı .LtE) (Hz λi j=>.bl (decide (i<=j))):=K9 λ_ _ _ _ _ _ _ q=>le_int q
def Pr:aD X (ı .Gt) (Hz λi j=>.bl (decide (j<i))):=K9 λ_ _ _ _ _ _ _ q=>gt_int q
def uz:aD X (ı .Is) (λx y H Q=>y=.non/\Q (.bl (decide (x=.non))) H):=by
 intro Ã s Y H x y v u Q I rx ry h;obtain⟨rfl,q⟩:=h;cases ry;refine is_none_gen (Lf I q ?_);cases x<;>first
  |(cases rx;rfl)
  |(obtain⟨t,rfl⟩:=rx;rfl)
def aD.or{f:Á->Á->Sem Á}{r r':R2}(h:aD X f r)(h':aD X f r'):aD X f (λx y H Q=>r x y H Q\/r' x y H Q):=by
 intro Ã s Y H x y v u Q I rx ry q;rcases q with q|q
 ·exact h Ã s Y H x y v u Q I rx ry q
 ·exact h' Ã s Y H x y v u Q I rx ry q
def ŷ(b:Æ){op:cE}(h:op≠ .In:=by decide)(h2:op≠ .NotIn:=by decide):iz op b=false:=by
 have e1:(op== CmpOp.In)=false:=by cases op<;>first|rfl|exact absurd rfl h
 have e2:(op== CmpOp.NotIn)=false:=by cases op<;>first|rfl|exact absurd rfl h2
 cases b<;>simp[iz,e1,e2]
def FK{op:cE}{r:R2}(ho:aD X (ı op) r)(ha:PE X a ta)(hb:PE X b tb)(hm:iz op b=false):PE X (.Compare a [op] [b] pos) (Hy r ta tb):=by intro Ã s Y H Q I h;exact wpAny_Compare1 (K8 ha hb I h λv u s2 x y H2 I2 rx ry q=>ho Ã s2 Y H2 x y v u Q I2 rx ry q) hm
def Lg(K:É)(x:V)(H:Hp)(k:Bool):Prop:=
 match x with
 | .non=>k=false
 | .bl b=>k=b
 | .int i=>k=(i != 0)
 | .str y=>y.length<=sizeLine/\k=((y.length:Int) != 0)
 | .Ht y=>y.size<=sizeLine/\k=((y.size:Int) != 0)
 | .ref p=>(∃xs,ϒ K H p xs/\k=!xs.isEmpty)\/(∃xs,eQ K H p xs/\k=!xs.isEmpty)\/∃ff,H p=some (.dK ff)/\k=!ff.isEmpty
 |_=>False
def xM{κ:Type}{ff:List (κ×V)}{vs:List (κ×Á)}(r:KV ff vs):(!vs.isEmpty)=!ff.isEmpty:=by cases r<;>rfl
def oo{xs:List V}{ě:List Á}(r:ĭ xs ě):(!ě.toArray.isEmpty)=!xs.isEmpty:=by cases r<;>simp
def oq:(sizeLine:Nat)<2 ^ 63:=by rw[ϛ];decide
def Li:Ue X (λx H Q=>∃k,Lg X.K x H k/\Q k H):=by
 intro Ã s Y H x v Q I rx h;obtain⟨k,e,q⟩:=h;have hl:=oq;have hs:sizeLine=16777216:=ϛ;cases x with
 |non=>cases rx;have e':k=false:=e;subst e';exact truthy_none ⟨H,I,q⟩
 |bl b=>cases rx;have e':k=b:=e;subst e';exact cF ⟨H,I,q⟩
 |int i=>obtain⟨t,rfl⟩:=rx;have e':k=(i != 0):=e;subst e';exact PySem.P.truthy_int ⟨H,I,q⟩
 |str y=>obtain⟨t,rfl⟩:=rx;obtain⟨hy,e'⟩:y.length<=sizeLine/\k=((y.length:Int) != 0):=e;subst e';exact PySem.P.truthy_str (by lia) ⟨H,I.tok _,q⟩
 |Ht y=>obtain⟨t,rfl⟩:=rx;obtain⟨hy,e'⟩:y.size<=sizeLine/\k=((y.size:Int) != 0):=e;subst e';exact PySem.W.truthy_bytes (by lia) ⟨H,I.tok _,q⟩
 |ref p=>
  cases rx;have e':(∃xs,ϒ X.K H p xs/\k=!xs.isEmpty)\/(∃xs,eQ X.K H p xs/\k=!xs.isEmpty)\/∃ff,H p=some (.dK ff)/\k=!ff.isEmpty:=e;rcases e' with⟨xs,hx,e'⟩|⟨xs,hx,e'⟩|⟨ff,hx,e'⟩
  ·subst e';obtain⟨ě,r,pl,hz⟩:=I.list hx;have hlen:=r.length;exact wpAny_truthy_list pl.isList (by simp only[ļ];lia) ⟨H,I.tok _,by rw[oo r];exact q⟩
  ·subst e';obtain⟨ě,r,pl,hz⟩:=I.tuple hx;have hlen:=r.length;exact truthy_tuple pl (by simp only[ļ];lia) ⟨H,I.tok _,by rw[oo r];exact q⟩
  ·subst e';obtain⟨hz,hS,vs,r,m⟩:ff.length<=sizeLine/\(p== sysModules)=false/\∃vs,KV ff vs/\s.heap.DictOf (uo X.prog X.w) p vs:=I.hok p _ hx;have hlen:ff.length=vs.length:=Paired.length r;exact wpAny_truthy_dict hS m (by lia) ⟨H,I.tok _,by rw[xM r];exact q⟩
 |_=>exact(show False from e).elim
def Cr(ha:PE X a ta)(he:∀whole,isTrue a X.env whole=(do let v <-whole;iA a.pos;holding [v] (truthy v))) :
 PT X a (λY H Q=>ta Y H λx H'=>∃k,Lg X.K x H' k/\Q k H'):=by
 intro Ã s Y H Q I h;exact isTrue_plain (ŝ (ha Ã s Y H _ I h) λv s1 ⟨x,H1,I1,r1,q1⟩=>Li Ã s1 Y H1 x v Q I1 r1 q1) (he _)
def xN:aD X (ŋ .Add) (λx y H Q=>∃i j,x=.str i/\y=.str j/\i.length+j.length<=sizeLine/\Q (.str (i++j)) H):=by intro Ã s Y H x y v u Q I rx ry h;obtain⟨i,j,rfl,rfl,hz,q⟩:=h;obtain⟨t,rfl⟩:=rx;obtain⟨t',rfl⟩:=ry;exact add_str (λt' tk=>⟨.str (i++j),H,I.tok _,⟨_,rfl⟩,q⟩) hz
def vals1{x:V}{us:List Á}(r:ĭ [x] us):∃u,us=[u]/\RelV x u:=by
 cases r with
 |cons r1 r2=>cases r2;exact⟨_,rfl,r1⟩
def vals2{x y:V}{us:List Á}(r:ĭ [x,y] us):∃u w',us=[u,w']/\RelV x u/\RelV y w':=by
 cases r with
 |cons r1 r2=>
  cases r2 with
  |cons r3 r4=>cases r4;exact⟨_,_,rfl,r1,r3⟩
def Cs:Ŝ X (.builtin "abs") (λxs H Q=>∃i,xs=[.int i]/\Q (.int (if i<0 then -i else i)) H):=by intro Ã s Y H xs us Q I r h;obtain⟨i,rfl,q⟩:=h;obtain⟨u,rfl,t,rfl⟩:=vals1 r;exact call_abs_int λu tk=>⟨.int (if i<0 then -i else i),H,I.tok _,⟨_,rfl⟩,q⟩
def Bo:Ŝ X (.type "int") (λxs H Q=>(∃i,xs=[.int i]/\Q (.int i) H)\/∃k,xs=[.bl k]/\Q (.int (if k then 1 else 0)) H):=by
 intro Ã s Y H xs us Q I r h;rcases h with⟨i,rfl,q⟩|⟨k,rfl,q⟩
 ·obtain⟨u,rfl,t,rfl⟩:=vals1 r;exact call_int_int ⟨.int i,H,I,⟨_,rfl⟩,q⟩
 ·obtain⟨u,rfl,r1⟩:=vals1 r;cases r1;exact call_int_bool ⟨.int (if k then 1 else 0),H,I.tok _,⟨_,rfl⟩,q⟩
def uA:Ŝ X (.type "str") (λxs H Q=>∃i,xs=[.int i]/\i.natAbs.log2<1920/\Q (.str (ϸ i)) H):=by intro Ã s Y H xs us Q I r h;obtain⟨i,rfl,hz,q⟩:=h;obtain⟨u,rfl,t,rfl⟩:=vals1 r;exact PySem.P.str_of_int hz ⟨.str _,H,I.tok _,⟨_,rfl⟩,q⟩
def Uf(K:É)(x:V)(H:Hp)(n:Nat):Prop:=
 match x with
 | .str y=>y.length<=sizeLine/\n=y.length
 | .Ht y=>y.size<=sizeLine/\n=y.size
 | .ref p=>(∃xs,ϒ K H p xs/\n=xs.length)\/∃xs,eQ K H p xs/\n=xs.length
 |_=>False
def Ct:Ŝ X (.builtin "len") (λxs H Q=>∃x n,xs=[x]/\Uf X.K x H n/\Q (.int n) H):=by
 intro Ã s Y H xs us Q I r h;obtain⟨x,n,rfl,e,q⟩:=h;obtain⟨u,rfl,rx⟩:=vals1 r;have hl:=oq;have hs:sizeLine=16777216:=ϛ;cases x with
 |str y=>obtain⟨t,rfl⟩:=rx;obtain⟨hy,e'⟩:y.length<=sizeLine/\n=y.length:=e;subst e';exact len_str (by lia) ⟨.int _,H,I.tok _,⟨_,rfl⟩,q⟩
 |Ht y=>obtain⟨t,rfl⟩:=rx;obtain⟨hy,e'⟩:y.size<=sizeLine/\n=y.size:=e;subst e';exact PySem.W.len_bytes (by lia) ⟨.int _,H,I.tok _,⟨_,rfl⟩,q⟩
 |ref p=>
  cases rx;have e':(∃xs,ϒ X.K H p xs/\n=xs.length)\/∃xs,eQ X.K H p xs/\n=xs.length:=e;rcases e' with⟨xs,hx,e'⟩|⟨xs,hx,e'⟩
  ·subst e';obtain⟨ě,r',pl,hz⟩:=I.list hx;have hlen:=r'.length;exact Calls.call_len_list pl.isList (by simp only[ļ];lia) ⟨.int xs.length,H,I.tok _,⟨_,by simp only[ļ];rw[hlen]⟩,q⟩
  ·subst e';obtain⟨ě,r',pl,hz⟩:=I.tuple hx;have hlen:=r'.length;exact len_tuple pl (by simp only[ļ];lia) ⟨.int xs.length,H,I.tok _,⟨_,by simp only[ļ];rw[hlen]⟩,q⟩
 |_=>exact(show False from e).elim
def wg:Ŝ X (.builtin "divmod") (λxs H Q=>∃i j,xs=[.int i,.int j]/\Po i j/\∀p,H p=none->Q (.ref p) (upd H p (.tup [.int (i / j),.int (i % j)]))):=by intro Ã s Y H xs us Q I r h;obtain⟨i,j,rfl,⟨h1,h2⟩,q⟩:=h;obtain⟨u,w',rfl,⟨t,rfl⟩,⟨t',rfl⟩⟩:=vals2 r;refine divmod_int (by lia) ?_ (.inl (PyProof.noPylong_small (by lia)));rw[zi i (by lia),fg i (by lia)];have hn:H s.heap.objs.size=none:=I.hok.fresh (î _);refine⟨.ref s.heap.objs.size,_,?_,rfl,q _ hn⟩;refine I.laid (λb o e=>ö _ e) (î _) ⟨by simp only[þ,io];rw[ϛ];decide,[.int (i / j) s.toks,.int (i % j) (s.toks+1)],.cons ⟨_,rfl⟩ (.cons ⟨_,rfl⟩ .nil),?_⟩;exact⟨_,Ŀ s.heap rfl,rfl,0,rfl⟩
end
structure xO(h:Ð)(x dx C:À)(mA:Str->Option Á):Prop where
 obj:h.get? x=some (cP C dx)
 ns:h.Ns1 dx mA
 ne:dx≠x
def ly{h:Ð}{dx:À}{mA:Str->Option Á}(n:h.Ns1 dx mA):∃od,h.get? dx=some od/\∀name,iL name od=some (mA name):=by
 obtain⟨o,es,ep,ho,hd,hk,_,hm⟩:=n;refine⟨o,ho,λname=>?_⟩;have e:=hm name;unfold nsFind findBy at e;rw[<-Array.find?_toList] at e;unfold iL;rw[hd];dsimp only;split
 ·rename_i y q;rw[q] at e;exact congrArg some e
 ·rename_i q;rw[q] at e;have a:es.toList.any (·.refKey)=false:=by
   rw[List.any_eq_false];intro y hy;obtain⟨z,t,WM⟩:=hk y (Array.mem_toList_iff.mp hy);simp[DictEntry.refKey,WM]
  have a':¬es.toList.any (·.refKey)=true:=by rw[a];exact ϖ
  rw[if_neg a'];exact congrArg some e
def xO.look{h:Ð}{x dx C:À}{mA:Str->Option Á}(I:xO h x dx C mA):∃od,bG h x (cP C dx) C (some od)/\∀name,iL name od=some (mA name):=
 let ⟨od,ho,hl⟩:=ly I.ns
 ⟨od,⟨I.obj,rfl,rfl,ho⟩,hl⟩
section
variable{prog:Þ}{w:Ø}{A:à}{E:Á->Â->Prop}{s:Â}{K:É}{x dx C f:À}{mA:Str->Option Á}{name:Str}{v:Á}
def Hg{Fd:Bool}{Q:Á->Â->Prop}(X:K.In s.heap)(I:xO s.heap x dx C mA)(hg:kB K C name=true)(hh:iM K C=true)
 (ha:Ĭ K (.ref C) name=some none)(hv:mA name=some v)(Hh:tY v=true)(h:Q v {s with toks:=s.toks+1}) :
 Î (Ì prog w) A (getAttr (.ref x) name Fd) Q E s:=by
 obtain⟨od,J,hl⟩:=I.look;exact PySem.W.get_value X J (tZ hg).1 (t_ hh ha rfl (by rw[hl,hv])) Hh h
def Cu{pl:Sem Bool}{Q:Á×List Á->Â->Prop}(X:K.In s.heap)(I:xO s.heap x dx C mA)(hg:kB K C name=true)
 (hf:Ĭ K (.ref C) name=some (some (.ref f)))(ht:kC K (.ref f)=true)(hv:mA name=none)(h:Q (.ref f,[.ref x]) s) :
 Î (Ì prog w) A (getMethod (.ref x) name pl) Q E s:=by
 obtain⟨od,J,hl⟩:=I.look;exact PySem.W.method_fn X J (tZ hg).1 (tZ hg).2 hf (beq_iff_eq.mp ht) (by show(iL name od).map (·.isSome)=some false;rw[hl,hv];rfl) h
def FL{ns:List Str}{Q:Unit->Â->Prop}(X:K.In s.heap)(I:xO s.heap x dx C mA)
 (hs:Ĭ K (.ref C) "__setattr__" =some (some (.builtin "object.__setattr__")))(hp:ua K C=true)(ht:ub K C name=some none)(hh:iM K C=true)
 (hw:km mA ns)(y_:ns.length<=sizeLine)
 (h:∀h',xO h' x dx C (λy=>if y=name then some v else mA y)->ao dx s.heap h'->Q () {s with heap:=h',toks:=s.toks+2}) :
 Î (Ì prog w) A (setAttr (.ref x) name v) Q E s:=by
 obtain⟨od,J,hl⟩:=I.look;refine uc X J hs (PySem.W.osa_open (s:={s with toks:=s.toks+1}) (r:=none) X J hp ht λb=>?_);obtain⟨cd,hc,KC⟩:=PySem.W.any_some hh;have hx:s.heap.get? x=some ⟨.ref C,some dx,.plain,#[]⟩:=I.obj;refine Ë (â (Ë (Ë (nn hx (Ë (ul (s:={s with toks:=s.toks+1}) (nK X hc) ?_))))));rw[KC];refine â (a:=some dx) (Ë (â (Ë ?_)));refine wpAny_nsSet1 (s:={s with toks:=s.toks+1}) I.ns λh' Cd Fe=>?_;obtain⟨oD,Qqj6,Qqj7,RL,RO,RP⟩:=Cd.count (um name v hw);refine Ë (sU RL (by rw[RO];exact sW (ϲ RP (by rw[þ];lia))) ?_);exact â (h _ ⟨(Fe.2 _ (Đ I.ne)).trans I.obj,Cd,I.ne⟩ Fe)
def Cw{R:dQ->Â->Prop}{vs:List Á}{kw:List (Str×Á)}(X:K.In s.heap)(hm:ud K C=true)
 (hi:Ĭ K (.ref C) "__init__" =some (some (.ref f)))(hf:nL K (.ref f)=some (.type "function"))
 (h:Ϝ (Ì prog w) (A.under (.builtin "type.__call__" ⟨.ref C::vs,kw⟩)) (.call (.ref f) ⟨.ref (s.heap.objs.size+1)::vs,kw⟩) (PySem.W.InitBack (s.heap.objs.size+1) R)
   {s with heap:=(s.heap.push bH).push (cP C s.heap.objs.size)}) :
 Ϝ (Ì prog w) A (.call (.ref C) ⟨vs,kw⟩) R s:=by
 obtain⟨hh,g,d,t,os⟩:=s;exact PySem.W.make_core (PySem.W.makes_of X hm) (fQ X hi) (λself=>PySem.W.bind_fn X self hf) (.inl rfl) h
end
noncomputable def af(f:Str)(v:V):List (Str×V)->List (Str×V)
 | []=>[(f,v)]
 |(g,x)::r=>if g=f then(g,v)::r else(g,x)::af f v r
theorem gO(f g:Str)(v:V):∀fs:List (Str×V),(af f v fs).lookup g=if g=f then some v else fs.lookup g
 | []=>by
   show fj g [(f,v)]=_;by_cases h:g=f
   ·have hb:(g== f)=true:=beq_iff_eq.mpr h;simp only[fj,hb,if_pos h]
   ·have hb:(g== f)=false:=beq_eq_false_iff_ne.mpr h;simp only[fj,hb,if_neg h]
 |(k,x)::r=>by
  have ih:=gO f g v r;rw[show af f v ((k,x)::r)=(if k=f then(k,v)::r else(k,x)::af f v r) from rfl];by_cases hk:k=f
  ·rw[if_pos hk];by_cases h:g=k
   ·have hb:(g== k)=true:=beq_iff_eq.mpr h;simp only[fj,hb,if_pos (h.trans hk)]
   ·have hb:(g== k)=false:=beq_eq_false_iff_ne.mpr h;simp only[fj,hb,if_neg (λe:g=f=>h (e.trans hk.symm))]
  ·rw[if_neg hk];by_cases h:g=k
   ·have hb:(g== k)=true:=beq_iff_eq.mpr h;simp only[fj,hb,if_neg (λe:g=f=>hk (h.symm.trans e))]
   ·have hb:(g== k)=false:=beq_eq_false_iff_ne.mpr h;simp only[fj,hb];exact ih
theorem lz(f:Str)(v:V):∀fs:List (Str×V),f∈(af f v fs).map (·.1)/\∀g,g∈fs.map (·.1)->g∈(af f v fs).map (·.1)
 | []=>⟨by simp[af],λg h=>by simp at h⟩
 |(k,x)::r=>by
  obtain⟨i1,i2⟩:=lz f v r;rw[show af f v ((k,x)::r)=(if k=f then(k,v)::r else(k,x)::af f v r) from rfl];by_cases hk:k=f
  ·rw[if_pos hk];subst hk;exact⟨by simp,λg h=>by simpa using h⟩
  ·rw[if_neg hk];refine⟨?_,λg h=>?_⟩
   ·rw[Ý];exact í _ i1
   ·rw[Ý] at h ⊢;rcases Č.mp h with e|e
    ·exact Č.mpr (.inl e)
    ·exact í _ (i2 g e)
theorem gP(f:Str)(v:V):∀fs:List (Str×V),(af f v fs).length<=fs.length+1
 | []=>by simp[af]
 |(k,x)::r=>by
  have ih:=gP f v r;rw[show af f v ((k,x)::r)=(if k=f then(k,v)::r else(k,x)::af f v r) from rfl];by_cases hk:k=f
  ·rw[if_pos hk,þ,þ];lia
  ·rw[if_neg hk,þ,þ];lia
def kE.some_of{v:V}{o:Option Á}(r:kE (some v) o):∃u,o=some u/\RelV v u:=by
 cases o with
 |none=>exact(show False from r).elim
 |some u=>exact⟨u,rfl,r⟩
def kE.none_of{o:Option Á}(r:kE none o):o=none:=by
 cases o with
 |none=>rfl
 |some u=>exact(show False from r).elim
def qY{v:V}{u:Á}(r:RelV v u):tY u=true:=by
 cases v with
 |non=>cases(show u=Value.none from r);rfl
 |bl b=>cases(show u=ŉ b from r);rfl
 |int i=>obtain⟨t,e⟩:=(show ∃t,u=nG i t from r);cases e;rfl
 |str x=>obtain⟨t,e⟩:=(show ∃t,u=nH x t from r);cases e;rfl
 |Ht b=>obtain⟨t,e⟩:=(show ∃t,u=Value.bytes b t from r);cases e;rfl
 |flt b=>obtain⟨t,e⟩:=(show ∃t,u=tH b t from r);cases e;rfl
 |ref a=>cases(show u=ă a from r);rfl
 |ty n=>cases(show u=tJ n from r);rfl
section
variable{P:Þ}{w:Ø}{H:Hp}{h:Ð}{a C dx:À}{fs:List (Str×V)}
def nO(hok:cZ P w H h)(e:H a=some (.ins C dx fs)):∃mA,xO h a dx C mA/\(∀f,kE (fs.lookup f) (mA f))/\km mA (fs.map (·.1))/\fs.length<=1000/\H dx=some (.own a):=by obtain⟨d,z,ne,ob,mA,n,r,q⟩:=(show Ť P w H h a (.ins C dx fs) from hok a _ e);exact⟨mA,⟨ob,n,ne⟩,r,q,z,d⟩
end
structure lw(K:É)(C:À):Prop where
 pg:kB K C dX=true
 hd:iM K C=true
 po:ua K C=true
 sa:Ĭ K (.ref C) "__setattr__" =some (some (.builtin "object.__setattr__"))
def lw.get{K:É}{C:À}(c:lw K C)(f:Str):kB K C f=true:=c.pg
def ċ(K:É)(C:À)(f:Str):Prop:=Ĭ K (.ref C) f=some none
def ċ.taker{K:É}{C:À}{f:Str}(n:ċ K C f):ub K C f=some none:=by unfold ub;rw[show Ĭ K (.ref C) f=some none from n];rfl
structure qR(K:É)(C:À)(m:Str)(f:À):Prop where
 at_:Ĭ K (.ref C) m=some (some (.ref f))
 fn:kC K (.ref f)=true
 kp:Ţ K (.ref f)=true
section
variable{X:Cx}{Ã:List (À×Obj)}{Y:St}{H:Hp}{s:Â}{a C dx:À}{fs:List (Str×V)}{f:Str}{v:V}{A:à}{E:Á->Â->Prop}
def xP{b:Bool}{Q:Á->Â->Prop}(I:Inv X Ã Y H s)(e:H a=some (.ins C dx fs))(c:lw X.K C)(n:ċ X.K C f)(l:fs.lookup f=some v)
 (h:∀u s',Inv X Ã Y H s'->RelV v u->Q u s'):Î (Ì X.prog X.w) A (getAttr (.ref a) f b) Q E s:=by
 obtain⟨mA,Qqq,r,_,_,_⟩:=nO I.hok e;obtain⟨u,hu,ru⟩:=kE.some_of (v:=v) (o:=mA f) (by rw[<-l];exact r f);exact Hg I.da Qqq (c.get f) c.hd n hu (qY ru) (h u _ (I.tok _) ru)
def xQ{m:Str}{g:À}{pl:Sem Bool}{Q:Á×List Á->Â->Prop}(I:Inv X Ã Y H s)(e:H a=some (.ins C dx fs))(c:lw X.K C)(k:qR X.K C m g)(l:fs.lookup m=none)
 (h:Q (.ref g,[.ref a]) s):Î (Ì X.prog X.w) A (getMethod (.ref a) m pl) Q E s:=by
 obtain⟨mA,Qqq,r,_,_,_⟩:=nO I.hok e;have hn:mA m=none:=kE.none_of (by rw[<-l];exact r m);exact Cu I.da Qqq (c.get m) k.at_ k.fn hn h
def xR{y:V}{u:Á}{Q:Unit->Â->Prop}(I:Inv X Ã Y H s)(e:H a=some (.ins C dx fs))(c:lw X.K C)(n:ċ X.K C f)(hl:fs.length<1000)(ry:RelV y u)
 (h:∀s',Inv X Ã Y (upd H a (.ins C dx (af f y fs))) s'->Q () s'):Î (Ì X.prog X.w) A (setAttr (.ref a) f u) Q E s:=by
 obtain⟨mA,Qqq,r,wi,_,ho⟩:=nO I.hok e;have hz:(fs.map (·.1)).length<=sizeLine:=by rw[ď,ϛ];lia
 refine FL I.da Qqq c.sa c.po n.taker c.hd wi hz λh' Qqq' sb=>h _ ?_;have hd:∃o,h'.get? dx=some o:=let ⟨o,_,_,e',_⟩:=Qqq'.ns;⟨o,e'⟩;refine I.write (x:=a) (e:=dx) (by rw[e];exact True.intro) (.inr ho) (λb q hb z=>(sb.2 b hb).trans z) hd ?_;refine⟨by rw[Ú Qqq.ne];exact ho,?_,Qqq.ne,Qqq'.obj,_,Qqq'.ns,λg=>?_,λg hg=>?_⟩
 ·have:=gP f y fs;lia
 ·show kE ((af f y fs).lookup g) (if g=f then some u else mA g);rw[gO];by_cases q:g=f
  ·rw[if_pos q,if_pos q];exact ry
  ·rw[if_neg q,if_neg q];exact r g
 ·by_cases q:g=f
  ·rw[q];exact(lz f y fs).1
  ·refine(lz f y fs).2 g (wi g λz=>hg ?_);show(if g=f then some u else mA g)=none;rw[if_neg q];exact z
def Inv.made(I:Inv X Ã Y H s):Inv X Ã Y (upd (upd H s.heap.objs.size (.own (s.heap.objs.size+1))) (s.heap.objs.size+1) (.ins C s.heap.objs.size []))
 {s with heap:=(s.heap.push bH).push (cP C s.heap.objs.size)}:=by
 have e1:(s.heap.push bH).get? s.heap.objs.size=some bH:=Ŀ s.heap rfl;have e2:((s.heap.push bH).push (cP C s.heap.objs.size)).get? (s.heap.objs.size+1)=some (cP C s.heap.objs.size):=by
  have:=Ŀ (s.heap.push bH) (o:=cP C s.heap.objs.size) rfl
  rwa [bC] at this
 have e3:(s.heap.push bH).Ns s.heap.objs.size (λ_=>none):=⟨bH,#[],_,e1,rfl,(λe he=>absurd he (by simp)),λ_=>rfl⟩;have I1:=I.laid (a:=s.heap.objs.size) (o:=.own (s.heap.objs.size+1)) (h':=s.heap.push bH) (t':=s.toks) (λb u q=>ö _ q) (î _) ⟨_,e1⟩;refine I1.laid (a:=s.heap.objs.size+1) (o:=.ins C s.heap.objs.size []) (t':=s.toks) (λb u q=>ö _ q) (sM (bC _ _)) ?_;have ne:s.heap.objs.size≠s.heap.objs.size+1:=ħ (sN _);refine⟨by rw[Ú ne,ã],ϳ _,ne,e2,λ_=>none,(zO e3).at λo q=>ö _ q,λ_=>True.intro,λy hy=>absurd rfl hy⟩
def Ab{prog:Þ}{w:Ø}{env:Env}{e:Æ}{f:Str}{pos:Pos}{s:Â}{Q:Á->Â->Prop}(hb:bB e f env (eval e env)=eval e env)
 (h:Î (Ì prog w) A (eval e env) (λo s₁=>Î (Ì prog w) A (getAttr o f true) Q E s₁) E s):Î (Ì prog w) A (eval (.Attribute e f pos) env) Q E s:=
 Attribute_any_ h (by rw[arm_eval_Attribute,hb])
end
def Ug(K:É)(ta:TE)(f:Str):TE:=λY H Q=>ta Y H λx H1=>∃a C dx fs v,x=.ref a/\H1 a=some (.ins C dx fs)/\lw K C/\ċ K C f/\fs.lookup f=some v/\Q v H1
def Uh(K:É)(ta tv:TE)(f:Str):TS:=λD Y H=>tv Y H λy H1=>ta Y H1 λx H2=>∃a C dx fs,x=.ref a/\H2 a=some (.ins C dx fs)/\lw K C/\ċ K C f/\fs.length<1000/\
 D.nx Y (upd H2 a (.ins C dx (af f y fs)))
section
variable{X:Cx}{o e value:Æ}{f:Str}{pos bW:Pos}{ta tv:TE}
def Lj(he:PE X e ta)(hb:bB e f X.env (eval e X.env)=eval e X.env):PE X (.Attribute e f pos) (Ug X.K ta f):=by intro Ã s Y H Q I h;refine Ab hb (ŝ (he Ã s Y H _ I h) λu s1 ⟨x,H1,I1,rx,a,C,dx,fs,v,ex,ea,c,n,l,q⟩=>?_);subst ex;obtain rfl:u=ă a:=rx;exact xP I1 ea c n l λu' s2 I2 ru=>⟨v,H1,I2,ru,q⟩
def Lk(ha:PE X o ta)(hv:PE X value tv)(hs:ŗ value (some (.Attribute o f bW)) pos.line X.env=ç false):PS X (.Assign [.Attribute o f bW] value pos) (Uh X.K ta tv f):=by intro Ã s Y H D I h;refine zx (ŝ (hv Ã s Y H _ I h) λu s1 ⟨y,H1,I1,ry,q⟩=>ŝ (ha Ã s1 Y H1 _ I1 q) λov s2 ⟨x,H2,I2,rx,a,C,dx,fs,ex,ea,c,n,l,q2⟩=>?_) hs;subst ex;obtain rfl:ov=ă a:=rx;exact xR I2 ea c n l ry λs3 I3=>⟨Y,_,I3,q2⟩
end
section
variable{X:Cx}{Ã:List (À×Obj)}{Y:St}{H:Hp}{s:Â}{A:à}{E:Á->Â->Prop}{Q:Á->Â->Prop}{c:Á}{b:Bool}
inductive lA(K:É)(H:Hp):V->Á->Prop where
 |non:lA K H .non (.type "NoneType")
 |bl (x:Bool):lA K H (.bl x) (.type "bool")
 |int (i:Int):lA K H (.int i) (.type "int")
 |str (x:Str):lA K H (.str x) (.type "str")
 |flt (x:UInt64):lA K H (.flt x) (.type "float")
 |lst {a:À} {xs:List V} (e:H a=some (.lst xs)):lA K H (.ref a) (.type "list")
 |bS {a:À} {o:Obj} {xs:List V} (e:H a=some (.bS o (.lst xs))):lA K H (.ref a) (.type "list")
 |tup {a:À} {xs:List V} (e:H a=some (.tup xs)):lA K H (.ref a) (.type "tuple")
 |dK {a:À} {ff:List (Key×V)} (e:H a=some (.dK ff)):lA K H (.ref a) (.type "dict")
 |dT {a:À} {ff:List (List Key×V)} (e:H a=some (.dT ff)):lA K H (.ref a) (.type "dict")
 |ins {a C dx:À} {fs:List (Str×V)} (e:H a=some (.ins C dx fs)) (cl:lw K C) (ha:Ĭ K (.ref C) "__class__" =some (some (.builtin "object.__class__")))
   (hn:ue K (.builtin "object.__class__") "__get__" =some (some (.builtin "getset_descriptor.__get__"))) (Qqj8:uf K (.builtin "object.__class__")=some true)
   (hm:av K C (.type "object")=some true):lA K H (.ref a) (.ref C)
def eV{x:V}{u t:Á}(I:Inv X Ã Y H s)(rx:RelV x u)(ty:lA X.K H x t)(e:ŀ X.K t c=some b)(h:∀tk,Q (.bool b) {s with toks:=tk}) :
 Î (Ì X.prog X.w) A (call (.builtin "isinstance") [u,c]) Q E s:=by
 cases ty with
 |non=>cases(show u=Value.none from rx);exact ϡ PySem.W.kitx_none I.da True.intro e (λz=>nomatch z) h
 |bl y=>cases(show u=ŉ y from rx);exact ϡ PySem.W.kitx_bool I.da True.intro e (λz=>nomatch z) h
 |int i=>obtain⟨t,q⟩:=(show ∃t,u=nG i t from rx);cases q;exact ϡ PySem.W.kitx_int I.da True.intro e (λz=>nomatch z) h
 |str y=>obtain⟨t,q⟩:=(show ∃t,u=nH y t from rx);cases q;exact ϡ PySem.W.kitx_str I.da True.intro e (λz=>nomatch z) h
 |flt y=>obtain⟨t,q⟩:=(show ∃t,u=tH y t from rx);cases q;exact ϡ PySem.W.kitx_float I.da True.intro e (λz=>nomatch z) h
 |@lst a xs ea=>cases(show u=ă a from rx);obtain⟨_,_,n,_,h1⟩:=(show Ť X.prog X.w H s.heap a (.lst xs) from I.hok a _ ea);exact ϡ ug I.da ⟨_,h1,rfl⟩ e (λz=>nomatch z) h
 |@bS a ob xs ea=>cases(show u=ă a from rx);obtain⟨_,_,_,n,_,h1⟩:=(show Ť X.prog X.w H s.heap a (.bS ob (.lst xs)) from I.hok a _ ea);exact ϡ ug I.da ⟨_,h1,rfl⟩ e (λz=>nomatch z) h
 |@tup a xs ea=>cases(show u=ă a from rx);obtain⟨_,_,_,p⟩:=(show Ť X.prog X.w H s.heap a (.tup xs) from I.hok a _ ea);obtain⟨o,h1,h2,_⟩:=p;exact ϡ zP I.da ⟨o,h1,h2⟩ e (λz=>nomatch z) h
 |@dK a ff ea=>cases(show u=ă a from rx);obtain⟨_,_,vs,_,p⟩:=(show Ť X.prog X.w H s.heap a (.dK ff) from I.hok a _ ea);obtain⟨o,es,ep,h1,h2,_⟩:=p;exact ϡ zQ I.da ⟨o,h1,h2.1⟩ e (λz=>nomatch z) h
 |@dT a ff ea=>cases(show u=ă a from rx);obtain⟨_,_,xs,_,o,es,ep,h1,h2,_⟩:=(show Ť X.prog X.w H s.heap a (.dT ff) from I.hok a _ ea);exact ϡ zQ I.da ⟨o,h1,h2.1⟩ e (λz=>nomatch z) h
 |@ins a C dx fs ea cl ha hn Qqj8 hm=>cases(show u=ă a from rx);obtain⟨mA,Qqq,_⟩:=nO I.hok ea;obtain⟨od,J,_⟩:=Qqq.look;exact ϡ (PySem.W.kitx_own (cl.get _) cl.hd ha hn Qqj8 hm) I.da J e (λz=>nomatch z) h
end
structure ϊ(k:Nat)(A:à):Prop where
 hd:A.handled=none
 dp:A.depth+3*k+5<sX
 un:A.units+16*k+200<ϝ
def ϊ.mono{j k:Nat}{A:à}(r:ϊ k A)(h:j<=k):ϊ j A:=⟨r.hd,by have:=r.dp;lia,by have:=r.un;lia⟩
def ϊ.mo{j k:Nat}{A:à}(r:ϊ k A)(h:j<=k:= by decide):ϊ j A:= r.mono h
theorem ϊ.deeper{k:Nat}{A:à}(r:ϊ (k+1) A)(env:Env):ϊ k (A.deeper env):=
 ⟨r.hd,by have:=r.dp;show A.depth+1+3*k+5<_;lia,by have:=r.un;show A.units+3+16*k+200<_;lia⟩
def xS{A:à}{C:À}{us:List Á}{kw:List (Str×Á)}:(A.under (.builtin "type.__call__" ⟨.ref C::us,kw⟩)).depth=A.depth+1:=by first|rfl|simp[sZ,Code.weight,Code.isCreation,Code.isGuard,Code.isCaller,Code.frames,s_,guardIds]
def xT{A:à}{C:À}{us:List Á}{kw:List (Str×Á)}:(A.under (.builtin "type.__call__" ⟨.ref C::us,kw⟩)).units=A.units+1:=by first|rfl|simp[sZ,Code.cUnits,Code.frames,s_]
def ϊ.make{k:Nat}{A:à}(r:ϊ (k+1) A)(C:À)(us:List Á)(kw:List (Str×Á)):ϊ k (A.under (.builtin "type.__call__" ⟨.ref C::us,kw⟩)):=
 ⟨r.hd,by have:=r.dp;rw[xS];lia,by have:=r.un;rw[xT];lia⟩
theorem ϊ.depth{k:Nat}{A:à}(r:ϊ k A):A.depth<sX:=by have:=r.dp;lia
theorem ϊ.units{k:Nat}{A:à}(r:ϊ k A):A.units+64<ϝ:=by have:=r.un;lia
def Cy:TA:=λ_ H Q=>Q [] H
def Cz(ta:TE)(tr:TA):TA:=λY H Q=>ta Y H λx H1=>tr Y H1 λxs H2=>Q (x::xs) H2
section
variable{X:Cx}{e:Æ}{es:List Æ}{te:TE}{t:TA}{pos:Pos}
def aN:PA X [] Cy:=λ_ _ _ _ H Q I h=>Calls.spliced_nil ⟨[],H,I,.nil,h⟩
def Ϥ(ha:PE X e te)(hr:PA X es t)(hs:Ö (e::es) X.env=(false,eval e X.env)::Ö es X.env:=by rfl):PA X (e::es) (Cz te t):=by intro pos Ã s Y H Q I h;rw[hs];show Î _ _ (spliced ((false,eval e X.env)::ĝ pos (Ö es X.env))) _ _ s;refine Calls.spliced_cons (ŝ (ha Ã s Y H _ I h) λu s1 ⟨x,H1,I1,r1,q1⟩=>?_);exact ŝ (hr pos Ã s1 Y H1 _ I1 q1) λus s2 ⟨xs,H2,I2,r2,q2⟩=>⟨x::xs,H2,I2,.cons r1 r2,q2⟩
def Ui(t:TA):TE:=λY H Q=>t Y H λxs H1=>xs.length<=sizeLine/\∀p,H1 p=none->Q (.ref p) (upd H1 p (.tup xs))
def Ll(t:TA):TE:=λY H Q=>t Y H λxs H1=>xs.length<=sizeLine/\∀p,H1 p=none->Q (.ref p) (upd H1 p (.lst xs))
def CA{x1}(h:PA X es t):PE X (.Tuple es x1 pos) (Ui t):=by intro Ã s Y H Q I hq;refine wpAny_Tuple_spliced (ŝ (h pos Ã s Y H _ I hq) λus s1 ⟨xs,H1,I1,r,z,q⟩=>⟨by rw[<-r.length];exact z,?_⟩);have hf:H1 s1.heap.objs.size=none:=I1.hok.fresh (î _);refine⟨.ref s1.heap.objs.size,upd H1 s1.heap.objs.size (.tup xs),I1.laid (t':=s1.toks) (λb u e=>ö _ e) (î _) ?_,rfl,q _ hf⟩;exact⟨z,us,r,⟨_,Ŀ _ rfl,rfl,_,rfl⟩⟩
def uB(h:PA X es t):PE X (.List es pos) (Ll t):=by intro Ã s Y H Q I hq;refine wpAny_List_spliced (ŝ (h pos Ã s Y H _ I hq) λus s1 ⟨xs,H1,I1,r,z,q⟩=>⟨by rw[<-r.length];exact z,?_⟩);have hf:H1 s1.heap.objs.size=none:=I1.hok.fresh (î _);refine⟨.ref s1.heap.objs.size,upd H1 s1.heap.objs.size (.lst xs),I1.laid (t':=s1.toks) (λb u e=>ö _ e) (î _) ?_,rfl,q _ hf⟩;exact⟨z,us,0,r,Ŀ _ rfl⟩
end
abbrev Sp:=List V->Hp->VK->XK->Prop
abbrev ji:=List Env->Hp->Â->XK->Á->Â->Prop
structure uC(P:Þ)(w:Ø)(K:É)(mg:Str->Option Á)(base:Ð)(A:à)(outer:List Env)(s:Â)(H:Hp):Prop where
 frames:A.frames=some outer
 mod:Mod K mg base
 bs:∀b o,base.get? b=some o->s.heap.get? b=some o/\H b=none
 zY:base.objs.size<=s.heap.objs.size
 gK:s.heap.FunFrames base outer
 B4:∀b∈gI outer,H b=none
 hok:cZ P w H s.heap
 bare:bu s.gens
 tb:vT K mg base H
def CE(outer:List Env)(P:Þ)(w:Ø)(H:Hp)(s:Â)(Q:VK)(u:Á)(s':Â):Prop:=
 ∃v H',s'.os=s.os/\bu s'.gens/\Un (gI outer) [] H H' s.heap s'.heap/\cZ P w H' s'.heap/\RelV v u/\Q v H'
def CR(CX:ji)(outer:List Env)(P:Þ)(w:Ø)(H:Hp)(s:Â)(Q:VK)(E:XK)(r:dQ)(s':Â):Prop:=
 match r with
 | .ok (.ret u)=>CE outer P w H s Q u s'
 | .ok _=>False
 | .error e=>CX outer H s E e s'
structure Ě(P:Þ)(w:Ø)(K:É)(mg:Str->Option Á)(base:Ð)(CX:ji)(k:Nat)(f:À)(fd:Ė)(ps:List Str)(sp:Sp):Prop where
 len:∀vs H Q E,sp vs H Q E->vs.length=ps.length
 run:∀(A:à) (outer:List Env) (s:Â) (H:Hp) (args:Args) (us:List Á) (vs:List V) (Q:VK) (E:XK),ϊ k A->uC P w K mg base A outer s H->cG s fd args (ps.zip us)->ĭ vs us->sp vs H Q E->
  Ϝ (Ì P w) A (.call (.ref f) args) (CR CX outer P w H s Q E) s
theorem Ě.mono{P:Þ}{w:Ø}{K:É}{mg:Str->Option Á}{base:Ð}{CX:ji}{j k:Nat}{f:À}{fd:Ė}{ps:List Str}{sp:Sp}(F:Ě P w K mg base CX j f fd ps sp)(h:j<=k) :
 Ě P w K mg base CX k f fd ps sp:=⟨F.len,λA outer s H args us vs Q E hr=>F.run A outer s H args us vs Q E (hr.mono h)⟩
def Ě.imp{P:Þ}{w:Ø}{K:É}{mg:Str->Option Á}{base:Ð}{CX:ji}{k:Nat}{f:À}{fd:Ė}{ps:List Str}{sp Xv:Sp}(F:Ě P w K mg base CX k f fd ps sp)
 (h:∀vs H Q E,Xv vs H Q E->sp vs H Q E):Ě P w K mg base CX k f fd ps Xv:=
 ⟨λvs H Q E q=>F.len vs H Q E (h _ _ _ _ q),λA outer s H args us vs Q E hr he hb hv hs=>F.run A outer s H args us vs Q E hr he hb hv (h _ _ _ _ hs)⟩
def uC.make{P:Þ}{w:Ø}{K:É}{mg:Str->Option Á}{base:Ð}{A:à}{outer:List Env}{s:Â}{H:Hp}(e:uC P w K mg base A outer s H)(C:À)(us:List Á)(kw:List (Str×Á)) :
 uC P w K mg base (A.under (.builtin "type.__call__" ⟨.ref C::us,kw⟩)) outer s H:=⟨by first|exact e.frames|(simpa[sZ,Code.envs,s_,pushEnvs] using e.frames),e.mod,e.bs,e.zY,e.gK,e.B4,e.hok,e.bare,e.tb⟩
section
variable{X:Cx}{Ã:List (À×Obj)}{Y:St}{H:Hp}{s s':Â}
def Inv.env0(I:Inv X Ã Y H s):uC X.prog X.w X.K X.mg X.base X.A X.stack s H:=
 ⟨I.ok.frames,I.ok.mod,I.bs,ϲ I.ok.zY I.sz,I.stack,I.nN,I.hok,I.bare,I.tb⟩
def Inv.after{Q:VK}{u:Á}(I:Inv X Ã Y H s)(h:CE X.stack X.prog X.w H s Q u s'):EP X Ã Y Q u s':=by obtain⟨v,H',os,bare,un,hok,r,q⟩:=h;obtain⟨hh,g,d,t,os'⟩:=s';obtain rfl:os'=s.os:=os;exact⟨v,H',I.call (h':=hh) (g':=g) (d':=d) (t':=t) (ch:=[]) un hok bare (λb z=>absurd z (by simp)),r,q⟩
end
def Binds(K:É)(fd:Ė)(ps:List Str)(ds:List Á):Prop:=
 ∀(s:Â) (us:List Á),K.In s.heap->(us++ds).length=ps.length->cG s fd ⟨us,[]⟩ (ps.zip (us++ds))
def Binds.all{K:É}{fd:Ė}{ps:List Str}(h:∀us:List Á,us.length=ps.length->bindArgs fd ⟨us,[]⟩=ç (ps.zip us)):Binds K fd ps []:=λs us _ hl=>by rw[cu] at hl ⊢;exact .of_eq (h us hl)
section
variable{f C:À}
structure Mk(K:É)(C f:À):Prop where
 makes:ud K C=true
 init:Ĭ K (.ref C) "__init__" =some (some (.ref f))
 fn:kC K (.ref f)=true
 kp:Ţ K (.ref C)=true
end
section
end
structure æ(N P:List Str)(sc:õ):Prop where
 kind:sc.kind=.function
 co:sc.isCoroutine=false
 gen:sc.isGenerator=false
 nd:N.Nodup
 pre:N.take P.length=P
 par:∀x∈P,sc.names.lookup x=some .local\/sc.names.lookup x=some .cell
 Lm:∀y∈sc.names,y.2≠ .free
theorem qZ{kindOf:Str->Option ak}{x:Str}:∀{binds:List (Str×Á)} {m:Str->Option Á},(∀v,(x,v)∉binds)->bindL kindOf binds m x=m x
 | [],_,_=>rfl
 |(n,v)::r,m,h=>by
  unfold bindL;rw[qZ λw hw=>h w (í _ hw)];split
  ·have:x≠n:=by rintro rfl;exact h v ű
   simp[this]
  ·rfl
theorem q_{kindOf:Str->Option ak}{x:Str}:∀{binds:List (Str×Á)} {m:Str->Option Á},(∀v,(x,v)∉binds)->bindC kindOf binds m x=m x
 | [],_,_=>rfl
 |(n,v)::r,m,h=>by
  unfold bindC;rw[q_ λw hw=>h w (í _ hw)];split
  ·rfl
  ·have:x≠n:=by rintro rfl;exact h v ű
   simp[this]
theorem re{kindOf:Str->Option ak}{x:Str}{v:Á}:∀{P:List Str} {vs:List Á} {i:Nat} {m:Str->Option Á},P.Nodup->P[i]?=some x->vs[i]?=some v->kindOf x=some .local->
 bindL kindOf (P.zip vs) m x=some v
 | [],_,_,_,_,h,_,_=>by simp at h
 |_::_,[],_,_,_,_,h,_=>by simp at h
 |p::P,w::vs,0,m,nd,h1,h2,hk=>by simp at h1 h2;subst h1;subst h2;show bindL kindOf ((p,w)::P.zip vs) m p=_;unfold bindL;rw[qZ λv hv=>(cw.mp nd).1 (m_ hv).1,if_pos hk];simp
 |p::P,w::vs,i+1,m,nd,h1,h2,hk=>by show bindL kindOf ((p,w)::P.zip vs) m x=_;unfold bindL;exact re (i:=i) (cw.mp nd).2 (by simpa using h1) (by simpa using h2) hk
theorem rh{kindOf:Str->Option ak}{x:Str}{v:Á}:∀{P:List Str} {vs:List Á} {i:Nat} {m:Str->Option Á},P.Nodup->P[i]?=some x->vs[i]?=some v->kindOf x≠some .local->
 bindC kindOf (P.zip vs) m x=some v
 | [],_,_,_,_,h,_,_=>by simp at h
 |_::_,[],_,_,_,_,h,_=>by simp at h
 |p::P,w::vs,0,m,nd,h1,h2,hk=>by simp at h1 h2;subst h1;subst h2;show bindC kindOf ((p,w)::P.zip vs) m p=_;unfold bindC;rw[q_ λv hv=>(cw.mp nd).1 (m_ hv).1,if_neg hk];simp
 |p::P,w::vs,i+1,m,nd,h1,h2,hk=>by show bindC kindOf ((p,w)::P.zip vs) m x=_;unfold bindC;exact rh (i:=i) (cw.mp nd).2 (by simpa using h1) (by simpa using h2) hk
def start(N:List Str)(vs:List V):St:=vs.map some++Ê (N.length-vs.length) none
noncomputable def ŭ(CX:ji)(P:Þ)(w:Ø)(K:É)(mg:Str->Option Á)(base:Ð)(N:List Str)(ý:Str)(scope:õ)(f:À)(cd:Á)(A:à)(outer:List Env)(s:Â)(H:Hp)(E:XK):Cx where
 prog:=P
 w:=w
 K:=K
 mg:=mg
 base:=base
 A:=A.deeper (ú ý scope s.heap.objs.size f cd)
 N:=N
 s₀:= s
 H₀:= H
 env:=ú ý scope s.heap.objs.size f cd
 outer:=outer
 stack:=ú ý scope s.heap.objs.size f cd::outer
 ex:=[]
 calm:=true
 fn:=λ_=>true
 pn:=[]
 xe:=λe s'=>Î (Ì P w) (A.deeper (ú ý scope s.heap.objs.size f cd)) (fF (ú ý scope s.heap.objs.size f cd) e) (λ_ WN=>CX outer H s E e WN) (λe' WN=>CX outer H s E e' WN) s'
def kF{sc:õ}{n:Nat}{x:Str}(h:sc.names.lookup x=some .cell):∃c,(Ķ n sc.names []).lookup x=some c:=by have q:=uh sc.names n [] (.inl h);exact Option.isSome_iff_exists.mp q
def ri{CX:ji}{P:Þ}{w:Ø}{K:É}{mg:Str->Option Á}{base:Ð}{N ps:List Str}{ý:Str}{scope:õ}{f:À}{cd:Á}{A:à}{outer:List Env}{s s1:Â}{H:Hp}{E:XK}{us:List Á}{vs:List V}
 (S:æ N ps scope)(hd:A.handled=none)(e0:uC P w K mg base A outer s H)(hl:vs.length=ps.length)(r:ĭ vs us)
 (x:InCallC s s.heap.objs.size (bindL (ú ý scope s.heap.objs.size f cd).kindOf (ps.zip us) λ_=>none) (Ķ (s.heap.objs.size+1) scope.names []) (bindC (ú ý scope s.heap.objs.size f cd).kindOf (ps.zip us) λ_=>none) s1) :
 Inv (ŭ CX P w K mg base N ý scope f cd A outer s H E) [] (start N vs) H s1:=by
 have hpl:ps.length<=N.length:=by have:=congrArg aF S.pre;rw[nb] at this;lia
 obtain⟨h1,tk,rfl,hk⟩:=x.done;have Ps:∀b:À,b∉(ŭ CX P w K mg base N ý scope f cd A outer s H E).ex:=λb z=>absurd (show b∈([]:List À) from z) (by simp);refine⟨⟨e0.mod,S.kind,rfl,rfl,î _,λy z c h1 h2=>?_,λy hy=>?_,λy c _ h=>?_,λ_=>hd,Around.frames_deeper e0.frames,.inr ⟨rfl,rfl⟩,λb z=>absurd z (Ps b),e0.bs,e0.zY,λb _ _=>Ps b,λb z=>absurd z (Ps b),e0.gK,e0.B4,e0.tb⟩,
  rfl,e0.bare,Un.kept hk,⟨_,x.toInCall.ns,λi y v h1 h2 h3=>?_⟩,λy c h=>⟨_,x.cell y c h⟩,e0.hok.fresh (î _),λy c h=>?_,λp hp=>absurd (show p∈([]:List (À×Obj)) from hp) (by simp),e0.hok.kept hk,?_⟩
 ·exact name_of_addr x.apart (kq h1) (kq h2)
 ·have hy:scope.names.lookup y=some .cell\/scope.names.lookup y=some .free:=hy;rcases hy with hy|hy
  ·exact kF hy
  ·exact absurd rfl (S.Lm _ (kq hy))
 ·exact kh (x.above y c (kq h))
 ·have hi:i<vs.length:=by
   unfold start at h2;by_cases hi:i<vs.length
   ·exact hi
   ·rw[fk (by simpa using hi)] at h2;rw[fq] at h2;split at h2<;>cases h2
  have ha:vs[i]?=some v:=by
   unfold start at h2;rw[aG (by simpa using hi),Ņ] at h2;cases e:vs[i]? with
   |none=>rw[e] at h2;cases h2
   |some a=>rw[e] at h2;cases h2;rfl
  obtain⟨u,hu,rv⟩:=r.get ha;have hp:ps[i]?=some y:=by rw[<-S.pre,List.getElem?_take_of_lt (by lia)];exact h1
  have Xw:ps.Nodup:=by rw[<-S.pre];exact S.nd.sublist (sB _ _)
  refine⟨u,rv,?_⟩;rcases S.par y (fu hp) with k|k
  ·exact .inl ⟨k,re Xw hp hu k⟩
  ·obtain⟨c,e⟩:=kF (n:=s.heap.objs.size+1) k;refine .inr ⟨.inl k,c,e,?_⟩;have q:=x.cell y c e;rw[rh Xw hp hu (by show scope.names.lookup y≠_;rw[k];decide)] at q;exact q
 ·exact e0.hok.fresh (kh (x.above y c (kq h)))
 ·unfold start;show _=N.length;rw[Ī,ď,List.length_replicate];lia
def Ac{CX:ji}{P:Þ}{w:Ø}{K:É}{mg:Str->Option Á}{base:Ð}{k:Nat}{f:À}{name ý:Str}{params:cH}{body:List Ò}{scope:õ}{dV kV mW pm ĺ ct oc:Á}{an od:Option À}
 {qS:Array (Option Á)}{N ps:List Str}{sp:Sp}(lk:K.lookup f=some ⟨oc,od,.func (Ϣ name ý params body scope dV kV mW pm an ĺ ct),qS⟩)(gE:iO K ĺ ý=true)(S:æ N ps scope)
 (len:∀vs H Q E,sp vs H Q E->vs.length=ps.length)
 (dF:∀(A:à) (outer:List Env) (s:Â) (H:Hp) (vs:List V) (Q:VK) (E:XK),ϊ k (A.deeper (ú ý scope s.heap.objs.size f ĺ))→sp vs H Q E→
   ∃t,ay (ŭ CX P w K mg base N ý scope f ĺ A outer s H E) body t/\t {nx:=λ_ H'=>Q .non H',rt:=Q} (start N vs) H) :
 Ě P w K mg base CX (k+1) f (Ϣ name ý params body scope dV kV mW pm an ĺ ct) ps sp:=by
 refine⟨len,λA outer s H args us vs Q E hr e0 hb r Ba=>?_⟩;have hl:=len _ _ _ _ Ba;have KX:K.In s.heap:=e0.mod.Hw.keeps λb o e=>(e0.bs b o e).1;have WO:s.heap.NoLimit:=e0.mod.nolimit.keeps λb o e=>(e0.bs b o e).1;have Ff:∀y∈ps.zip us,scope.names.lookup y.1=some .local\/(scope.names.lookup y.1=some .cell/\((Ķ (s.heap.objs.size+1) scope.names []).lookup y.1).isSome=true):=λ⟨n,v⟩ hy=>by
  rcases S.par n (m_ hy).1 with q|q
  ·exact .inl q
  ·exact .inr ⟨q,uh _ _ _ (.inl q)⟩
 refine codeAny_call_function hr.depth (KX _ _ lk) rfl S.co S.gen rfl (zR KX gE) (hb _ _ _ _ ?_);refine zy S.kind Ff λenv he s1 x=>?_;subst he;refine⟨WO.keeps x.toInCall.keep,codeAny_func ?_⟩;obtain⟨t,ht,hq⟩:=dF A outer s H vs Q E (hr.deeper _) Ba;have I:Inv (ŭ CX P w K mg base N ý scope f ĺ A outer s H E) [] (start N vs) H s1:=ri S hr.hd e0 hl r x;refine Ň (ht [] s1 (start N vs) H _ I hq) (λfl s' hs=>?_) λe s' hs=>hs;have jP:∀{Y':St} {H':Hp} {v:V} {u:Á},Inv (ŭ CX P w K mg base N ý scope f ĺ A outer s H E) [] Y' H' s'->RelV v u->Q v H'->CE outer P w H s Q u s':=
  fun{Y' H' v u} J rv q=>⟨v,H',J.os,J.bare,J.base,J.hok,rv,q⟩
 cases fl with
 |ret u=>obtain⟨v,Y',H',J,rv,q⟩:=hs;exact jP J rv q
 |next=>obtain⟨Y',H',J,q⟩:=hs;exact jP (v:=V.non) (u:=Value.none) J rfl q
 |brk=>obtain⟨_,_,_,q⟩:=hs;exact Ļ q
 |cont=>obtain⟨_,_,_,q⟩:=hs;exact Ļ q
section
variable{X:Cx}{x:Str}{p pos:Pos}{e:Æ}{es:List Æ}{t:TA}{id T:String}{r:List V->Hp->VK->Prop}
def So(r:List V->Hp->VK->Prop)(t:TA):TE:=λY H Q=>t Y H λvs H1=>r vs H1 Q
def oz(hc:Ŝ X (.builtin id) r)(hg:Gl X x)(hm:X.mg x=none)(hv:bv x=some (.builtin id))(ha:PA X (e::es) t)(hn:x≠ "__name__" := by decide)(lq:(x== ("__debug__" :Str))=false:=by decide)
 (he:Ö (e::es) X.env=(false,eval e X.env)::Ö es X.env:=by rfl)(hpl:(ĝ pos (Ö es X.env)).any (·.1)=false:=by rfl):PE X (.Call (.Name x p) (e::es) [] pos) (So r t):=by
 intro Ã s Y H Q I h;refine cI (om I hg hm hv ?_ hn lq);exact PyProof.Rows.callWith_builtin1 (ŝ (ha pos Ã s Y H _ I h) λus s1 ⟨vs,H1,I1,r1,q1⟩=>hc Ã s1 Y H1 vs us Q I1 r1 q1) he hpl
def rj(hc:Ŝ X (.type T) r)(hg:Gl X x)(hm:X.mg x=none)(hv:bv x=some (.type T))(ha:PA X (e::es) t)(hn:x≠ "__name__" := by decide)(lq:(x== ("__debug__" :Str))=false:=by decide)
 (he:Ö (e::es) X.env=(false,eval e X.env)::Ö es X.env:=by rfl)(hpl:(ĝ pos (Ö es X.env)).any (·.1)=false:=by rfl):PE X (.Call (.Name x p) (e::es) [] pos) (So r t):=by
 intro Ã s Y H Q I h;refine cI (om I hg hm hv ?_ hn lq);exact zu (ŝ (ha pos Ã s Y H _ I h) λus s1 ⟨vs,H1,I1,r1,q1⟩=>hc Ã s1 Y H1 vs us Q I1 r1 q1) he hpl
end
end L2
namespace HT
open PySem PyProof.Rows
section
open PySem.SeqAt
open PySem.AutoSeq1 (wpAny_loadPart')
open PySem.MeetsSeq PySem.MeetsSeq2 PySem.MeetsSeq3
end
section
noncomputable def iR(n d:Nat):Option Int->Nat
 |none=>d
 |some v=>if v<0 then(v+(n:Int)).toNat else min v.toNat n
def wj(n d:Nat):iR n d none=d:=rfl
def Ad(n d k:Nat):iR n d (some (k:Int))=min k n:=by show(if(k:Int)<0 then((k:Int)+(n:Int)).toNat else min (k:Int).toNat n)=min k n;rw[if_neg (by lia),Int.toNat_natCast]
def CB(n d:Nat)(hd:d<=n)(o:Option Int):iR n d o<=n:=by
 cases o with
 |none=>exact hd
 |some v=>
  show(if v<0 then(v+(n:Int)).toNat else min v.toNat n)<=n;by_cases hv:v<0
  ·rw[if_pos hv];lia
  ·rw[if_neg hv];exact Nat.min_le_right _ _
end
end HT
namespace L2
open PySem PySem.Spec PyProof.Rows
abbrev TO:=St->Hp->(Option Int->Hp->Prop)->Prop
def PO(X:Cx)(e:Option Æ)(t:TO):Prop:=
 ∀(Ã:List (À×Obj)) (s:Â) (Y:St) (H:Hp) (Q:Option Int->Hp->Prop),Inv X Ã Y H s->t Y H Q->
  Î (Ì X.prog X.w) X.A (evalPart e X.env) (λu s'=>∃o H',Inv X Ã Y H' s'/\IsPart u o/\Q o H') X.xe s
def FM:TO:=λ_ H Q=>Q none H
section
variable{X:Cx}{e:Æ}{te:TE}{lo hi:Option Æ}{tl th:TO}{pos p2:Pos}
def FN:PO X none FM:=by intro Ã s Y H Q I h;rw[evalPart_none];exact â ⟨none,H,I,.none,h⟩
def Ae(X:Cx)(r:V->Option Int->Option Int->Hp->VK->Prop):Prop:=
 ∀(Ã:List (À×Obj)) (s:Â) (Y:St) (H:Hp) (x:V) (v vl vu:Á) (lo hi:Option Int) (sl:À) (Q:VK),Inv X Ã Y H s->RelV x v->s.heap.IsSliceOf sl vl vu .none->IsPart vl lo->IsPart vu hi->r x lo hi H Q->
  ∃T id,kr (.type T) "__getitem__" =ç (some (.builtin id))/\s.TypeIs v T/\Î (Ì X.prog X.w) X.A (getItem v (.ref sl)) (EP X Ã Y Q) X.xe s
def Ae.or{r r':V->Option Int->Option Int->Hp->VK->Prop}(h:Ae X r)(h':Ae X r'):Ae X (λx lo hi H Q=>r x lo hi H Q\/r' x lo hi H Q):=by
 intro Ã s Y H x v vl vu lo hi sl Q I rx hs pl pu q;rcases q with q|q
 ·exact h Ã s Y H x v vl vu lo hi sl Q I rx hs pl pu q
 ·exact h' Ã s Y H x v vl vu lo hi sl Q I rx hs pl pu q
def tSl(r:V->Option Int->Option Int->Hp->VK->Prop)(te:TE)(tl th:TO):TE:=λY H Q=>te Y H λx H1=>tl Y H1 λl H2=>th Y H2 λu H3=>r x l u H3 Q
def CC{r:V->Option Int->Option Int->Hp->VK->Prop}(hr:Ae X r)(he:PE X e te)(hl:PO X lo tl)(hu:PO X hi th):PE X (.Subscript e (.Slice lo hi none p2) pos) (tSl r te tl th):=by intro Ã s Y H Q I h;refine Subscript_ (ŝ (he Ã s Y H _ I h) λv s1 ⟨x,H1,I1,r1,q1⟩=>?_);refine wpAny_Slice (ŝ (hl Ã s1 Y H1 _ I1 q1) λvl s2 ⟨l,H2,I2,pl,q2⟩=>ŝ (hu Ã s2 Y H2 _ I2 q2) λvu s3 ⟨u,H3,I3,pu,q3⟩=>?_);rw[evalPart_none];refine â ?_;have I4:Inv X Ã Y H3 {s3 with heap:=s3.heap.push {cls:=.type "slice",data:=.fields #[vl,vu,.none]}}:=I3.kept (t':=s3.toks) λb ob q=>ö _ q;obtain⟨T,id,hT,ht,hg⟩:=hr Ã {s3 with heap:=s3.heap.push {cls:=.type "slice",data:=.fields #[vl,vu,.none]}} Y H3 x v vl vu l u s3.heap.objs.size Q I4 r1 (Heap.IsSliceOf.new ..) pl pu q3;show Î (Ì X.prog X.w) X.A (subscriptTail e (.Slice lo hi none p2) v (.ref s3.heap.objs.size)) (EP X Ã Y Q) X.xe {s3 with heap:=s3.heap.push {cls:=.type "slice",data:=.fields #[vl,vu,.none]}};exact tail_any (ops:=[.ref s3.heap.objs.size,v]) ht hT hg (by with_unfolding_all rfl)
def wl(xs:List V)(lo hi:Option Int):List V:=(xs.drop (HT.iR xs.length 0 lo)).take (HT.iR xs.length xs.length hi-HT.iR xs.length 0 lo)
def wm(xs:List V)(lo hi:Option Int):(wl xs lo hi).length<=xs.length:=by unfold wl;rw[nb,List.length_drop];lia
end
noncomputable def HB(n:Nat)(i:Int):Option Nat:=if 0<=i then(if i<n then some i.toNat else none) else if -(n:Int)<=i then some (i+n).toNat else none
def oA{α:Type}(xs:List α)(i:Int):Option α:= (HB xs.length i).bind λj=>xs[j]?
def FO{n:Nat}{i:Int}{j:Nat}(h:HB n i=some j):seqIndex? i n=some j/\j<n/\ -(n:Int)<=i/\i<n:=by
 unfold HB at h;by_cases h0:0<=i
 ·rw[if_pos h0] at h;by_cases h1:i<n
  ·rw[if_pos h1] at h;have e:i.toNat=j:=Š h;exact⟨by rw[seqIndex_of h0 h1,e],by lia,by lia,h1⟩
  ·rw[if_neg h1] at h;cases h
 ·rw[if_neg h0] at h;by_cases h1: -(n:Int)<=i
  ·rw[if_pos h1] at h;have e:(i+n).toNat=j:=Š h;exact⟨by rw[seqIndex_neg (by lia) h1,e],by lia,h1,by lia⟩
  ·rw[if_neg h1] at h;cases h
def uD{α:Type}{xs:List α}{i:Int}{v:α}(h:oA xs i=some v):∃j,seqIndex? i xs.length=some j/\xs[j]?=some v/\j<xs.length/\ -(xs.length:Int)<=i/\i<xs.length:=by
 unfold oA at h;cases e:HB xs.length i with
 |none=>rw[e] at h;cases h
 |some j=>rw[e] at h;obtain⟨h1,h2,h3,h4⟩:=FO e;exact⟨j,h1,h,h2,h3,h4⟩
def nP(b:Æ):Prop:=∀o i,subscripted b false o i=operate [o,i] (getItem o i)
def xU(X:Cx)(r:R2):Prop:=
 ∀(value slice:Æ) (Ã:List (À×Obj)) (s:Â) (Y:St) (H:Hp) (x y:V) (v u:Á) (Q:VK),Inv X Ã Y H s->RelV x v->RelV y u->r x y H Q->
  subscripted slice false v u=operate [v,u] (getItem v u)->Î (Ì X.prog X.w) X.A (subscriptTail value slice v u) (EP X Ã Y Q) X.xe s
def OQ(X:Cx)(id:String)(r:V->List V->Hp->VK->Prop):Prop:=
 ∀(Ã:List (À×Obj)) (s:Â) (Y:St) (H:Hp) (x:V) (xs:List V) (v:Á) (us:List Á) (Q:VK),Inv X Ã Y H s->RelV x v->ĭ xs us->r x xs H Q->
  Î (Ì X.prog X.w) X.A (call (.builtin id) (v::us)) (EP X Ã Y Q) X.xe s
section
variable{X:Cx}{a b:Æ}{ta tb:TE}{pos:Pos}
def xU.or{r r':R2}(h:xU X r)(h':xU X r'):xU X (λx y H Q=>r x y H Q\/r' x y H Q):=by
 intro value slice Ã s Y H x y v u Q I rx ry q hs;rcases q with q|q
 ·exact h value slice Ã s Y H x y v u Q I rx ry q hs
 ·exact h' value slice Ã s Y H x y v u Q I rx ry q hs
def CD{r:R2}(hr:xU X r)(ha:PE X a ta)(hb:PE X b tb)(hs:nP b):PE X (.Subscript a b pos) (Hy r ta tb):=by intro Ã s Y H Q I h;exact Subscript_ (K8 ha hb I h λv u s2 x y H2 I2 rx ry q=>hr a b Ã s2 Y H2 x y v u Q I2 rx ry q (hs _ _))
def Pu(K:É):R2:=λx y H Q=>∃p xs i v,x=.ref p/\y=.int i/\ϒ K H p xs/\oA xs i=some v/\Q v H
def Pw(K:É):R2:=λx y H Q=>∃p xs i v,x=.ref p/\y=.int i/\eQ K H p xs/\oA xs i=some v/\Q v H
def Px:R2:=λx y H Q=>∃z i c,x=.str z/\y=.int i/\z.length<=sizeLine/\oA z.cps.toList i=some c/\Q (.str ⟨#[c]⟩) H
def FP:xU X (Pu X.K):=by
 intro value slice Ã s Y H x y v u Q I rx ry h hs;obtain⟨p,xs,i,z,rfl,rfl,hq,he,q⟩:=h;cases rx;obtain⟨t,rfl⟩:=ry;obtain⟨ě,r,pl,hz⟩:=I.list hq;obtain⟨j,h1,h2,h3,h4,h5⟩:=uD he;obtain⟨w,ew,Uj⟩:=r.get h2;have hl:=r.length;have hn:=oq;have jP:EP X Ã Y Q w s:=⟨z,H,I,Uj,q⟩;by_cases h0:0<=i
 ·have hj:i.toNat=j:=by
   rw[seqIndex_of h0 h5] at h1;exact Š h1
  exact item_listR pl.isList h0 (by lia) (by rw[hj];simpa using ew) jP hs
 ·have hj:(i+(ě.toArray.size:Int)).toNat=j:=by
   rw[seqIndex_neg (by lia) h4] at h1;rw[ļ,<-hl];exact Š h1
  exact subscriptTail_builtinR (x:=w) pl.isList.typeIs slot_list_getitem.lookup
   (wpAny_getItem_list_neg (Q:=λr s'=>r=w/\EP X Ã Y Q r s') pl.isList (by lia) (by rw[ļ]<;>lia) (by lia) (by rw[hj];simpa using ew) ⟨rfl,jP⟩) hs
def Lo:xU X (Pw X.K):=by
 intro value slice Ã s Y H x y v u Q I rx ry h hs;obtain⟨p,xs,i,z,rfl,rfl,hq,he,q⟩:=h;cases rx;obtain⟨t,rfl⟩:=ry;obtain⟨ě,r,pl,hz⟩:=I.tuple hq;obtain⟨j,h1,h2,h3,h4,h5⟩:=uD he;obtain⟨w,ew,Uj⟩:=r.get h2;have hl:=r.length;have hn:=oq;have jP:EP X Ã Y Q w s:=⟨z,H,I,Uj,q⟩;exact subscriptTail_builtinR (x:=w) pl.typeIs slot_tuple_getitem.lookup
  (getItem_tuple (j:=j) (Q:=λr s'=>r=w/\EP X Ã Y Q r s') pl (by lia) (by lia) (by rw[ļ,<-hl];exact h1) (by simpa using ew) ⟨rfl,jP⟩) hs
def Lp:xU X Px:=by
 intro value slice Ã s Y H x y v u Q I rx ry h hs;obtain⟨z,i,c,rfl,rfl,hz,he,q⟩:=h;obtain⟨t,rfl⟩:=rx;obtain⟨t',rfl⟩:=ry;obtain⟨j,h1,h2,h3,h4,h5⟩:=uD he;have hl:z.cps.toList.length=z.length:=by simp[ar]
 rw[hl] at h1 h4 h5;have hn:=oq;exact tail_any (iB s z t) slot_str_getitem.lookup (getItem_str (c:=c) (by
  have e1:decide (i < -(2 ^ 63:Int))=false:=decide_eq_false (by lia);have e2:decide (i >= 2 ^ 63)=false:=decide_eq_false (by lia);rw[e1,e2,sv]) (by rw[h1];simpa using h2) ⟨.str ⟨#[c]⟩,H,I.tok _,⟨_,rfl⟩,q⟩) hs
def Uk(K:É):R2:=λx y H Q=>Pu K x y H Q\/Pw K x y H Q\/Px x y H Q
def xV:xU X (Uk X.K):=FP.or (Lo.or Lp)
def uE(lo hi:Option Int)(n:Nat):(fG lo hi none n).1=((HT.iR n 0 lo:Nat):Int)/\(fG lo hi none n).2.1=((HT.iR n n hi:Nat):Int)/\(fG lo hi none n).2.2=1:=by
 refine⟨?_,?_,rfl⟩
 ·cases lo with
  |none=>simp[fG,HT.iR]
  |some i=>
   simp only[fG,HT.iR,Option.getD_none,show(1:Int)>0 by decide,if_true];by_cases h:i<0
   ·simp only[h,if_true]<;>lia
   ·simp only[h,if_false]<;>lia
 ·cases hi with
  |none=>simp[fG,HT.iR]
  |some i=>
   simp only[fG,HT.iR,Option.getD_none,show(1:Int)>0 by decide,if_true];by_cases h:i<0
   ·simp only[h,if_true]<;>lia
   ·simp only[h,if_false]<;>lia
def qr(ě:List Á)(lo hi:Option Int):slicePick ě.toArray lo hi none=((ě.drop (HT.iR ě.length 0 lo)).take (HT.iR ě.length ě.length hi-HT.iR ě.length 0 lo)).toArray:=by obtain⟨h1,h2,h3⟩:=uE lo hi ě.toArray.size;unfold slicePick;rw[h1,h2,h3];simp only[sliceRange_one,pick_run,ļ]<;>rfl
def Ul(K:É):V->Option Int->Option Int->Hp->VK->Prop:=λx lo hi H Q=>∃a xs,x=.ref a/\ϒ K H a xs/\∀p,H p=none->Q (.ref p) (upd H p (.lst (wl xs lo hi)))
def FQ:Ae X (Ul X.K):=by intro Ã s Y H x v vl vu lo hi sl Q I rx hs pl pu h;obtain⟨a,xs,rfl,hx,q⟩:=h;cases rx;obtain⟨ě,r,ht,hz⟩:=I.list hx;have hlen:=r.length;refine⟨"list",_,slot_list_getitem.lookup,ht.isList.typeIs,?_⟩;refine wpAny_getItem_list_slice ht.isList hs pl pu .none (by simp) ?_ (by rw[ļ]<;>lia);rw[qr,<-hlen];refine⟨.ref s.heap.objs.size,_,I.laid (t':=s.toks) (o:=.lst (wl xs lo hi)) (λb ob q=>ö _ q) (î _) ?_,rfl,q _ (I.hok.fresh (î _))⟩;exact⟨ϲ (wm xs lo hi) hz,_,0,(r.drop (HT.iR xs.length 0 lo)).take (HT.iR xs.length xs.length hi-HT.iR xs.length 0 lo),Ŀ _ rfl⟩
def uF:Ŝ X (.type "list") (λxs H Q=>∃p ys,xs=[.ref p]/\(ϒ X.K H p ys\/eQ X.K H p ys)/\∀l,H l=none->Q (.ref l) (upd H l (.lst ys))):=by
 intro Ã s Y H xs us Q I r h;obtain⟨p,ys,rfl,hq,q⟩:=h;obtain⟨u,rfl,rx⟩:=vals1 r;cases rx;have jP:∀(ě:List Á),ĭ ys ě->ys.length<=sizeLine->∀(h':Ð) (c':Nat),(∀b o',s.heap.get? b=some o'->h'.get? b=some o')->
  h'.get? s.heap.objs.size=some {cls:=.type "list",dict:=none,data:=.seq ě.toArray c',slots:=#[]}->EP X Ã Y Q (.ref s.heap.objs.size) {s with heap:=h'}:=λě r' hz h' c' kp e=>
  ⟨.ref s.heap.objs.size,_,I.laid (t':=s.toks) kp (î _) (show Ť X.prog X.w _ h' _ (.lst ys) from⟨hz,ě,c',r',e⟩),rfl,q _ (I.hok.fresh (î _))⟩
 rcases hq with hq|hq
 ·obtain⟨ě,r',pl,hz⟩:=I.list hq;have hlen:=r'.length;obtain⟨o,ho,hc,n,hd⟩:=pl.isList;exact call_list_seq p (.inl rfl) ho hc hd (λh' c' kp e=>jP ě r' hz h' c' kp e) (by simp only[ļ]<;>lia)
 ·obtain⟨ě,r',pl,hz⟩:=I.tuple hq;have hlen:=r'.length;obtain⟨o,ho,hc,n,hd⟩:=pl;exact call_list_seq p (.inr rfl) ho hc hd (λh' c' kp e=>jP ě r' hz h' c' kp e) (by simp only[ļ]<;>lia)
def qt:Ŝ X (.type "tuple") (λxs H Q=>∃p ys,xs=[.ref p]/\((ϒ X.K H p ys/\∀l,H l=none->Q (.ref l) (upd H l (.tup ys)))\/(eQ X.K H p ys/\Q (.ref p) H))):=by
 intro Ã s Y H xs us Q I r h;obtain⟨p,ys,rfl,h⟩:=h;obtain⟨u,rfl,rx⟩:=vals1 r;cases rx;rcases h with⟨hq,q⟩|⟨hq,q⟩
 ·obtain⟨ě,r',pl,hz⟩:=I.list hq;have hlen:=r'.length;refine call_tuple_list pl.isList (λh' kp=>?_) (by simp only[ļ]<;>lia);have I1:Inv X Ã Y H {s with heap:=h'}:=I.kept (t':=s.toks) kp;have I2:Inv X Ã Y (upd H h'.objs.size (.tup ys)) {s with heap:=h'.push {cls:=.type "tuple",data:=.seq ě.toArray}}:=
   I1.laid (t':=s.toks) (λb o e=>ö _ e) (î _) (show Ť X.prog X.w _ _ _ (.tup ys) from⟨hz,ě,r',IsTup.new _ _⟩)
  exact⟨.ref h'.objs.size,_,I2,rfl,q _ (I1.hok.fresh (î _))⟩
 ·obtain⟨ě,r',pl,hz⟩:=I.tuple hq;exact call_tuple_same pl ⟨.ref p,H,I,rfl,q⟩
def Xx(K:É)(T:String)(x:V)(H:Hp):Prop:=match x with
 | .str _=>T= "str"
 | .int _=>T= "int"
 | .ref p=>(T= "list" ∧∃xs,ϒ K H p xs)∨(T= "tuple" ∧∃o,K.lookup p=some o∧o.cls=.type "tuple" ∧o.dict=none)∨
     (T= "dict" /\((∃ff,H p=some (.dK ff))\/∃ff,H p=some (.dT ff)))\/(T= "set" /\∃S n,H p=some (.set S n))
 |_=>False
def Lq{Ã:List (À×Obj)}{Y:St}{H:Hp}{s:Â}{T:String}{x:V}{v:Á}(I:Inv X Ã Y H s)(r:RelV x v)(ty:Xx X.K T x H) :
 s.TypeIs v T/\∀a,v=.ref a->∃ob,s.heap.get? a=some ob/\ob.dict=none:=by
 cases x with
 |str z=>obtain⟨t,rfl⟩:=r;cases(show T= "str" from ty);exact⟨iB s z t,λ_ e=>nomatch e⟩
 |int i=>obtain⟨t,rfl⟩:=r;cases(show T= "int" from ty);exact⟨typeIs_int s i t,λ_ e=>nomatch e⟩
 |ref p=>
  cases r;rcases ty with⟨rfl,xs,hq⟩|⟨rfl,o,hk,hc,hd⟩|⟨rfl,hk⟩|⟨rfl,S,n,hk⟩
  ·obtain⟨ě,_,pl,_⟩:=I.list hq;refine⟨pl.isList.typeIs,λa e=>?_⟩;cases e;obtain⟨o,n,e,c,hd,_⟩:=pl;exact⟨o,e,hd⟩
  ·refine⟨⟨o,I.da p o hk,hc⟩,λa e=>?_⟩;cases e;exact⟨o,I.da _ o hk,hd⟩
  ·have z:∃o,s.heap.get? p=some o∧o.ExactDict:=by
    rcases hk with⟨ff,hk⟩|⟨ff,hk⟩
    ·obtain⟨_,_,_,_,o,_,_,e,ex,_⟩:=I.hok p _ hk;exact⟨o,e,ex⟩
    ·obtain⟨_,_,_,_,o,_,_,e,ex,_⟩:=I.hok p _ hk;exact⟨o,e,ex⟩
   obtain⟨o,e,ex⟩:=z;refine⟨⟨o,e,ex.1⟩,λa e2=>?_⟩;cases e2;exact⟨o,e,ex.2.1⟩
  ·obtain⟨o,_,_,_,e,ex,_⟩:=I.hok p _ hk;refine⟨⟨o,e,ex.1⟩,λa e2=>?_⟩;cases e2;exact⟨o,e,ex.2.1⟩
 |_=>exact Ļ ty
def OR(K:É)(T:String)(r:V->List V->Hp->VK->Prop)(to:TE)(t:TA):TE:=λY H Q=>to Y H λx H1=>Xx K T x H1/\t Y H1 λxs H2=>r x xs H2 Q
variable{o e:Æ}{es:List Æ}{to:TE}{t:TA}{name:Str}{jQ ai:Pos}{T id:String}{r:V->List V->Hp->VK->Prop}
def bY(pa:PlainAttrs T)(slot:Slot T name id)(ik:typeOf (.builtin id)=ç (.type "method_descriptor"))(hm:OQ X id r)(ho:PE X o to)(ha:PA X (e::es) t)
 (il:bB o name X.env (eval o X.env)=eval o X.env:=by rfl)
 (qi:((ĝ ai (Ö (e::es) X.env)).all (fun x=>!x.1) && (fH ai (fJ [] X.env)).all (fun x=>x.1.isSome)
   && decide ((e::es).length+([]:List ϴ).length+(if([]:List ϴ).isEmpty then 0 else 1)<30))=true:=by rfl)
 (im:(jQ.endLine== ai.line)=true:=by rfl)(hs:Ö (e::es) X.env=(false,eval e X.env)::Ö es X.env:=by rfl)(jR:(ĝ ai (Ö es X.env)).any (·.1)=false:=by rfl) :
 PE X (.Call (.Attribute o name jQ) (e::es) [] ai) (OR X.K T r to t):=by
 intro Ã s Y H Q I h;refine wpAny_Call_method_late il qi im rfl (ŝ (ho Ã s Y H _ I h) λv s1 ⟨x,H1,I1,r1,ty,q1⟩=>?_);obtain⟨h1,h2⟩:=Lq I1 r1 ty;refine⟨T,id,pa,slot,ik,h1,h2,?_⟩;have hA:=ha ai Ã s1 Y H1 _ I1 q1;rw[hs] at hA ⊢;refine Calls.callWith_builtin (by show(false || (ĝ ai (Ö es X.env)).any (·.1))=false;rw[jR]<;>rfl) (Calls.evalArgs_plain ?_);exact ŝ hA λus s2 ⟨vs,H2,I2,r2,q2⟩=>hm Ã s2 Y H2 x vs v us Q I2 r1 r2 q2
end
def Xy(X:Cx)(id:String)(r:V->List V->Hp->VK->Prop):Prop:=
 ∀(Ã:List (À×Obj)) (s:Â) (Y:St) (H:Hp) (x:V) (xs:List V) (v:Á) (us:List Á) (Q:VK),Inv X Ã Y H s->RelV x v->ĭ xs us->r x xs H Q->
  Î (Ì X.prog X.w) X.A (call (.builtin id) (v::us)) (EP X Ã Y Q) X.xe s
theorem ĭ.one:∀{x:V} {us:List Á},ĭ [x] us->∃u,us=[u]/\RelV x u
 |_,_,.cons r .nil=>⟨_,rfl,r⟩
theorem ĭ.rep{xs:List V}{us:List Á}(h:ĭ xs us):∀k:Nat,ĭ (Ê k xs).flatten (Ê k us).flatten
 |0=>.nil
 |k+1=>by rw[aj,aj,cx,cx];exact ĭ.append h (ĭ.rep h k)
theorem foldl_rep(ě:List Á):∀(k:Nat) (acc:List Á),
 List.foldl (λx1 x2=>x1++x2) acc.toArray (Ê k ě.toArray)=(acc++(Ê k ě).flatten).toArray
 |0,acc=>by simp
 |k+1,acc=>by
  have e:acc.toArray++ě.toArray=(acc++ě).toArray:=by simp
  have e2:(acc++ě)++(Ê k ě).flatten=acc++(Ê (k+1) ě).flatten:=by rw[aj,cx,bq]
  rw[<-e2,<-foldl_rep ě k (acc++ě),<-e,aj,List.foldl_cons]
section
variable{X:Cx}{Ã:List (À×Obj)}{Y:St}{H:Hp}{s:Â}{l:À}{xs ys:List V}
def Inv.Py{ě its':List Á}{n:Nat}{f:Array Á->Array Á}{t':Nat}(I:Inv X Ã Y H s)(hH:H l=some (.lst xs))
 (e:s.heap.get? l=some {cls:=.type "list",data:=.seq ě.toArray n})(hf:f ě.toArray=its'.toArray)(hv:ĭ ys its')(hz:ys.length<=sizeLine) :
 Inv X Ã Y (upd H l (.lst ys)) {s with heap:=s.heap.update l (Obj.mapSeq f),toks:=t'}:=by
 have q:=PySem.IsL.update e f;rw[hf] at q;refine I.write (x:=l) (e:=l) (by rw[hH];exact trivial) (.inl rfl) (λb' u hb hu=>(cM s.heap (Obj.mapSeq f) (Đ hb)).trans hu) ⟨_,q⟩ ?_;exact⟨hz,its',_,hv,q⟩
def Inv.Pz{ě:List Á}{t':Nat}(I:Inv X Ã Y H s)(hv:ĭ ys ě)(hz:ys.length<=sizeLine) :
 Inv X Ã Y (upd H s.heap.objs.size (.lst ys)) {s with heap:=s.heap.push {cls:=.type "list",data:=.seq ě.toArray},toks:=t'}:=
 I.laid (λ_ _ q=>ö _ q) (î _) ⟨hz,ě,0,hv,Ŀ _ rfl⟩
theorem Inv.fresh(I:Inv X Ã Y H s):H s.heap.objs.size=none:=I.hok.fresh (î _)
def Inv.FS(I:Inv X Ã Y H s)(hH:H l=some (.lst xs)):xs.length<=sizeLine/\∃(ě:List Á) (n:Nat),ĭ xs ě/\xs.length=ě.length/\s.heap.get? l=some {cls:=.type "list",data:=.seq ě.toArray n}:=by obtain⟨z,ě,n,r,e⟩:=I.hok l _ hH;exact⟨z,ě,n,r,r.length,e⟩
def wo{n:Nat}(h:n<=sizeLine):nA n=false:=by unfold nA;exact decide_eq_false (by lia)
end
section
variable{X:Cx}
def kG:V->List V->Hp->VK->Prop:=λx vs H Q=>∃l xs y,x=.ref l/\vs=[y]/\H l=some (.lst xs)/\xs.length<sizeLine/\Q .non (upd H l (.lst (xs ++ [y])))
def Ő:Xy X "list.append" kG:=by intro Ã s Y H x vs v us Q I rx rv h;obtain⟨l,xs,y,rfl,rfl,hH,hz,q⟩:=h;cases rx;obtain⟨u,rfl,ru⟩:=rv.one;obtain⟨z,ě,n,r,hl,e⟩:=I.FS hH;refine fK am ⟨_,e,rfl⟩ F.entry_list_append (F.args_list_append_2 _ _) (PySem.list_append l ě.toArray n u (by rw[ļ];lia)) ⟨e,?_⟩;refine⟨.non,_,I.Py (its':=ě ++ [u]) hH e (by simp) (r.append (.cons ru .nil)) ?_,rfl,q⟩;rw[Ī,zk];lia
def Af:V->List V->Hp->VK->Prop:=λx vs H Q=>∃l b xs zs,x=.ref l/\vs=[.ref b]/\H l=some (.lst xs)/\H b=some (.lst zs)/\xs.length+zs.length<=sizeLine/\Q .non (upd H l (.lst (xs++zs)))
def lB:Xy X "list.extend" Af:=by
 intro Ã s Y H x vs v us Q I rx rv h;obtain⟨l,b,xs,zs,rfl,rfl,hH,hB,hz,q⟩:=h;cases rx;obtain⟨u,rfl,ru⟩:=rv.one;cases ru;obtain⟨z,ě,n,r,hl,e⟩:=I.FS hH;obtain⟨z2,lr,n2,r2,Fg,e2⟩:=I.FS hB;have y_:ě.toArray.size+lr.toArray.size<=sizeLine:=by rw[ļ,ļ];lia
 have CG:¬(!ě.toArray.isEmpty && nA (ě.toArray.size+lr.toArray.size))=true:=by rw[wo y_,Bool.and_false];exact ϖ
 refine fK nB ⟨_,e,rfl⟩ F.entry_list_extend (F.args_list_extend_2 _ _)
  (AutoSeq1.list_extend_list_list_0 l ě.toArray n b lr.toArray n2 CG (by rw[ļ];lia) (by lia)) ⟨e,e2,?_⟩
 refine⟨.non,_,I.Py (its':=ě++lr) hH e (by simp) (r.append r2) ?_,rfl,q⟩;rw[Ī];lia
def Um:R2:=λx y H Q=>∃l k xs,x=.ref l/\y=.int k/\H l=some (.lst xs)/\ -(2 ^ 63)<=k/\k<2 ^ 63/\xs.length*k.toNat<=sizeLine/\
 ∀p,H p=none->Q (.ref p) (upd H p (.lst (Ê k.toNat xs).flatten))
def Hj{α:Type}(xs:List α)(k:Nat):(Ê k xs).flatten.length=k*xs.length:=by
 induction k with
 |zero=>simp
 |succ k ih=>rw[aj,cx,Ī,ih,Nat.succ_mul,iu]
def Lr:aD X (ŋ .Mult) Um:=by
 intro Ã s Y H x y v u Q I rx ry h;obtain⟨l,k,xs,rfl,rfl,hH,h1,h2,hz,q⟩:=h;cases rx;obtain⟨t,rfl⟩:=ry;obtain⟨z,ě,n,r,hl,e⟩:=I.FS hH;have hlen:ě.toArray.size*k.toNat<=sizeLine:=by rw[ļ,<-hl];exact hz
 have hcap:¬ě.toArray.size*k.toNat>(2 ^ 63-1) / 8:=by
  have:(sizeLine:Nat)<=(2 ^ 63-1) / 8:=by decide
  lia
 have WP:¬(!Builtin.List.listFitsIndex k)=true:=by rw[fitsIndex_both h1 h2];exact ϖ
 have CG:¬nA (ě.toArray.size*k.toNat)=true:=by rw[wo hlen];exact ϖ
 have jS:List.foldl (λx1 x2=>x1++x2) #[] (Ê (if ě.toArray.isEmpty=true then 0 else k.toNat) ě.toArray)=(Ê k.toNat ě).flatten.toArray:=by
  have f0:∀m:Nat,List.foldl (λx1 x2=>x1++x2) #[] (Ê m ě.toArray)=(Ê m ě).flatten.toArray:=λm=>by have:=foldl_rep ě m [];rw[ϰ] at this;exact this
  rw[f0];cases ě with
  |nil=>simp
  |cons a r'=>rw[if_neg (by simp)]
 refine wpAny_binaryOp_repeat_ref (T:= "list") (U:= "int") (by decide) ⟨_,e,rfl⟩ (λs'=>typeIs_int s' k t) noFill_list_mul F.fills_int_mul F.slot_int_rmul repeat_list F.slot_int_index.lookup
  (fK F.slot_int_rmul (typeIs_int s k t) F.entry_int_rmul (F.args_int_rmul_2 _ _) (int___rmul___int_list k t l ě.toArray n)
    ⟨e,rfl,⟨_,e,rfl⟩,fK F.slot_list_mul ⟨_,e,rfl⟩ F.entry_list_mul (F.args_list_mul_2 _ _) (AutoListH.list___mul___list_int_3 l ě.toArray n k t WP hcap CG) ⟨e,?_⟩⟩)
 rw[jS];exact⟨.ref _,_,I.Pz (t':=s.toks) (r.rep k.toNat) (by rw[Hj,Nat.mul_comm];exact hz),rfl,q _ I.fresh⟩
end
section
end
section
end
end L2
namespace Xz
open PySem PySem.W PySem.Calls PyProof.Rows
def mK{P:Params}{h:Ð}:∀(ns:List Int) (vs:List Á),WellAll P h vs (ns.map WData.int)->IntsAre vs ns:=by
 intro ns
 induction ns with
 |nil=>intro vs w;rw[Ľ] at w;cases w;exact .nil
 |cons n ns ih=>
  intro vs w;rw[Ý] at w;cases w with
  |cons a b=>cases a;exact .cons _ _ (ih _ b)
def Bp{l:fR}{n:Nat}(hn:l.most=some n){P:Params}{h:Ð}{args:List WData}{Ou:List Á}
 (Hk:l.row.toRowW.claim.pre args=true)(WQ:WellAll P h Ou args) :
 ∃a vs ns,Ou=[ă a]/\args=[WData.list (ns.map WData.int)]/\h.get? a=some {cls:=.type "list",data:=.seq vs.toArray}/\IntsAre vs ns/\ns.length<=n:=by
 have hsh:WShape.hasAll [] args [.list .int]=true:=(pre_splitW Hk).1;have hc:l.pre.holds [] {args:=args}=true:=(pre_splitW Hk).2;obtain⟨d,r,rfl,h1,h2⟩:=hasAllW_cons hsh;obtain rfl:=hasAllW_nil h2;obtain⟨xs,rfl,h3⟩:=hasW_list h1;obtain⟨ns,rfl⟩:=items_int h3;have hlen:ns.length<=n:=by
  unfold OpenLaw.pre at hc;have h4:(WTm.not (.lt (.lit (.int (n:Int))) (.len (.arg 0)))).holds [] {args:=[.list (ns.map .int)]}=true:=by have h4:=(holds_andW hc).1;rw[hn] at h4;exact h4
  have h5:=condW_of h4 (w_not (w_lt w_lit (w_len_list (w_arg rfl))));rw[ď] at h5;refine Nat.le_of_not_lt λq=>?_;have q':(n:Int)<((ns.length:Nat):Int):=by lia
  first
   |(rw[decide_eq_true q'] at h5;exact absurd h5 (by decide))
   |(simp at h5;lia)
 cases WQ with
 |cons w1 w2=>
  cases w2;cases w1 with
  |list ho hall=>exact⟨_,_,ns,rfl,rfl,ho,mK ns _ hall,hlen⟩
def Bq(l:fR)(args:List WData):l.row.toRowW.claim.post args (.bool true) args=true:=
 postW_of (r:=l.row.toRowW) (X:=(true== true))
  (show WShape.has [] (.bool true) .bool=true by first|rfl|decide|simp[WShape.has,WShape.arms,WShape.armsAll])
  (show(WTm.eq .res (.lit (.bool true))).value [] {args:=args,res:=some (.bool true),after:=args}=some (.bool (true== true)) from w_eq_bool (w_res rfl) w_lit) rfl
def wp{l:fR}{n:Nat}{q:Þ}{jx:List Str}{XP:(Str->Option Á)->Ð->Prop}{YP:Ø->Ð->Prop}{d:DefRec}
 (hn:l.most=some n)(Ov:d.params.defaults=[])
 (call:∀(w:Ø) (s₀ s₁:Â) (mg mb:Str→Option Á) (fa:À) (o:Obj) (pm cd mW:Á) (a:À) (vs:List Á) (ns:List Int),
   Ground q jx [] XP w s₀ mg mb s₁.heap->YP w s₁.heap->
   s₁.heap.get? fa=some o->o.data=.func (docDef d.name d.params d.body d.scope pm cd mW)->s₁.heap.CodeRec cd d.name->mg d.name=some (.ref fa)->
   s₁.heap.get? a=some {cls:=.type "list",data:=.seq vs.toArray}->IntsAre vs ns->ns.length<=n->s₁.gens= #[]->
   Ϝ (Ì l.prog w) dR (.call (.ref fa) ⟨[.ref a],[]⟩) (λr s'=>r=.ok (.ret (.bool true))/\OldK s₁.heap s'.heap/\s'.os=s₁.os/\bu s'.gens) s₁) :
 nM q jx XP YP l.row.toRowW d [] (λf vs=>nq f vs):=by
 intro w s₀ s₁ mg mb G Qqj fa o pm cd mW dV kV ho hd gE hD RQ hg args Ou as Hk Zaf hrd WQ hlo;obtain rfl:dV=.none:=Dflts.none hD Ov;obtain rfl:kV=.none:=Dflts.noKw hD;obtain⟨a,vs,ns,rfl,rfl,Ow,Fh,hlen⟩:=Bp hn Hk WQ;refine enter_call (dS (call w s₀ s₁ mg mb fa o pm cd mW a vs ns G Qqj ho (fd_plain hd) gE RQ Ow Fh hlen hg) λr s' hq=>?_);obtain⟨rfl,h2,h3,h4⟩:=hq;exact⟨.inl ⟨.bool true,.bool true,[],rfl,λ_=>rfl,.bool true,Bq l _,λ_=>⟨zt,λ_ hm=>(nomatch hm)⟩⟩,h2,h3,h4⟩
section
end
end Xz
namespace L2
open PySem PySem.Spec PyProof.Rows
theorem rk:∀{vs:List Á} {ns:List Int},IntsAre vs ns->ĭ (ns.map V.int) vs
 |_,_,.nil=>.nil
 |_,_,.cons n t h=>.cons ⟨t,rfl⟩ (rk h)
def Ox(H:Hp):Prop:=∀b,H b=none\/(∃o xs,H b=some (.bS o (.lst xs)))\/∃q,H b=some (.jd q)
noncomputable def gQ(K:É):List Str->Hp
 | []=>λ_=>none
 |y::r=>λb=>match au K y with
  |some (_,P)=>if b=P then some (.jd (ur y)) else gQ K r b
  |none=>gQ K r b
theorem dZ{K:É}:∀{l:List Str} {b:À} {u:HO},gQ K l b=some u->∃y c,y∈l/\au K y=some (c,b)/\u=.jd (ur y)
 | [],_,_,h=>by cases(show(none:Option HO)=some _ from h)
 |y::r,b,u,h=>by
  have h':(match au K y with
   |some (_,P)=>if b=P then some (.jd (ur y)) else gQ K r b
   |none=>gQ K r b)=some u:=h
  have rc:gQ K r b=some u->∃z c,z∈y::r/\au K z=some (c,b)/\u=.jd (ur z):=λq=>
   let ⟨z,c,h1,h2,h3⟩:=dZ q
   ⟨z,c,í _ h1,h2,h3⟩
  cases e:au K y with
  |none=>rw[e] at h';exact rc h'
  |some p=>
   obtain⟨c,P⟩:=p;rw[e] at h';have h2:(if b=P then some (HO.jd (ur y)) else gQ K r b)=some u:=h';by_cases hb:b=P
   ·rw[if_pos hb] at h2;cases h2;exact⟨y,c,ű,by rw[hb];exact e,rfl⟩
   ·rw[if_neg hb] at h2;exact rc h2
theorem Ag{K:É}{y:Str}{c P:À}(e:au K y=some (c,P)):∀{l:List Str},(∀z∈l,z=y)->y∈l->gQ K l P=some (.jd (ur y))
 | [],_,h=>by cases h
 |z::r,h1,_=>by
  have hz:=h1 z ű;subst hz;show(match au K z with
   |some (_,Q)=>if P=Q then some (HO.jd (ur z)) else gQ K r P
   |none=>gQ K r P)=_
  rw[e];exact if_pos rfl
def CH{P:Þ}{w:Ø}{K:É}{mg mb:Str->Option Á}{CX:ji}{k:Nat}{fa a:À}{fd:Ė}{x:Str}{sp:Sp}{s₁:Â}{vs:List Á}{ns:List Int}
 (KX:K.In s₁.heap)(vV:s₁.heap.Ns Ϛ mg)(hb:s₁.heap.Ns builtinsNs mb)(hbb:∀x:Str,x≠ "__name__" ->mb x=bv x)(WS:s₁.heap.NoLimit)(hg:s₁.gens= #[])
 (ha:s₁.heap.get? a=some {cls:=.type "list",data:=.seq vs.toArray})(hi:IntsAre vs ns)(hl:ns.length<=sizeLine)(hr:ϊ k dR)
 (F:∀base:Ð,K.In base->base.Ns Ϛ mg->Ě P w K mg base CX k fa fd [x] sp)(RS:∀(s:Â) (u:Á),cG s fd ⟨[u],[]⟩ [(x,u)])
 (Ba:∀H:Hp,Ox H->ϒ K H a (ns.map V.int)->sp [.ref a] H (λv _=>v=.bl true) λ_ _ _=>False)
 (Uo:∀H e s',CX [] H s₁ (λ_ _ _=>False) e s'->False)
 (RT:bQ≠[]->ui K=true)(B_:∀y z,y∈bQ->z∈bQ->y=z)(Fz:∀y c Pt,y∈bQ->au K y=some (c,Pt)->tX s₁.heap c Pt/\s₁.heap.get? Pt=some (PySem.W.tabObj #[])/\s₁.heap.BuiltinsAt mg Pt) :
 Ϝ (Ì P w) dR (.call (.ref fa) ⟨[.ref a],[]⟩) (λr s'=>r=.ok (.ret (.bool true))/\OldK s₁.heap s'.heap/\s'.os=s₁.os/\bu s'.gens) s₁:= by
 have rv:=rk hi;have WT:=hi.length;have RU:∀H:Hp,Ox H->ϒ K H a (ns.map V.int)->cZ P w H s₁.heap->(∀b,H b≠none->b=a\/∃y c,y∈bQ/\au K y=some (c,b))->(H a≠none->K.lookup a=none)->(∀y c Pt,y∈bQ->au K y=some (c,Pt)->H Pt=some (.jd (ur y)))->
  Ϝ (Ì P w) dR (.call (.ref fa) ⟨[.ref a],[]⟩) (λr s'=>r=.ok (.ret (.bool true))/\OldK s₁.heap s'.heap/\s'.os=s₁.os/\bu s'.gens) s₁:= by
  intro H hO hS hok hA hK hT;have nQ:∀{b:À} {o:Obj},s₁.heap.get? b=some o->H b=none->(qo s₁.heap H).get? b=some o:=λe n=>Cf e n;have Ps:∀{b:À} {o:Obj} {es:Array DictEntry} {ep:Nat},s₁.heap.get? b=some o->o.data=.dict es ep->H b=none:=fun{b o es ep} e d=>by
   cases q:H b with
   |none=>rfl
   |some u=>
    rcases hA b (by rw[q];simp) with e'|⟨y,c,hy,ik⟩
    ·subst e';rw[ha] at e;cases e;have d':Data.seq vs.toArray _=Data.dict es ep:=d;cases d'
    ·have e2:=(Fz y c b hy ik).2.1;rw[e] at e2;cases e2;cases d
  have Sq:∀{b:À} {m:Str->Option Á},s₁.heap.Ns b m->(qo s₁.heap H).Ns b m:=fun{b m} ⟨o,es,ep,e,d,r⟩=>⟨o,es,ep,nQ e (Ps e d),d,r⟩;have XA:K.In (qo s₁.heap H):=λb o e=>nQ (KX b o e) (by
   cases q:H b with
   |none=>rfl
   |some u=>
    rcases hA b (by rw[q];simp) with e'|⟨y,c,hy,ik⟩
    ·subst e';rw[hK (by rw[q];simp)] at e;cases e
    ·have e2:=(Fz y c b hy ik).2.1;rw[KX b o e] at e2;cases e2;have h2:=aH.mp (RT (λz=>by rw[z] at hy;cases hy)) (b,_) (PySem.W.mem_of_lookupK e);exact absurd (show false=true from h2) ϖ)
  have hM:Mod K mg (qo s₁.heap H):=⟨XA,Sq vV,⟨mb,Sq hb,hbb⟩,let ⟨mc,h1,h2⟩:=WS;⟨mc,Sq h1,h2⟩⟩;have hTB:vT K mg (qo s₁.heap H) H:=λy c Pt hy ik=>by
   obtain⟨⟨o,us,file,tf,KG,tg,Qqj9,text,tt,e1,r1,r2⟩,_,bm,ob,b1,b2,b3,b4,b5,b6,b7⟩:=Fz y c Pt hy ik;refine⟨⟨o,us,file,tf,KG,tg,Qqj9,text,tt,nQ e1 ?_,r1,r2⟩,hT y c Pt hy ik,bm,ob,b1,b2,b3,b4,nQ b5 ?_,b6,b7⟩
   rotate_left
   ·cases q:H bm with
    |none=>rfl
    |some u=>
     rcases hA bm (by rw[q];simp) with e'|⟨z,c2,hz,Up⟩
     ·rw[e',ha] at b5;cases b5;exact absurd (tK b6) (by decide)
     ·have e2:=(Fz z c2 bm hz Up).2.1;rw[b5] at e2;cases e2;cases b6
   cases q:H c with
   |none=>rfl
   |some u=>
    rcases hA c (by rw[q];simp) with e'|⟨z,c2,hz,Up⟩
    ·rw[e',ha] at e1;cases e1;exact absurd (tK r1) (by decide)
    ·have e2:=(Fz z c2 c hz Up).2.1;rw[e1] at e2;cases e2;cases r1
  have e0:uC P w K mg (qo s₁.heap H) dR [] s₁ H:=⟨rfl,hM,λb o e=>FC e,sM (Bh _ _),trivial,λb hb=>absurd (show b∈([]:List À) from hb) (by simp),hok,.of_eq hg,hTB⟩;refine dS ((F _ XA (Sq vV)).run dR [] s₁ H ⟨[.ref a],[]⟩ [.ref a] [.ref a] _ _ hr e0 (RS s₁ (.ref a)) (.cons rfl .nil) (Ba H hO hS)) λr s' h=>?_;cases r with
  |error e=>exact(Uo H e s' h).elim
  |ok fl=>
   cases fl with
   |next=>exact Ļ h
   |brk=>exact Ļ h
   |cont=>exact Ļ h
   |ret u=>
    obtain⟨v,H',os,bare,un,Oy,r',q⟩:=h;have q':v=.bl true:=q;subst q';obtain rfl:u=ŉ true:=r';have jW:∀b o,s₁.heap.get? b=some o->(∀t,H b≠some (.jd t))->s'.heap.get? b=some o:=?_
    ·refine⟨rfl,⟨λb o e=>?_,λb o e=>?_⟩,os,bare⟩
     ·by_cases ht:∃t,H b=some (.jd t)
      ·obtain⟨t,ht⟩:=ht;obtain⟨ps,e1,_⟩:=Oy b _ (un.c_ b t ht);rcases hA b (by rw[ht];simp) with e'|⟨y,c,hy,ik⟩
       ·subst e';obtain⟨ps2,e3,_⟩:=hok b _ ht;rw[ha] at e3;cases e3
       ·obtain⟨⟨o2,us,file,tf,KG,tg,Qqj9,text,tt,f1,f2,f3,f4,_⟩,e2,_⟩:=Fz y c b hy ik;rw[e] at e2;cases e2;exact .inr (.inl ⟨⟨c,o2,us,f1,f2,f3,f4⟩,rfl,#[],ps,rfl,by rw[e1];simp⟩)
      ·exact .inl (jW b o e λt z=>ht ⟨t,z⟩)
     ·by_cases ht:∃t,H b=some (.jd t)
      ·obtain⟨t,ht⟩:=ht;obtain⟨ps,e1,_⟩:=Oy b _ (un.c_ b t ht);exact⟨_,e1⟩
      ·exact⟨o,jW b o e λt z=>ht ⟨t,z⟩⟩
    intro b o e nt;cases q:H b with
    |none=>exact un.keep b o e q (by intro z;exact absurd (show b∈([]:List À) from z) (by simp)) (by simp)
    |some u=>
     rcases hO b with z|⟨ob,xs,z⟩|⟨t,z⟩
     ·rw[q] at z;cases z
     rotate_left
     ·exact absurd z (nt t)
     ·have z2:=un.eI b ob _ z;obtain⟨e1,_⟩:=hok b _ z;obtain⟨e2,_⟩:=Oy b _ z2;rw[e] at e1;cases e1;exact e2
 cases hk:K.lookup a with
 |some o=>
  have e:=KX a o hk;rw[ha] at e;cases e;refine RU (gQ K bQ) (λb=>?_) (.inr ⟨_,vs.toArray,_,hk,rfl,rfl,rfl,by rw[ļ,WT];exact hl,by simpa using rv⟩) (λb u z=>?_) (λb z=>?_) (λz=>?_) λy c Pt hy ik=>Ag ik (λz hz=>B_ z y hz hy) hy
  ·cases q:gQ K bQ b with
   |none=>exact .inl rfl
   |some u=>obtain⟨y,c,_,_,rfl⟩:=dZ q;exact .inr (.inr ⟨_,rfl⟩)
  ·obtain⟨y,c,hy,ik,rfl⟩:=dZ z;exact⟨#[],(Fz y c b hy ik).2.1,trivial,λpos cv z=>by cases z⟩
  ·cases q:gQ K bQ b with
   |none=>exact absurd q z
   |some u=>obtain⟨y,c,hy,ik,_⟩:=dZ q;exact .inr ⟨y,c,hy,ik⟩
  ·cases q:gQ K bQ a with
   |none=>exact absurd q z
   |some u=>obtain⟨y,c,hy,ik,_⟩:=dZ q;have e2:=(Fz y c a hy ik).2.1;rw[ha] at e2;cases e2
 |none=>
  refine RU (λb=>if b=a then some (.bS {cls:=.type "list",data:=.seq vs.toArray} (.lst (ns.map V.int))) else gQ K bQ b) (λb=>?_) (.inl (.inr ⟨{cls:=.type "list",data:=.seq vs.toArray},if_pos rfl⟩)) (λb u z=>?_) (λb z=>?_) (λ_=>hk) λy c Pt hy ik=>?_
  ·by_cases hb:b=a
   ·exact .inr (.inl ⟨_,_,if_pos hb⟩)
   ·cases q:gQ K bQ b with
    |none=>exact .inl ((if_neg hb).trans q)
    |some u=>obtain⟨y,c,_,_,rfl⟩:=dZ q;exact .inr (.inr ⟨_,(if_neg hb).trans q⟩)
  ·by_cases hb:b=a
   ·have z':=(if_pos hb).symm.trans z;cases z';subst hb;exact⟨ha,by rw[ď];exact hl,vs,_,rv,ha⟩
   ·have z':=(if_neg hb).symm.trans z;obtain⟨y,c,hy,ik,rfl⟩:=dZ z';exact⟨#[],(Fz y c b hy ik).2.1,trivial,λpos cv z=>by cases z⟩
  ·by_cases hb:b=a
   ·exact .inl hb
   ·cases q:gQ K bQ b with
    |none=>exact absurd ((if_neg hb).trans q) z
    |some u=>obtain⟨y,c,hy,ik,_⟩:=dZ q;exact .inr ⟨y,c,hy,ik⟩
  ·have ne:Pt≠a:=fun z=>by
    subst z;have e2:=(Fz y c _ hy ik).2.1;rw[ha] at e2;cases e2
   exact(if_neg ne).trans (Ag ik (λz hz=>B_ z y hz hy) hy)
def FT{p:Þ}{jx:List Str}{WU:ExcName->Option Á}{mg mb:Str->Option Á}{h:Ð}{K:É}{d:DefRec}{x:Str}{c P:À}(T:Top p jx WU mg mb h)(X:K.In h)(hr:(recsOf p).find? (λe=>e.name== x)=some d)(ht:au K x=some (c,P)) :
 tX h c P/\h.get? P=some (PySem.W.tabObj #[])/\h.BuiltinsAt mg P:=by
 obtain⟨h1,h2⟩:=PySem.W.tab_of T X hr ht;obtain⟨bm,ob,b1,b2,b3,b4,b5,b6⟩:=T.bmain;have hbP:bm≠P:=λq=>by rw[q,h2] at b3;cases b3;cases b4
 have hbG:bm≠Ϛ:=λq=>by obtain⟨o,es,ep,e,hd,_⟩:=T.g;rw[q,e] at b3;cases b3;rw[hd] at b6;cases b6
 exact⟨h1,h2,bm,ob,b1,b2,hbG,hbP,b3,b4,b5,b6⟩
def FU{l:fR}{n k:Nat}{q:Þ}{jx:List Str}{XP:(Str->Option Á)->Ð->Prop}{YP:Ø->Ð->Prop}{d:DefRec}{K:Params->É}{CX:Ø->ji}{sp:Ø->Sp}{x:Str}
 (hn:l.most=some n)(Cd:n<=sizeLine)(Ov:d.params.defaults=[])(hr:ϊ k dR)
 (hY:∀(w:Ø) (h:Ð),YP w h->(K w.params).In h)
 (F:∀(w:Ø) (mg:Str→Option Á) (fa:À) (h:Ð),(K w.params).In h→h.Ns Ϛ mg→mg d.name=some (.ref fa)→
   ∃fd:Ė,(∀(s:Â) (u:Á),cG s fd ⟨[u],[]⟩ [(x,u)])/\
    ∀base:Ð,(K w.params).In base->base.Ns Ϛ mg->Ě l.prog w (K w.params) mg base (CX w) k fa fd [x] (sp w))
 (Ba:∀(w:Ø) (H:Hp) (a:À) (ns:List Int),ns.length<=n->Ox H->ϒ (K w.params) H a (ns.map V.int)->sp w [.ref a] H (λv _=>v=.bl true) λ_ _ _=>False)
 (Uo:∀(w:Ø) (H:Hp) (s:Â) (e:Á) (s':Â),CX w [] H s (λ_ _ _=>False) e s'->False)
 (RT:bQ≠[]->∀w:Ø,ui (K w.params)=true:=by intro z;exact absurd rfl z)(B_:∀y z,y∈bQ->z∈bQ->y=z:=by simp[bQ])(Oz:∀y,y∈bQ->∃d,(recsOf q).find? (λe=>e.name== y)=some d:=by simp[bQ]) :
 nM q jx XP YP l.row.toRowW d [] (λf vs=>nq f vs):=by
 refine Xz.wp hn Ov λw s₀ s₁ mg mb fa o pm cd mW a vs ns G Qqj ho hd gE RQ Ow Fh hlen hg=>?_;have KX:=hY w _ Qqj;obtain⟨fd,hb,hF⟩:=F w mg fa _ KX G.T.g RQ;exact CH KX G.T.g G.T.b G.T.builtins G.T.nolimit hg Ow Fh (ϲ hlen Cd) hr hF hb (λH hO hS=>Ba w H a ns hlen hO hS) (λH e s'=>Uo w H s₁ e s') (λz=>RT z w) B_ λy c Pt hy ik=>let ⟨_,hr'⟩:=Oz y hy;FT G.T KX hr' ik
def eG(s:Ò)(j:Nat):Ò:=match s with
 | .ClassDef _ _ _ body _ _ _ _ _ _ _=>body.getD j (.Pass ⟨0,0,0,0⟩)
 |_=>.Pass ⟨0,0,0,0⟩
def bJ(s:Ò):cH:=match s with
 | .FunctionDef _ a _ _ _ _ _ _ _ _=>a
 |_=> {posonlyargs:=[],args:=[],vararg:=none,kwonlyargs:=[],kw_defaults:=[],kwarg:=none,defaults:=[]}
def Ŧ(s:Ò):List Ò:=match s with
 | .FunctionDef _ _ b _ _ _ _ _ _ _=>b
 |_=>[]
def Ó(s:Ò):õ:=match s with
 | .FunctionDef _ _ _ _ _ _ sc _ _ _=>sc
 |_=> {kind:=.function,names:=[],isGenerator:=false,isCoroutine:=false}
structure B6(K:É)(x ý:Str)(st:Ò)(f:À)(fd:Ė):Prop where
 ex:∃(oc:Á) (od:Option À) (kV mW pm:Á) (an:Option À) (ĺ ct:Á) (qS:Array (Option Á)),
   fd=Ϣ x ý (bJ st) (Ŧ st) (Ó st) .none kV mW pm an ĺ ct/\K.lookup f=some ⟨oc,od,.func fd,qS⟩/\iO K ĺ ý=true
 kp:Ţ K (.ref f)=true
section
variable{K:É}
def B6.binds{x ý:Str}{st:Ò}{f:À}{fd:Ė}{ps:List Str}(F:B6 K x ý st f fd)
 (h:∀(kV mW pm:Á) (an:Option À) (ĺ ct:Á) (us:List Á),us.length=ps.length->bindArgs (Ϣ x ý (bJ st) (Ŧ st) (Ó st) .none kV mW pm an ĺ ct) ⟨us,[]⟩=ç (ps.zip us)):Binds K fd ps []:=by
 obtain⟨oc,od,kV,mW,pm,an,ĺ,ct,qS,rfl,lk,gE⟩:=F.ex;exact .all (h kV mW pm an ĺ ct)
def CI{x ý:Str}{st:Ò}{f:À}{oc:Á}{od an:Option À}{qS:Array (Option Á)}{kV mW pm ĺ ct:Á}(l:K.lookup f=some ⟨oc,od,.func (Ϣ x ý (bJ st) (Ŧ st) (Ó st) .none kV mW pm an ĺ ct),qS⟩)
 (c:iO K ĺ ý=true)(k:Ţ K (.ref f)=true):B6 K x ý st f (Ϣ x ý (bJ st) (Ŧ st) (Ó st) .none kV mW pm an ĺ ct):=⟨⟨oc,od,kV,mW,pm,an,ĺ,ct,qS,rfl,l,c⟩,k⟩
end
section
variable{X:Cx}
def pv(i:Nat){x:Str}{pos:Pos}(hN:X.N[i]?=some x:=by rfl)(hv:Bi X.env.scope x:=by first|exact ĕ rfl|exact ĉ (ĕ rfl)|exact ĉ (ĉ rfl))(hd:(x== ("__debug__" :Str))=false:=by decide)
 (gE:(x== ("__classdict__" :Str))=false:=by decide):PE X (.Name x pos) (gF i):=gL hN hv hd gE
end
def Õ(H H':Hp):Prop:=∀b o,H b=some o->H' b=some o
def Õ.refl(H:Hp):Õ H H:=λ_ _ h=>h
def Ď{H:Hp}:Õ H H:= Õ.refl H
def Õ.trans{H H1 H2:Hp}(a:Õ H H1)(b:Õ H1 H2):Õ H H2:=λc o h=>b c o (a c o h)
def Õ.free{H H':Hp}(e:Õ H H'){l:À}(h:H' l=Option.none):H l=Option.none:=by
 cases q:H l with
 |none=>rfl
 |some o=>rw[e l o q] at h;cases h
def Õ.seq{K:É}{H H':Hp}{a:À}{xs:List V}(e:Õ H H')(h:ϒ K H a xs):ϒ K H' a xs:=by
 rcases h with(h|⟨o,h⟩)|h
 ·exact .inl (.inl (e _ _ h))
 ·exact .inl (.inr ⟨o,e _ _ h⟩)
 ·exact .inr h
end L2
namespace M2
open PySem PySem.Spec PyProof.Rows L2
section
variable{X:Cx}{a b c e:Æ}{ta tb tc te:TE}{pos:Pos}
def PE.wk{t t':TE}(h:PE X e t)(i:∀Y H Q,t' Y H Q->t Y H Q):PE X e t':=λÃ s Y H Q I q=>h Ã s Y H Q I (i Y H Q q)
def PS.wk{st:Ò}{t t':TS}(h:PS X st t)(i:∀D Y H,t' D Y H->t D Y H):PS X st t':=λÃ s Y H D I q=>h Ã s Y H D I (i D Y H q)
def aD.wk{f:Á->Á->Sem Á}{r r':R2}(h:aD X f r)(i:∀x y H Q,r' x y H Q->r x y H Q):aD X f r':=λÃ s Y H x y v u Q I rx ry q=>h Ã s Y H x y v u Q I rx ry (i x y H Q q)
def FI.wk{f:Á->Sem Á}{r r':V->Hp->VK->Prop}(h:FI X f r)(i:∀x H Q,r' x H Q->r x H Q):FI X f r':=λÃ s Y H x v Q I rx q=>h Ã s Y H x v Q I rx (i x H Q q)
def Ŝ.wk{f:Á}{r r':List V->Hp->VK->Prop}(h:Ŝ X f r)(i:∀xs H Q,r' xs H Q->r xs H Q):Ŝ X f r':=λÃ s Y H xs us Q I r q=>h Ã s Y H xs us Q I r (i xs H Q q)
def xU.wk{r r':R2}(h:xU X r)(i:∀x y H Q,r' x y H Q->r x y H Q):xU X r':=λva sl Ã s Y H x y v u Q I rx ry q=>h va sl Ã s Y H x y v u Q I rx ry (i x y H Q q)
def Ae.wk{r r':V->Option Int->Option Int->Hp->VK->Prop}(h:Ae X r)(i:∀x lo hi H Q,r' x lo hi H Q->r x lo hi H Q):Ae X r':=λÃ s Y H x v vl vu lo hi sl Q I rx hs pl pu q=>h Ã s Y H x v vl vu lo hi sl Q I rx hs pl pu (i x lo hi H Q q)
def Ls(i:Nat):TE:=λY H Q=>match Y[i]? with
 |some (some v)=>Q v H
 |_=>False
def FV{i:Nat}{Y:Ą}{H:Hp}{Q:VK}(h:Ls i Y H Q):gF i Y H Q:=by
 unfold Ls at h;split at h
 ·exact⟨_,by assumption,h⟩
 ·exact h.elim
def mv(i:Nat){x:Str}{pos:Pos}(hN:X.N[i]?=some x:=by rfl)(hv:Bi X.env.scope x:=by first|exact ĕ rfl|exact ĉ (ĕ rfl)|exact ĉ (ĉ rfl))(hd:(x== ("__debug__" :Str))=false:=by decide)
 (gE:(x== ("__classdict__" :Str))=false:=by decide):PE X (.Name x pos) (Ls i):=PE.wk (gL hN hv hd gE) λ_ _ _ h=>FV h
def OT(x:V)(k:Bool->Prop):Prop:=match x with
 | .bl c=>k c
 |_=>False
def jy{x:V}{k:Bool->Prop}(h:OT x k):∃c,x=.bl c/\k c:=by
 cases x with
 |bl c=>exact⟨c,rfl,h⟩
 |_=>exact h.elim
def CJ(t:TE):TT:=λY H Q=>t Y H λx H1=>OT x λc=>Q c H1
def Lu{op:cE}{r:R2}(ho:aD X (ı op) r)(ha:PE X a ta)(hb:PE X b tb)(hm:iz op b=false):PT X (.Compare a [op] [b] pos) (CJ (Hy r ta tb)):=by
 intro Ã s Y H Q I h;refine wpAny_isTrue_Compare1 (ŝ (ha Ã s Y H _ I h) λv s1 ⟨x,H1,I1,r1,q1⟩=>ŝ (hb Ã s1 Y H1 _ I1 q1) λu s2 ⟨y,H2,I2,r2,q2⟩=>
  ŝ (ho Ã s2 Y H2 x y v u _ I2 r1 r2 q2) λc s3 ⟨z,H3,I3,r3,q3⟩=>?_) hm
 obtain⟨k,e,q3⟩:=jy q3;subst e;cases r3;exact cF ⟨H3,I3,q3⟩
def xW(r r':R2)(ta tb tc:TE):TE:=λY H Q=>ta Y H λx H1=>tb Y H1 λy H2=>r x y H2 λz H3=>OT z λk=>
 (if k=true then tc Y H3 λw' H4=>r' y w' H4 Q else Q (.bl false) H3)
def CK{op za:cE}{r r':R2}(ho:aD X (ı op) r)(yZ:aD X (ı za) r')(ha:PE X a ta)(hb:PE X b tb)(hc:PE X c tc)
 (hm:lastMarks [op,za] [b,c]=false:=by with_unfolding_all rfl):PE X (.Compare a [op,za] [b,c] pos) (xW r r' ta tb tc):=by
 intro Ã s Y H Q I h;refine Compare_chain (ŝ (ha Ã s Y H _ I h) λv s1 ⟨x,H1,I1,r1,q1⟩=>chain_link (ŝ (hb Ã s1 Y H1 _ I1 q1) λu s2 ⟨y,H2,I2,r2,q2⟩=>
  ŝ (ho Ã s2 Y H2 x y v u _ I2 r1 r2 q2) λd s3 ⟨z,H3,I3,r3,q3⟩=>?_)) hm
 obtain⟨k,e,q3⟩:=jy q3;subst e;cases r3;refine cF ?_;cases k with
 |false=>exact ite_ff ⟨.bl false,H3,I3,rfl,q3⟩
 |true=>exact ite_tt (chain_last (ŝ (hc Ã s3 Y H3 _ I3 q3) λw' s4 ⟨z',H4,I4,r4,q4⟩=>yZ Ã s4 Y H4 y z' u w' Q I4 r2 r4 q4))
def CL{op za:cE}{r r':R2}(ho:aD X (ı op) r)(yZ:aD X (ı za) r')(ha:PE X a ta)(hb:PE X b tb)(hc:PE X c tc)
 (hm:lastMarks [op,za] [b,c]=false:=by with_unfolding_all rfl):PT X (.Compare a [op,za] [b,c] pos) (CJ (xW r r' ta tb tc)):=by
 intro Ã s Y H Q I h;refine isTrue_chain (ŝ (ha Ã s Y H _ I h) λv s1 ⟨x,H1,I1,r1,q1⟩=>test_link (ŝ (hb Ã s1 Y H1 _ I1 q1) λu s2 ⟨y,H2,I2,r2,q2⟩=>
  ŝ (ho Ã s2 Y H2 x y v u _ I2 r1 r2 q2) λd s3 ⟨z,H3,I3,r3,q3⟩=>?_)) hm
 obtain⟨k,e,q3⟩:=jy q3;subst e;cases r3;refine cF ?_;cases k with
 |false=>exact ite_ff ⟨H3,I3,q3⟩
 |true=>refine ite_tt (test_last (ŝ (hc Ã s3 Y H3 _ I3 q3) λw' s4 ⟨z',H4,I4,r4,q4⟩=>ŝ (yZ Ã s4 Y H4 y z' u w' _ I4 r2 r4 q4) λd' s5 ⟨z2,H5,I5,r5,q5⟩=>?_));obtain⟨k2,e2,q5⟩:=jy q5;subst e2;cases r5;exact cF ⟨H5,I5,q5⟩
def PB(ta tb:TE):TE:=λY H Q=>ta Y H λx H1=>OT x λc=>if c=true then tb Y H1 Q else Q (.bl false) H1
def Uq(ta tb:TE):TE:=λY H Q=>ta Y H λx H1=>OT x λc=>if c=true then Q (.bl true) H1 else tb Y H1 Q
def PC(ta:TE):TE:=λY H Q=>ta Y H λx H1=>OT x λc=>Q (.bl (!c)) H1
variable{ü:List Æ}
def Lv(ha:PE X a ta)(hb:PE X (.BoolOp .And (b::ü) pos) tb):PE X (.BoolOp .And (a::b::ü) pos) (PB ta tb):=by
 intro Ã s Y H Q I h;refine BoolOp_and (ŝ (ha Ã s Y H _ I h) λv s1 ⟨x,H1,I1,r1,q1⟩=>?_);obtain⟨c,rfl,q1⟩:=jy q1;cases r1;refine cF ?_;cases c with
 |true=>exact hb Ã s1 Y H1 Q I1 q1
 |false=>exact⟨.bl false,H1,I1,rfl,q1⟩
def PD(ha:PE X a ta)(hb:PE X (.BoolOp .Or (b::ü) pos) tb):PE X (.BoolOp .Or (a::b::ü) pos) (Uq ta tb):=by
 intro Ã s Y H Q I h;refine BoolOp_or (ŝ (ha Ã s Y H _ I h) λv s1 ⟨x,H1,I1,r1,q1⟩=>?_);obtain⟨c,rfl,q1⟩:=jy q1;cases r1;refine cF ?_;cases c with
 |false=>exact hb Ã s1 Y H1 Q I1 q1
 |true=>exact⟨.bl true,H1,I1,rfl,q1⟩
def Lw(ha:PE X a ta):PE X (.UnaryOp .Not a pos) (PC ta):=by intro Ã s Y H Q I h;refine UnaryOp_ (ŝ (ha Ã s Y H _ I h) λv s1 ⟨x,H1,I1,r1,q1⟩=>?_);obtain⟨c,rfl,q1⟩:=jy q1;cases r1;exact not_of (cF ⟨.bl (!c),H1,I1,rfl,q1⟩)
def mI(C:Int->Int->Prop)(g:Int->Int->V):R2:=λx y H Q=>match x,y with
 | .int i,.int j=>C i j/\Q (g i j) H
 |_,_=>False
def CM(g:Int->Int->V):R2:=λx y H Q=>match x,y with
 | .int i,.int j=>Q (g i j) H
 |_,_=>False
def Ah{C:Int->Int->Prop}{g:Int->Int->V}(x y:V)(H:Hp)(Q:VK)(h:mI C g x y H Q):rI C g x y H Q:=by
 cases x with
 |int i=>
  cases y with
  |int j=>exact⟨i,j,rfl,rfl,h.1,h.2⟩
  |_=>exact h.elim
 |_=>exact h.elim
def uG{g:Int->Int->V}(x y:V)(H:Hp)(Q:VK)(h:CM g x y H Q):Hz g x y H Q:=by
 cases x with
 |int i=>
  cases y with
  |int j=>exact⟨i,j,rfl,rfl,h⟩
  |_=>exact h.elim
 |_=>exact h.elim
def PF:R2:=λx y H Q=>match x,y with
 | .int i,.int j=>Q (.int (i+j)) H
 | .str i,.str j=>i.length+j.length<=sizeLine/\Q (.str (i++j)) H
 |_,_=>False
def Lx:aD X (ŋ .Add) PF:=aD.wk (Lc.or xN) λx y H Q h=>by
 cases x with
 |int i=>
  cases y with
  |int j=>exact .inl ⟨i,j,rfl,rfl,h⟩
  |_=>exact h.elim
 |str i=>
  cases y with
  |str j=>exact .inr ⟨i,j,rfl,rfl,h.1,h.2⟩
  |_=>exact h.elim
 |_=>exact h.elim
def Ly:aD X (ŋ .Sub) (CM λi j=>.int (i-j)):=aD.wk Ld uG
def rn(i j:Int):Prop:=Lb i j\/(ny i<=1048576/\ny j<=1048576)
theorem rn.ok{i j:Int}(h:rn i j):IntMulOk i j:=by
 rcases h with h|⟨h1,h2⟩
 ·exact h.ok
 ·exact IntMulOk.of_le h1 h2 (by decide)
def Lz:aD X (ŋ .Mult) (mI rn λi j=>.int (i*j)):=aD.wk (Fq (C:=rn) (g:=λi j=>i*j) λ_ _ _ _ _ _ _ hc q=>mul_int q hc.ok) Ah
def Br(_ j:Int):Prop:=j≠0/\ny j<=8000
def Br.py{i j:Int}(h:Br i j):Builtin.divisionGoesByPylong i j=false:=by
 refine PyProof.noPylong_of_log2 ?_;have hb:=intBits_le_iff.mp h.2;have h0:j.natAbs≠0:=by have:=h.1;lia
 exact ŕ ((Nat.log2_lt h0).mpr hb) (by decide)
def FX:aD X (ŋ .FloorDiv) (mI Br λi j=>.int (i.fdiv j)):=aD.wk (Fq (C:=Br) (g:=λi j=>i.fdiv j) λ_ _ _ _ _ _ _ hc q=>floordiv_int hc.1 q (.inl hc.py)) Ah
def LA:aD X (ŋ .Mod) (mI (λ_ j=>j≠0) λi j=>.int (i.fmod j)):=aD.wk FJ Ah
def CN:aD X (ŋ .Pow) (mI La λi j=>.int (i ^ j.toNat)):=aD.wk Le Ah
def wq:aD X (ı .Lt) (CM λi j=>.bl (decide (i<j))):=aD.wk Pp uG
def bZ:aD X (ı .LtE) (CM λi j=>.bl (decide (i<=j))):=aD.wk Pq uG
def CO:aD X (ı .Gt) (CM λi j=>.bl (decide (j<i))):=aD.wk Pr uG
def mU(g:Int->V):V->Hp->VK->Prop:=λx H Q=>match x with
 | .int i=>Q (g i) H
 |_=>False
def LB:FI X (unaryOp .USub) (mU λi=>.int (-i)):=FI.wk Cq λx H Q h=>by
 cases x with
 |int i=>exact⟨i,rfl,h⟩
 |_=>exact h.elim
def OA:List V->Hp->VK->Prop:=λxs H Q=>match xs with
 | [.int i]=>Q (.int (if i<0 then -i else i)) H
 |_=>False
def xX:Ŝ X (.builtin "abs") OA:=Ŝ.wk Cs λxs H Q h=>by
 unfold OA at h;split at h
 ·exact⟨_,rfl,h⟩
 ·exact h.elim
def LC(K:É):List V->Hp->VK->Prop:=λxs H Q=>match xs with
 | [.str y]=>y.length<=sizeLine/\Q (.int (y.length:Int)) H
 | [.ref p]=>∃ys,(ϒ K H p ys\/eQ K H p ys)/\Q (.int (ys.length:Int)) H
 |_=>False
def ő:Ŝ X (.builtin "len") (LC X.K):=Ŝ.wk Ct λxs H Q h=>by
 unfold LC at h;split at h
 ·exact⟨_,_,rfl,⟨h.1,rfl⟩,h.2⟩
 ·obtain⟨ys,h1,h2⟩:=h;refine⟨_,ys.length,rfl,?_,h2⟩;rcases h1 with h1|h1
  ·exact .inl ⟨ys,h1,rfl⟩
  ·exact .inr ⟨ys,h1,rfl⟩
 ·exact h.elim
def XB(K:É):R2:=λx y H Q=>match x,y with
 | .ref p,.int i=>∃xs v,(ϒ K H p xs\/eQ K H p xs)/\oA xs i=some v/\Q v H
 | .str z,.int i=>∃c,z.length<=sizeLine/\oA z.cps.toList i=some c/\Q (.str ⟨#[c]⟩) H
 |_,_=>False
def PK:xU X (XB X.K):=xU.wk xV λx y H Q h=>by
 cases x with
 |ref p=>
  cases y with
  |int i=>
   obtain⟨xs,v,h1,h2,h3⟩:=h;rcases h1 with h1|h1
   ·exact .inl ⟨p,xs,i,v,rfl,rfl,h1,h2,h3⟩
   ·exact .inr (.inl ⟨p,xs,i,v,rfl,rfl,h1,h2,h3⟩)
  |_=>exact h.elim
 |str z=>
  cases y with
  |int i=>obtain⟨c,h1,h2,h3⟩:=h;exact .inr (.inr ⟨z,i,c,rfl,rfl,h1,h2,h3⟩)
  |_=>exact h.elim
 |_=>exact h.elim
def iOf(x:V)(k:Int->Prop):Prop:=match x with
 | .int i=>k i
 |_=>False
def PL(t:TE):TO:=λY H Q=>t Y H λx H1=>iOf x λi=>Q (some i) H1
def CP(h:PE X e te):PO X (some e) (PL te):=by
 intro Ã s Y H Q I hw;rw[evalPart_some];refine ŝ (h Ã s Y H _ I hw) λu s1 ⟨x,H1,I1,r1,q1⟩=>?_;cases x with
 |int i=>obtain⟨t,rfl⟩:=r1;exact⟨some i,H1,I1,.int i t,q1⟩
 |_=>exact q1.elim
def Ur(K:É):V->Option Int->Option Int->Hp->VK->Prop:=λx lo hi H Q=>match x with
 | .ref a=>∃xs,ϒ K H a xs/\∀p,H p=none->Q (.ref p) (upd H p (.lst (wl xs lo hi)))
 |_=>False
def CQ:Ae X (Ur X.K):=Ae.wk FQ λx lo hi H Q h=>by
 cases x with
 |ref a=>obtain⟨xs,h1,h2⟩:=h;exact⟨a,xs,rfl,h1,h2⟩
 |_=>exact h.elim
end
section
end
mutual
def Rp(K:É)(H:Hp):Ϟ->V->Prop
 | .none,v=>v=.non
 | .bool b,v=>v=.bl b
 | .int i,v=>v=.int i
 | .str x,v=>v=.str x
 | .tuple ds,v=>∃a xs,v=.ref a/\eQ K H a xs/\lE K H ds xs
 | .list ds,v=>∃a xs,v=.ref a/\ϒ K H a xs/\lE K H ds xs
 | .dict _,_=>False
def lE(K:É)(H:Hp):List Ϟ->List V->Prop
 | [],xs=>xs=[]
 |d::ds,xs=>∃x r,xs=x::r/\Rp K H d x/\lE K H ds r
end
def Õ.tup{K:É}{H H':Hp}{a:À}{xs:List V}(e:Õ H H')(h:eQ K H a xs):eQ K H' a xs:=by
 rcases h with(h|⟨o,h⟩)|h
 ·exact .inl (.inl (e _ _ h))
 ·exact .inl (.inr ⟨o,e _ _ h⟩)
 ·exact .inr h
theorem Õ.upd{H:Hp}{p:À}{o:HO}(h:H p=none):Õ H (upd H p o):=λb u e=>by rw[Ú (é e h)];exact e
mutual
theorem Rp.same{K:É}{H H':Hp}(e:Õ H H'):∀(d:Ϟ) (v:V),Rp K H d v->Rp K H' d v
 | .none,_,h=>by unfold Rp at h ⊢;exact h
 | .bool _,_,h=>by unfold Rp at h ⊢;exact h
 | .int _,_,h=>by unfold Rp at h ⊢;exact h
 | .str _,_,h=>by unfold Rp at h ⊢;exact h
 | .tuple ds,_,h=>by unfold Rp at h ⊢;obtain⟨a,xs,h1,h2,h3⟩:=h;exact⟨a,xs,h1,Õ.tup e h2,lE.same e ds xs h3⟩
 | .list ds,_,h=>by unfold Rp at h ⊢;obtain⟨a,xs,h1,h2,h3⟩:=h;exact⟨a,xs,h1,e.seq h2,lE.same e ds xs h3⟩
 | .dict _,_,h=>by unfold Rp at h;exact h.elim
theorem lE.same{K:É}{H H':Hp}(e:Õ H H'):∀(ds:List Ϟ) (xs:List V),lE K H ds xs->lE K H' ds xs
 | [],_,h=>by unfold lE at h ⊢;exact h
 |d::ds,_,h=>by unfold lE at h ⊢;obtain⟨x,r,h1,h2,h3⟩:=h;exact⟨x,r,h1,Rp.same e d x h2,lE.same e ds r h3⟩
end
section
variable{X:Cx}{Ã:List (À×Obj)}{Y:Ą}{H:Hp}{s:Â}
mutual
theorem Rp.reads(I:Inv X Ã Y H s):∀(d:Ϟ) (v:V) (u:Á),Rp X.K H d v->RelV v u->∃as,Reads s.heap u d as
 | .none,v,u,h,r=>by unfold Rp at h;subst h;cases r;exact⟨_,.none⟩
 | .bool b,v,u,h,r=>by unfold Rp at h;subst h;cases r;exact⟨_,.bool b⟩
 | .int i,v,u,h,r=>by unfold Rp at h;subst h;obtain⟨t,rfl⟩:=r;exact⟨_,.int i t⟩
 | .str x,v,u,h,r=>by unfold Rp at h;subst h;obtain⟨t,rfl⟩:=r;exact⟨_,.str x t⟩
 | .tuple ds,v,u,h,r=>by unfold Rp at h;obtain⟨a,xs,h1,h2,h3⟩:=h;subst h1;cases r;obtain⟨ě,rv,⟨o,e,hc,n,hd⟩,hz⟩:=I.tuple h2;obtain⟨as,ra⟩:=lE.reads I ds xs ě h3 rv;exact⟨_,.tuple e hc hd (by simpa using ra)⟩
 | .list ds,v,u,h,r=>by unfold Rp at h;obtain⟨a,xs,h1,h2,h3⟩:=h;subst h1;cases r;obtain⟨ě,rv,⟨o,n,e,hc,hdd,hd⟩,hz⟩:=I.list h2;obtain⟨as,ra⟩:=lE.reads I ds xs ě h3 rv;exact⟨_,.list e hc hd (by simpa using ra)⟩
 | .dict _,_,_,h,_=>by unfold Rp at h;exact h.elim
theorem lE.reads(I:Inv X Ã Y H s):∀(ds:List Ϟ) (xs:List V) (us:List Á),lE X.K H ds xs->ĭ xs us->∃as,ReadsAll s.heap us ds as
 | [],xs,us,h,r=>by unfold lE at h;subst h;cases r;exact⟨_,.nil⟩
 |d::ds,xs,us,h,r=>by
  unfold lE at h;obtain⟨x,q,h1,h2,h3⟩:=h;subst h1;cases r with
  |cons r1 r2=>obtain⟨as,ra⟩:=Rp.reads I d x _ h2 r1;obtain⟨bs,rb⟩:=lE.reads I ds q _ h3 r2;exact⟨_,.cons ra rb⟩
end
end
def FY(K:É)(Hl:Bool):R2:=λx y H Q=>∃d e,Rp K H d x/\Rp K H e y/\d.canLay0=true/\e.canLay0=true/\min d.depth e.depth<=60/\Q (.bl (if Hl then !PyData.eqv d e else ī d e)) H
section
variable{X:Cx}
def CS(hu:X.A.units+64<ϝ):aD X (ı .Eq) (FY X.K false):=by intro Ã s Y H x y v u Q I rx ry h;obtain⟨d,e,h1,h2,h3,h4,h5,q⟩:=h;obtain⟨as,ra⟩:=Rp.reads I d x v h1 rx;obtain⟨bs,rb⟩:=Rp.reads I e y u h2 ry;exact SeqAt.compareEq_reads ra rb h3 h4 (by lia) ⟨.bl _,H,I,rfl,q⟩
def CT(hu:X.A.units+64<ϝ):aD X (ı .NotEq) (FY X.K true):=by intro Ã s Y H x y v u Q I rx ry h;obtain⟨d,e,h1,h2,h3,h4,h5,q⟩:=h;obtain⟨as,ra⟩:=Rp.reads I d x v h1 rx;obtain⟨bs,rb⟩:=Rp.reads I e y u h2 ry;exact SeqAt.compareNe_reads ra rb h3 h4 (by lia) ⟨.bl _,H,I,rfl,q⟩
end
section
end
end M2
namespace M3
open PySem PySem.Spec PyProof.Rows L2 M2
def Ai{P:Þ}{w:Ø}{H:Hp}{h h':Ð}{C:À}(x:cZ P w H h)(hC:H C=none)(k:∀b u,b≠C->h.get? b=some u->h'.get? b=some u):cZ P w H h':=λa o e=>
 (x a o e).stay (fun b u hb q=>k b u (by
   rcases hb with hb|hb
   ·rw[hb];exact é e hC
   ·exact é hb hC) q) (λ_ q=>q) λ_ _ q=>q
theorem jz{env:Env}:∀(ns:List (Str×ak)) (cs:List (Str×À)),(∀y∈ns,y.2=.free->∃c,env.cells.lookup y.1=some c)->(∀x c,cs.lookup x=some c->env.cells.lookup x=some c)->
 ∃cl,(forIn ns cs (λ(x:Str×ak) r=>if(x.2== .free)=true then(do let c <-cellOf env x.1;ç (dM ((x.1,c)::r))) else ç (dM r)):Sem (List (Str×À)))=ç cl/\
  (∀x c,cl.lookup x=some c->env.cells.lookup x=some c)/\(∀x,(∃c,cs.lookup x=some c)->∃c,cl.lookup x=some c)/\∀y∈ns,y.2=.free->∃c,cl.lookup y.1=some c
 | [],cs,_,h2=>⟨cs,rfl,h2,λ_ z=>z,λ_ z=>nomatch z⟩
 |(n,k)::ns,cs,h1,h2=>by
  by_cases hk:k=.free
  ·subst hk;obtain⟨c,hc⟩:=h1 (n,.free) ű rfl;have e:cellOf env n=ç c:=by unfold cellOf;rw[hc]
   have OB:∀x d,((n,c)::cs).lookup x=some d->env.cells.lookup x=some d:=λx d q=>by
    rw[ņ] at q;cases hx:x== n with
    |true=>rw[hx] at q;have:x=n:=eq_of_beq hx;subst this;cases q;exact hc
    |false=>rw[hx] at q;exact h2 x d q
   obtain⟨cl,q1,q2,q3,q4⟩:=jz ns ((n,c)::cs) (λy hy=>h1 y (í _ hy)) OB;refine⟨cl,?_,q2,λx ⟨d,hd⟩=>q3 x ?_,λy hy hf=>?_⟩
   ·rw[nc];simp only[beq_self_eq_true,if_true,e,pure_bind];exact q1
   ·rw[ņ];cases hx:x== n with
    |true=>exact⟨c,rfl⟩
    |false=>exact⟨d,hd⟩
   ·rcases Č.mp hy with rfl|hy
    ·exact q3 n ⟨c,by rw[ņ,beq_self_eq_true]⟩
    ·exact q4 y hy hf
  ·have hb:(k== aq)=false:=by simpa using hk
   obtain⟨cl,q1,q2,q3,q4⟩:=jz ns cs (λy hy=>h1 y (í _ hy)) h2;refine⟨cl,?_,q2,q3,λy hy hf=>?_⟩
   ·rw[nc];simp only[hb,jY,if_false,pure_bind];exact q1
   ·rcases Č.mp hy with rfl|hy
    ·exact absurd hf hk
    ·exact q4 y hy hf
def kH{scope:õ}{env:Env}(h:∀y∈scope.names,y.2=.free->∃c,env.cells.lookup y.1=some c) :
 ∃cl,closureFor scope env=ç cl/\(∀x c,cl.lookup x=some c->env.cells.lookup x=some c)/\∀y∈scope.names,y.2=.free->∃c,cl.lookup y.1=some c:=by
 obtain⟨cl,q1,q2,_,q4⟩:=jz (env:=env) scope.names [] h (λx c z=>by simp at z);refine⟨cl,?_,q2,q4⟩;unfold closureFor;have e:(forIn scope.names [] (λ(x:Str×ak) (r:List (Str×À))=>match x with
  |(name,kind)=>if(kind== .free)=true then(do let a <-cellOf env name;ç (dM ((name,a)::r))) else ç (dM r)):Sem (List (Str×À)))=ç cl:=q1
 first
  |(simp only[bind_pure];exact q1)
  |(rw[show ∀(t:Sem (List (Str×À))),(do let r <-t;ç r)=t from λt=>by simp];exact q1)
  |(simp only[q1,pure_bind])
noncomputable def dH(X:Cx)(N':List Str)(scope:õ)(cl:List (Str×À))(C:À)(s:Â)(H:Hp)(fp:List À):Cx where
 prog:=X.prog
 w:=X.w
 K:=X.K
 mg:=X.mg
 base:=X.base
 A:=X.A
 N:=N'
 s₀:= s
 H₀:= H
 env:=compEnvC scope cl C X.env
 outer:=X.stack
 stack:=X.stack
 ex:=fp
 fn:=λx=>scope.names.lookup x== some .cell
 calm:=X.calm
 pn:=[]
 xe:=λ_ _=>False
def jj(X:Cx)(sc scope:õ):List Str->List Nat->Prop
 |x::xs,j::js=>X.N[j]?=some x/\(scope.names.lookup x=some .free/\(sc.names.lookup x=some .cell\/sc.names.lookup x=some .free))/\jj X sc scope xs js
 |_,[]=>True
 | [],_::_=>False
def gR(js:List Nat)(nl:Nat)(Y:Ą):Ą:=js.map (λj:Nat=>(Y[j]?).getD none)++Ê nl none
theorem ro{X:Cx}{sc scope:õ}{Y:Ą}{nl:Nat}:∀{N':List Str} {js:List Nat} {i:Nat} {x:Str} {v:V},jj X sc scope N' js->N'[i]?=some x->(gR js nl Y)[i]?=some (some v)->
 ∃j:Nat,X.N[j]?=some x/\Y[j]?=some (some v)/\scope.names.lookup x=some .free/\(sc.names.lookup x=some .cell\/sc.names.lookup x=some .free)
 |N',[],i,x,v,_,_,h=>by unfold gR at h;rw[Ľ,ϰ,fq] at h;split at h<;>cases h
 | [],_::_,_,_,_,c,_,_=>c.elim
 |y::N',j::js,0,x,v,c,h1,h2=>by
  obtain⟨c1,c2,_⟩:=c;simp at h1;subst h1;have e:(Y[j]?).getD none=some v:=by simpa[gR] using h2
  refine⟨j,c1,?_,c2⟩;cases q:Y[j]? with
  |none=>rw[q] at e;cases e
  |some o=>rw[q] at e;exact congrArg some e
 |y::N',j::js,i+1,x,v,c,h1,h2=>by exact ro (N':=N') (js:=js) (i:=i) c.2.2 (by simpa using h1) (by simpa[gR] using h2)
section
variable{prog:Þ}{w:Ø}{A:à}{R:dQ->Â->Prop}{s:Â}
def kI{elt target iter:Æ}{ifs:List Æ}{scope:õ}{pos:Pos}{it acc:Á}{env:Env}(I:Nat->Â->Prop)
 (turn:∀n s,I n s→Î (Ì prog w) A (fE it) (fun r s₁=>match r with
   |none=>R (.ok .next) s₁
   |some v=>Î (Ì prog w) A (nk target it v) (fun _ Z_=>Î (Ì prog w) A (cD target env v) (fun _ s₂=>
     Î (Ì prog w) A (forIn ifs true λc r=>if r=true then do let ok <-isTrue c env (eval c env);ç (dM ok) else ç (dM r)) (λok s₃=>
      if ok=true then Î (Ì prog w) A (eval elt env) (λx s₄=>
       Î (Ì prog w) A (call (.builtin "list.append") [acc,x]) (λ_ s₅=>∃m,m<n/\I m s₅) (λ_ _=>False) s₄) (λ_ _=>False) s₃
      else ∃m,m<n/\I m s₃) (λ_ _=>False) s₂) (λ_ _=>False) Z_) (λ_ _=>False) s₁) (λ_ _=>False) s)
 (n:Nat)(h:I n s) :
 Ϝ (Ì prog w) A (.compLoop (.ListComp elt [⟨target,iter,ifs,0⟩] scope pos) 0 it acc env) R s:=by
 refine codeAny_loop rfl I (λn s hI=>?_) n h;show Î _ A ((compTurn (.ListComp elt [⟨target,iter,ifs,0⟩] scope pos) 0 it acc env).onRaise (λx=>do aI x env;theTreesLotGoes x)) _ _ s;refine wpAny_noted (wpAny_noRaise ?_);rw[compTurn_list];refine Ë (cJ (Ë (Ň (turn n s hI) (λr s₁ h₁=>?_) λ_ _ h'=>h')));cases r with
 |none=>exact â h₁
 |some v=>
  refine Ë (Ň h₁ (λ_ Z_ Zag=>?_) λ_ _ h'=>h');refine Ë (Ň Zag (λ_ s₂ h₂=>Ë (Ň h₂ (λok s₃ h₃=>?_) λ_ _ h'=>h')) λ_ _ h'=>h');cases ok with
  |false=>exact â ⟨rfl,h₃⟩
  |true=>exact Ë (Ë (Ň h₃ (λx s₄ h₄=>Ë (Ň h₄ (λ_ s₅ h₅=>â (â ⟨rfl,h₅⟩)) λ_ _ h'=>h')) λ_ _ h'=>h'))
end
def Bs(X:Cx)(ifs:List Æ)(t:TT):Prop:=
 ∀(Ã:List (À×Obj)) (s:Â) (Y:Ą) (H:Hp) (Q:Bool->Hp->Prop),Inv X Ã Y H s->t Y H Q->
  Î (Ì X.prog X.w) X.A (forIn ifs true λc r=>if r=true then do let ok <-isTrue c X.env (eval c X.env);ç (dM ok) else ç (dM r)) (TP X Ã Y Q) X.xe s
def Us:TT:=λ_ H Q=>Q true H
def FZ{X:Cx}:Bs X [] Us:=λ_ _ _ H _ I h=>wpAny_tests_nil ⟨H,I,h⟩
def F_{X:Cx}{c:Æ}{t:TT}(h:PT X c t):Bs X [c] t:=λÃ s Y H Q I hw=>wpAny_tests_one (h Ã s Y H Q I hw)
def Aj(js:List Nat)(nl:Nat)(wi:TI)(g:TG)(tt:TT)(te:TE):TE:=λY H Q=>wi Y H λJ H1=>∀D,H1 D=none->
 ∃W:Nat->Nat->Ą->Hp->Prop,(∃m,W 0 m (gR js nl Y) (upd H1 D (.lst [])))/\∀i m Y' H',W i m Y' H'->
  (J.stop i H'∧Q (.ref D) H')∨(J.go i H'∧∃N:Ą→Hp→Prop,(∀Y2 H2,N Y2 H2→∃m',m'<m∧W (i+1) m' Y2 H2)∧∀x H2,J.Pk i H' x H2→g x Y' H2 fun Y2 H3=>tt Y2 H3 fun c H4=>
    if c=true then te Y2 H4 λy H5=>∃ys,H5 D=some (.lst ys)/\ys.length<sizeLine/\N Y2 (upd H5 D (.lst (ys ++ [y]))) else N Y2 H4)
section
variable{X:Cx}{elt tg iter:Æ}{ifs:List Æ}{scope:õ}{pos:Pos}{wi:TI}{g:TG}{tt:TT}{te:TE}
theorem fY{env:Env}:∀{names:List (Str×ak)} {x:Str} {k:ak},(k=.cell\/k=.free)->
 (names.map λ(n,k)=>if(k== aq && env.scope.kind== .function && env.kindOf n== some .cell) then(n,dW) else(n,k)).lookup x=some k->(x,aq)∈names\/(x,dW)∈names
 | [],x,k,_,h=>by simp at h
 |(n,q)::r,x,k,hk,h=>by
  have ih:=@fY env r x k hk;rw[Ý] at h;by_cases hx:x=n
  ·subst hx;by_cases hf:q=.free
   ·subst hf;exact .inl ű
   ·have hb:(q== aq)=false:=by simpa using hf
    have e:(if(q== aq && env.scope.kind== .function && env.kindOf x== some .cell)=true then(x,dW) else(x,q))=(x,q):=by rw[hb];rfl
    have h2:=h;simp only[e,ņ,beq_self_eq_true] at h2;have:q=k:=Š h2;rcases hk with hk|hk
    ·rw[this,hk];exact .inr ű
    ·exact absurd (this.trans hk) hf
  ·have hn:(x== n)=false:=by simpa using hx
   have h3:(x,aq)∈r\/(x,dW)∈r:=ih (by
    by_cases c:(q== aq && env.scope.kind== .function && env.kindOf n== some .cell)=true
    ·simp only[c,if_true,ņ,hn] at h;exact h
    ·simp only[c,if_false,jY,ņ,hn] at h;exact h)
   rcases h3 with h3|h3
   ·exact .inl (í _ h3)
   ·exact .inr (í _ h3)
theorem ϑ:∀(names:List (Str×ak)) (n:Nat) (acc:List (Str×À)),Ķ n names acc=Ķ n names []++acc
 | [],_,_=>rfl
 |(x,k)::r,n,acc=>by
  unfold Ķ;split
  ·rw[ϑ r (n+1) ((x,n)::acc),ϑ r (n+1) [(x,n)],bq];rfl
  ·exact ϑ r n acc
theorem fZ:∀(names:List (Str×ak)) (n:Nat) {x:Str} {c:À},(x,c)∈Ķ n names []->(x,dW)∈names
 | [],_,_,_,h=>by simp[Ķ] at h
 |(y,k)::r,n,x,c,h=>by
  unfold Ķ at h;split at h
  ·rename_i hk;rw[ϑ r (n+1) [(y,n)]] at h;rcases Ų.mp h with h|h
   ·exact í _ (fZ r _ h)
   ·have e:(x,c)=(y,n):=by simpa using h
    cases e;rw[beq_iff_eq.mp hk];exact ű
  ·exact í _ (fZ r _ h)
structure Blk(X:Cx)(scope:õ)(n:Nat)(h:Ð)(cl:List (Str×À)):Prop where
 at_:∀x c,cl.lookup x=some c->(X.env.cells.lookup x=some c/\scope.names.lookup x≠some .cell)\/(n<c/\h.IsCell c none/\scope.names.lookup x=some .cell)
 inj:∀x y c,cl.lookup x=some c->cl.lookup y=some c->n<c->x=y
 has:∀x,((x,aq)∈scope.names\/(x,dW)∈scope.names)->∃c,cl.lookup x=some c
def CU{X:Cx}{scope:õ}{n:Nat}{h:Ð}{cl:List (Str×À)}(hcell:∀y∈scope.names,y.2=.cell->scope.names.lookup y.1=some .cell)
 (h1:∀x c,cl.lookup x=some c->X.env.cells.lookup x=some c)(h2:∀y∈scope.names,y.2=.free->∃c,cl.lookup y.1=some c)(lP:∀x c,X.env.cells.lookup x=some c->c<n)
 (ok:CellsOk h (n+1) (Ķ (n+1) scope.names [])):Blk X scope n h (Ķ (n+1) scope.names cl):=by
 have sp:∀x c,(Ķ (n+1) scope.names cl).lookup x=some c->(cl.lookup x=some c/\(Ķ (n+1) scope.names []).lookup x=none)\/(Ķ (n+1) scope.names []).lookup x=some c:=λx c e=>by
  rw[ϑ,List.lookup_append] at e;cases q:(Ķ (n+1) scope.names []).lookup x with
  |none=>rw[q] at e;exact .inl ⟨by simpa using e,rfl⟩
  |some d=>rw[q] at e;exact .inr (by simpa using e)
 refine⟨λx c e=>?_,λx y c e1 e2 hc=>?_,λx hx=>?_⟩
 ·rcases sp x c e with⟨e,q⟩|e
  ·refine .inl ⟨h1 x c e,λz=>?_⟩;obtain⟨d,hd⟩:=kF (sc:=scope) (n:=n+1) z;rw[hd] at q;cases q
  ·have m:=mem_of_lookup e;exact .inr ⟨(ok.empty x c m).2,(ok.empty x c m).1,hcell _ (fZ _ _ m) rfl⟩
 ·have nw:∀z,(Ķ (n+1) scope.names cl).lookup z=some c→(Ķ (n+1) scope.names []).lookup z=some c:=fun z e=>by
   rcases sp z c e with⟨e,q⟩|e
   ·exact absurd (lP z c (h1 z c e)) (Nat.lt_asymm hc)
   ·exact e
  exact name_of_addr ok.apart (mem_of_lookup (nw x e1)) (mem_of_lookup (nw y e2))
 ·rw[ϑ,List.lookup_append];rcases hx with hx|hx
  ·obtain⟨c,hc⟩:=h2 _ hx rfl;cases q:(Ķ (n+1) scope.names []).lookup x with
   |none=>exact⟨c,by simpa using hc⟩
   |some d=>exact⟨d,rfl⟩
  ·obtain⟨d,hd⟩:=kF (sc:=scope) (n:=n+1) (hcell _ hx rfl);rw[hd];exact⟨d,rfl⟩
def jk{M:cC}{A:à}{E:Á->Â->Prop}{s:Â}{scope:õ}{globals:À}{Bb:List (Str×À)}{ý:Str}
 {func:Option À}{code:Á}{env0:Env}{builtins:À}{Q:Env->Â->Prop}
 (hQ:∀h',h'.Ns s.heap.objs.size (fun _=>none)→(∀b o,s.heap.get? b=some o→h'.get? b=some o)→CellsOk h' (s.heap.objs.size+1) (Ķ (s.heap.objs.size+1) scope.names [])→
   Q (newEnv scope s.heap.objs.size globals (Ķ (s.heap.objs.size+1) scope.names Bb) ý func code (some env0) builtins) {s with heap:=h'}) :
 Î M A (newFunctionEnv scope globals Bb [] ý func code (some env0) builtins) Q E s:=by
 simp only[newFunctionEnv,Option.isSome_some,if_true];refine Ë (wpAny_alloc ?_);refine Ë (wpAny_layCells _ (λname kind cells=>by cases hkc:kind== dW<;>simp[hkc]) _ _ _ _ ?_);have ok:=cellsFrom_ok scope.names (s.heap.push {cls:=.type "dict",data:=.dict #[]}) (s.heap.objs.size+1) [] ⟨λ_ _ hm=>(nomatch hm),zt⟩ (by rw[bC];exact î _);rw[bC] at ok;rw[show({s with heap:=s.heap.push {cls:=.type "dict",data:=.dict #[]}}:Â).heap.objs.size=s.heap.objs.size+1 from bC ..];refine Ë ?_;rw[List.forIn_nil];exact â (â (hQ _ ((Heap.Ns.new s.heap (.type "dict")).keeps (pushCells_keeps _ _)) (λb o e=>pushCells_keeps _ _ b o (ö _ e)) ok))
theorem kJ{env:Env}:∀{names:List (Str×ak)} {x:Str},names.lookup x=some .free->
 ¬(names.map λ(n,k)=>if(k== aq && env.scope.kind== .function && env.kindOf n== some .cell) then(n,dW) else(n,k)).lookup x=some .local
 | [],x,h=>by simp at h
 |(n,q)::r,x,h=>by
  intro h2;rw[Ý] at h2;rw[ņ] at h;cases hx:x== n with
  |true=>
   rw[hx] at h;cases h;by_cases c:(aq== aq && env.scope.kind== .function && env.kindOf n== some .cell)=true
   ·simp only[c,if_true,ņ,hx] at h2;cases h2
   ·simp only[c,if_false,jY,ņ,hx] at h2;cases h2
  |false=>
   rw[hx] at h;have ih:=kJ (env:=env) h;by_cases c:(q== aq && env.scope.kind== .function && env.kindOf n== some .cell)=true
   ·simp only[c,if_true,ņ,hx] at h2;exact ih h2
   ·simp only[c,if_false,jY,ņ,hx] at h2;exact ih h2
def rz{Ã:List (À×Obj)}{Y:Ą}{H:Hp}{s:Â}{N':List Str}{js:List Nat}{nl:Nat}{sc:õ}{cl:List (Str×À)}{fp:List À}{h':Ð}{tk:Nat}
 (Bc:X.env.scope=sc)(hk:scope.kind=.function)(hcap:jj X sc scope N' js)(hlen:js.length+nl=N'.length)(B:Blk X scope s.heap.objs.size h' cl)
 (I:Inv X Ã Y H s)(hf:∀b∈fp,je X Ã H b)(lP:∀b∈fp,b<s.heap.objs.size)
 (hn:h'.Ns s.heap.objs.size (λ_=>none))(kp:∀b o,s.heap.get? b=some o->h'.get? b=some o) :
 Inv (dH X N' scope cl s.heap.objs.size s H fp) [] (gR js nl Y) H {s with heap:=h',toks:=tk}:=by
 have CV:∀x,((dH X N' scope cl s.heap.objs.size s H fp).env.kindOf x=some .cell\/(dH X N' scope cl s.heap.objs.size s H fp).env.kindOf x=some .free)->∃c,cl.lookup x=some c:=λx hx=>by
  rcases hx with hx|hx
  ·exact B.has x (fY (.inl rfl) hx)
  ·exact B.has x (fY (.inr rfl) hx)
 have lt:∀x c,X.env.cells.lookup x=some c->c<s.heap.objs.size:=λx c e=>by obtain⟨v,o,ho,_⟩:=I.cell x c e;exact ñ ho
 have inj:∀x y c,cl.lookup x=some c->cl.lookup y=some c->x=y:=λx y c e1 e2=>by
  rcases B.at_ x c e1 with⟨q1,_⟩|⟨q1,_⟩
  ·rcases B.at_ y c e2 with⟨q2,_⟩|⟨q2,_⟩
   ·exact I.ok.inj x y c q1 q2
   ·exact absurd (lt x c q1) (Nat.lt_asymm q2)
  ·exact B.inj x y c e1 e2 q1
 refine⟨⟨I.ok.mod,hk,I.ok.glob,I.ok.blt,î _,inj,CV,λx c z e=>by
  rcases B.at_ x c e with⟨_,q⟩|⟨q,_⟩
  ·exact absurd (beq_iff_eq.mp z) q
  ·exact kh q,I.ok.hd,I.ok.frames,.inl rfl,λb hb=>⟨ħ (lP b hb),λx c e=>by
  rcases B.at_ x c e with⟨q,_⟩|⟨q,_⟩
  ·exact(hf b hb).2.2.2.2.1 x c q
  ·exact bt (sO (lP b hb) q)⟩,
  I.bs,ϲ I.ok.zY I.sz,fun b o e hb=>?_,fun b hb hz=>?_,I.stack,I.nN,I.tb⟩,rfl,I.bare,Un.kept kp,⟨_,hn,fun i x v e1 e2 e3=>?_⟩,fun x c e=>?_,I.hok.fresh (î _),fun x c e=>by
    rcases B.at_ x c e with⟨q,_⟩|⟨q,_⟩
    ·exact I.bX x c q
    ·exact I.hok.fresh (kh q),λp hp=>?_,I.hok.kept kp,?_⟩
 ·rcases(hf b hb).2.2.2.1 with z|z
  ·exact I.ok.ut b o e z
  ·exact absurd (ŕ (ñ e) (ϲ I.ok.zY z)) (ϱ _)
 ·rcases Č.mp (I.oa b hz) with z|z
  ·exact(hf b hb).2.1 z
  ·exact(hf b hb).2.2.1 z
 ·obtain⟨j,q1,q2,q0,q3⟩:=ro hcap e1 e2;obtain⟨m,hm,hl⟩:=I.loc;have Ut:Bi X.env.scope x:=by
   rw[Bc];rcases q3 with q3|q3
   ·exact .inr (.inl q3)
   ·exact .inr (.inr q3)
  obtain⟨u,ru,lk⟩:=hl j x v q1 q2 Ut;refine⟨u,ru,?_⟩;rcases lk with⟨k1,_⟩|⟨k1,c,hc,ic⟩
  ·exfalso;have k1':sc.names.lookup x=some .local:=by rw[<-Bc];exact k1
   rcases q3 with q3|q3<;>(rw[k1'] at q3;cases q3)
  ·have e3':(dH X N' scope cl s.heap.objs.size s H fp).env.kindOf x=some .local\/(dH X N' scope cl s.heap.objs.size s H fp).env.kindOf x=some .cell\/(dH X N' scope cl s.heap.objs.size s H fp).env.kindOf x=some .free:=e3;rcases e3' with z|z
   ·exact absurd z (kJ (env:=X.env) q0)
   ·obtain⟨d,hd⟩:=CV x z;have:d=c:=by
     rcases B.at_ x d hd with⟨q,_⟩|⟨_,_,q⟩
     ·rw[hc] at q;exact(Š q).symm
     ·rw[q0] at q;cases q
    subst this;exact .inr ⟨z,d,hd,by
     obtain⟨o,ho,KC⟩:=ic;exact⟨o,kp _ _ ho,KC⟩⟩
 ·rcases B.at_ x c e with⟨q,_⟩|⟨_,q,_⟩
  ·obtain⟨v,o,ho,hd⟩:=I.cell x c q;exact⟨v,o,kp _ _ ho,hd⟩
  ·exact⟨none,q⟩
 ·exact absurd hp (by simp[dH])
 ·show _=N'.length;rw[<-hlen];simp[gR]
def oB{Ã:List (À×Obj)}{Y Y':Ą}{H H':Hp}{s s':Â}{N':List Str}{cl:List (Str×À)}{fp:List À}{h':Ð}(I:Inv X Ã Y H s)(hf:∀b∈fp,je X Ã H b)
 (J:Inv (dH X N' scope cl s.heap.objs.size s H fp) [] Y' H' s')(kp:∀b u,b≠s.heap.objs.size->s'.heap.get? b=some u->h'.get? b=some u):Inv X Ã Y H' {s' with heap:=h'}:=by
 have ne:∀{b:À} {o:Obj},s.heap.get? b=some o->b≠s.heap.objs.size:=λe=>ħ (ñ e);have u:=J.base;refine I.call' (ch:=fp) J.os ⟨λb o e n hb hx=>kp b o (ne e) (u.keep b o e n hb hx),λb o e n hb hx=>?_,λb o e n hx=>u.free b o e n hx,λb o e hx=>?_,u.tups,u.eI,u.c_⟩ (Ai J.hok J.free kp) J.bare λb hb=>?_
 ·obtain⟨sl,q⟩:=u.slot b o e n hb hx;exact⟨sl,kp b _ (ne e) q⟩
 ·obtain⟨o',q⟩:=u.there b o e hx;exact⟨o',kp b _ (ne e) q⟩
 ·exact⟨(hf b hb).2.2.2.1,(hf b hb).2.1,(hf b hb).2.2.2.2.1,(hf b hb).2.2.2.2.2⟩
def Ak(N':List Str)(js:List Nat)(nl:Nat)(sc:õ)(Bc:X.env.scope=sc)(hcalm:X.calm=true)
 (hi:PI X.Ŭ tg iter wi)(hg:∀cl C s H fp,PG (dH X.Ŭ N' scope cl C s H fp) tg g)(ht:∀cl C s H fp,Bs (dH X.Ŭ N' scope cl C s H fp) ifs tt)(he:∀cl C s H fp,PE (dH X.Ŭ N' scope cl C s H fp) elt te)
 (hcap:jj X.Ŭ sc scope N' js)(hlen:js.length+nl=N'.length:=by rfl)
 (hk:scope.kind=.function:=by rfl)(hcell:∀y∈scope.names,y.2=.cell->scope.names.lookup y.1=some .cell:=by decide +kernel)(hnames:∀y∈scope.names,y.2=.local->scope.names.lookup y.1=some .local:=by decide +kernel)
 (hfree:∀y∈scope.names,y.2=.free->(sc.names.lookup y.1=some .cell\/sc.names.lookup y.1=some .free):=by decide +kernel)
 (hs:∀x,bA iter X.env x=ç x:=by intro _;rfl) :
 PE X.Ŭ (.ListComp elt [⟨tg,iter,ifs,0⟩] scope pos) (Aj js nl wi g tt te):=by
 intro Ã s Y H Q I h;obtain⟨PM,c1,c2,c3⟩:=kH (scope:=scope) (env:=X.Ŭ.env) λy hy hf=>I.ok.has y.1 (by
  have:=hfree y hy hf;rw[<-Bc] at this;exact this)
 rw[eval_ListComp];refine zA (use:=none) rfl hs c1 hk hnames (ŝ (hi Ã s Y H _ I h) λv s1 h1=>ŝ h1 λTM s2 h2=>?_);obtain⟨it,fp,tn,J,H2,e,I2,T,A9,f2,q2⟩:=h2;subst e;refine sY (jk (λh₁ zb jW LD=>?_));dsimp only at zb jW LD ⊢;generalize LF:s2.heap.push {cls:=.type "list",dict:=none,data:=.seq ([]:List Á).toArray}=cR at zb jW LD ⊢;have hD:H2 s2.heap.objs.size=none:=I2.hok.fresh (î _);have I3:Inv X.Ŭ Ã Y (upd H2 s2.heap.objs.size (.lst [])) {s2 with heap:=cR}:=by rw[<-LF];exact I2.laid (t':=s2.toks) (λb u e=>ö _ e) (î _) ⟨ϳ _,[],0,.nil,Ŀ _ rfl⟩
 have F7:∀b∈fp,b<s2.heap.objs.size:=λb hb=>by obtain⟨o,ho,_⟩:=T.obj 0 _ A9 b hb;exact ñ ho
 have LG:cR.objs.size=s2.heap.objs.size+1:=by rw[<-LF,bC]
 have f3:∀b∈fp,je X.Ŭ Ã (upd H2 s2.heap.objs.size (.lst [])) b:=λb hb=>by obtain⟨g0,g1⟩:=f2 b hb;exact⟨by rw[Ú (ħ (F7 b hb))];exact g0,g1⟩
 have B:=CU (X:=X.Ŭ) (cl:=PM) hcell c2 c3 (λx c e=>by obtain⟨v,o,ho,_⟩:=I3.cell x c e;exact ñ ho) LD;generalize Ķ (cR.objs.size+1) scope.names PM=cl at B ⊢;obtain⟨W,⟨m0,w0⟩,turn⟩:=q2 s2.heap.objs.size hD;have I4:=rz (X:=X.Ŭ) (N':=N') (js:=js) (nl:=nl) (sc:=sc) (scope:=scope) (cl:=cl) (fp:=fp) (h':=h₁) (tk:=s2.toks) Bc hk hcap hlen B I3 f3 (λb hb=>by show b<cR.objs.size;rw[LG];exact iw (F7 b hb)) zb jW;have PN:tn 0 h₁:= T.keep 0 _ _ A9 λb hb o e=>jW b o (by rw[<-LF];exact ö _ e);have Uu:∀b∈fp,(upd H2 s2.heap.objs.size (.lst [])) b=none:=λb hb=>(f3 b hb).1;have stat:∀{H':Hp},(∀b∈fp,H' b=none)->∀b∈fp,je (dH X.Ŭ N' scope cl cR.objs.size {s2 with heap:=cR} (upd H2 s2.heap.objs.size (.lst [])) fp) [] H' b:=fun{H'} hn b hb=>by
  obtain⟨g0,g1,g2,g3,g4,g5⟩:=f3 b hb;refine⟨hn b hb,ħ (by show b<cR.objs.size;rw[LG];exact iw (F7 b hb)),λz=>?_,.inl hb,λx c e=>by
   rcases B.at_ x c e with⟨q,_⟩|⟨q,_⟩
   ·exact g4 x c q
   ·exact bt (sO (by show b<cR.objs.size;rw[LG];exact iw (F7 b hb)) q),λp hp=>absurd hp (by simp[dH])⟩
  rcases Č.mp (I3.oa b z) with z|z
  ·exact g1 z
  ·exact g2 z
 have loop:∀s₃:Â,s₃= {s2 with heap:=h₁}->
  Ϝ (Ì X.prog X.w) X.A (.compLoop (.ListComp elt [⟨tg,iter,ifs,0⟩] scope pos) 0 (.ref it) (.ref s2.heap.objs.size) (compEnvC scope cl cR.objs.size X.Ŭ.env))
   (compPost (Ì X.prog X.w) X.A X.Ŭ.xe none (EP X.Ŭ Ã Y Q) (.ref s2.heap.objs.size) cR.objs.size) s₃:= by
  rintro s₃ rfl;refine kI (λn s'=>∃i Y' H',Inv (dH X.Ŭ N' scope cl cR.objs.size {s2 with heap:=cR} (upd H2 s2.heap.objs.size (.lst [])) fp) [] Y' H' s'/\tn i s'.heap/\(∀b∈fp,H' b=none)/\W i n Y' H') ?_ m0 ⟨0,_,_,I4,PN,Uu,w0⟩;rintro n s5 ⟨i,Y5,H5,I5,FH,K7,w5⟩;rcases turn i n Y5 H5 w5 with⟨stop,qn⟩|⟨go,N,hN,step⟩
  ·refine ŝ (T.done (dH X.Ŭ N' scope cl cR.objs.size {s2 with heap:=cR} (upd H2 s2.heap.objs.size (.lst [])) fp) rfl rfl rfl hcalm i [] s5 Y5 H5 (λ_ _=>False) I5 (stat K7) FH stop) λr s6 ⟨hr,I6⟩=>?_;subst hr;obtain⟨m,hm,_⟩:=I6.loc;refine⟨m,hm,λh' RW=>⟨.ref s2.heap.objs.size,H5,oB I3 f3 I6 (λb u hb e=>RW.extBut b u hb e),rfl,qn⟩⟩
  ·refine ŝ (T.item (dH X.Ŭ N' scope cl cR.objs.size {s2 with heap:=cR} (upd H2 s2.heap.objs.size (.lst [])) fp) rfl rfl rfl hcalm i [] s5 Y5 H5 (λ_ _=>False) I5 (stat K7) FH go) λr s6 ⟨u,hr,h6⟩=>?_;subst hr;refine ŝ h6 λ_ s7 ⟨x,H7,I7,r7,y7,LH,Uv⟩=>?_;have Uw:=I7.pinned (stat Uv) (T.obj _ _ LH);have again:∀{s8:Â} {Y8:Ą} {H8:Hp},Inv (dH X.Ŭ N' scope cl cR.objs.size {s2 with heap:=cR} (upd H2 s2.heap.objs.size (.lst [])) fp) ([]++lx fp s7.heap) Y8 H8 s8->
    Inv (dH X.Ŭ N' scope cl cR.objs.size {s2 with heap:=cR} (upd H2 s2.heap.objs.size (.lst [])) fp) [] Y8 H8 s8/\tn (i+1) s8.heap/\∀b∈fp,H8 b=none:=fun{s8 Y8 H8} I8=>by
    refine⟨I8.gM,T.keep _ _ _ LH λb hb o e=>(I8.pin (b,o) (Ϙ _ (Ϙ _ (bc hb e)))).1,λb hb=>?_⟩;obtain⟨o,e,d⟩:=T.obj _ _ LH b hb;exact(I8.pin (b,o) (Ϙ _ (Ϙ _ (bc hb e)))).2.1
   refine ŝ (hg cl _ _ _ fp _ s7 Y5 H7 x u _ Uw r7 (step x H7 y7)) λ_ s8 ⟨Y8,H8,I8,q8⟩=>?_;refine ŝ (ht cl _ _ _ fp _ s8 Y8 H8 _ I8 q8) λc s9 ⟨H9,I9,q9⟩=>?_;cases c with
   |false=>rw[if_neg ϖ] at q9 ⊢;obtain⟨m',OC,w9⟩:=hN _ _ q9;obtain⟨a1,a2,a3⟩:=again I9;exact⟨m',OC,i+1,Y8,H9,a1,a2,a3,w9⟩
   |true=>rw[if_pos rfl] at q9 ⊢;refine ŝ (he cl _ _ _ fp _ s9 Y8 H9 _ I9 q9) λyv Ux ⟨y,Uy,Uz,WV,ys,WW,WX,WY⟩=>?_;refine ŝ (Ő _ Ux Y8 Uy (.ref s2.heap.objs.size) [y] (.ref s2.heap.objs.size) [yv] (λ_ LI=>N Y8 LI) Uz rfl (.cons WV .nil) ⟨_,ys,y,rfl,rfl,WW,WX,WY⟩) λ_ s11 ⟨v11,LI,UA,_,OD⟩=>?_;obtain⟨a1,a2,a3⟩:=again UA;obtain⟨m',OC,OD⟩:=hN _ _ OD;exact⟨m',OC,i+1,Y8,LI,a1,a2,a3,OD⟩
 exact codeAny_compStart_list (loop _ rfl) (T.self _ 0 _ _ _ PN (loop _ rfl))
end
def Its(z:Str):It:=⟨λi _=>i<z.cps.size,λi H x H'=>H'=H/\∃c,z.cps.toList[i]?=some c/\x=.str ⟨#[c]⟩,λi _=>i=z.cps.size⟩
def Bt{P:Þ}{w:Ø}{K:É}{tg:Æ}(it:À)(z:Str)(t:Tok)(ty:String)
 (hW:∀A:à,A.handled=none->Walks P w A it [it] [it] z.cps.size (SignAt z) (λi h=>h.IsStrIter it ty z t i))
 (hS:∀(A:à) (i:Nat) (s:Â) (Q:Á->Â->Prop) (E:Á->Â->Prop),s.heap.IsStrIter it ty z t i->Q (.ref it) s->Î (Ì P w) A (pyIter (.ref it)) Q E s)
 (ik:["enumerate","zip","dict_itemiterator","dict_reverseitemiterator","odict_iterator","itertools.zip_longest","itertools.pairwise"].contains ty=false):BZ P w K tg (Its z) [it] it (λi h=>h.IsStrIter it ty z t i) where
 mem:=by simp
 obj:=λi h st b hb=>by
  have e:b=it:=by simpa using hb
  subst e;obtain⟨o,e,c,d⟩:=st;exact⟨o,e,λv z=>by rw[d] at z;cases z⟩
 keep:=λi h h' st k=>by obtain⟨o,e,c,d⟩:=st;exact⟨o,k it (by simp) o e,c,d⟩
 item:=by intro X hP hw hK hc i Ã s Y H E I hf st hg;subst hP hw hK;obtain⟨f0,f1,f2,f3,f4,f5⟩:=hf it (by simp);refine(hW X.A (I.ok.hd hc)).item i s _ _ hg st λv h' tk hv Fc kk=>?_;obtain⟨c,u,hcu,rfl⟩:=hv;have I1:Inv X Ã Y H {s with heap:=h',toks:=tk}:=I.turned (λb o hb e=>kk b o (by simpa using hb) e) f0 f1 f3 f4 f5;obtain⟨o,e,cl,d⟩:=id Fc;exact⟨_,rfl,Aa (s:={s with heap:=h',toks:=tk}) e cl d ik ⟨.str ⟨#[c]⟩,H,I1,⟨u,rfl⟩,⟨rfl,c,by simpa using hcu,rfl⟩,Fc,λb hb=>(hf b hb).1⟩⟩
 done:=by intro X hP hw hK hc i Ã s Y H E I hf st hg;subst hP hw hK;obtain⟨f0,f1,f2,f3,f4,f5⟩:=hf it (by simp);have e:i=z.cps.size:=hg;subst e;exact(hW X.A (I.ok.hd hc)).done s _ _ st λh' tk kk=>⟨rfl,I.turned (λb o hb e=>kk b o (by simpa using hb) e) f0 f1 f3 f4 f5⟩
 self:=hS
section
end
end M3
namespace M4
open PySem PySem.Spec PyProof.Rows L2 M2 M3
section
variable{X:Cx}
def Al{bs:List Bool}:∀{us:List Á},ĭ (bs.map V.bl) us->us=bs.map ŉ:=by
 induction bs with
 |nil=>intro us r;rw[Ľ] at r;cases r;rfl
 |cons b bs ih=>
  intro us r;rw[Ý] at r;cases r with
  |cons r1 r2=>cases r1;rw[ih r2];rfl
def all_range(bs:List Bool):(ġ (bs.map ŉ).toArray.size).all (λi=>bs.getD i false)=bs.all id:=by
 have e:(bs.map ŉ).toArray.size=bs.length:=by simp
 rw[e,jZ];simp only[aH,cr,id];constructor
 ·intro h b hb;obtain⟨i,hi,rfl⟩:=zl.mp hb;have:=h i hi;rw[ka,ž hi] at this;exact this
 ·intro h i hi;rw[ka,ž hi];exact h _ (ng hi)
def any_range(bs:List Bool):(ġ (bs.map ŉ).toArray.size).any (λi=>bs.getD i false)=bs.any id:=by
 have e:(bs.map ŉ).toArray.size=bs.length:=by simp
 rw[e,jZ];simp only[List.any_eq_true,cr,id];constructor
 ·rintro ⟨i,hi,h⟩;rw[ka,ž hi] at h;exact⟨_,ng hi,h⟩
 ·rintro ⟨b,hb,h⟩;obtain⟨i,hi,rfl⟩:=zl.mp hb;exact⟨i,hi,by rw[ka,ž hi];exact h⟩
def lQ{prog:Þ}{w:Ø}{A:à}(bs:List Bool):TruthOf prog w A (λi v=>(bs.map ŉ).toArray[i]?=some v) (λi=>bs.getD i false):=by
 intro i v s Q E hv hq;have Hh:bs[i]?.map ŉ=some v:=by rw[<-Ņ];simpa using hv
 cases hb:bs[i]? with
 |none=>rw[hb] at Hh;cases Hh
 |some b=>rw[hb] at Hh;cases Hh;dsimp only at hq;rw[ka,hb] at hq;exact cF hq
def LJ(K:É):List V->Hp->VK->Prop:=λxs H Q=>match xs with
 | [.ref p]=>∃bs:List Bool,ϒ K H p (bs.map V.bl)/\Q (.bl (bs.all id)) H
 |_=>False
def LK(K:É):List V->Hp->VK->Prop:=λxs H Q=>match xs with
 | [.ref p]=>∃bs:List Bool,ϒ K H p (bs.map V.bl)/\Q (.bl (bs.any id)) H
 |_=>False
def oE(hc:X.calm=true):Ŝ X (.builtin "all") (LJ X.K):=by
 intro Ã s Y H xs us Q I r h;unfold LJ at h;split at h
 ·rename_i p;obtain⟨bs,hS,q⟩:=h;obtain⟨u,rfl,ru⟩:=vals1 r;cases ru;obtain⟨ě,rv,pl,hz⟩:=I.list hS;have e:=Al rv;subst e;have hp:p≠s.heap.objs.size:=by
   obtain⟨o,n,e,_⟩:=pl;exact ħ (ñ e)
  refine call_all_walk (iE pl.isList ?_);refine⟨s.heap.objs.size,_,_,_,_,_,_,rfl,Walks.list (A:=X.A.in1) (show X.A.in1.handled=none from I.ok.hd hc) s.heap.objs.size p hp (bs.map ŉ).toArray,⟨⟨_,Ŀ _ rfl,rfl,rfl⟩,pl.isList.at λo e=>ö _ e⟩,lQ bs,λh' tk k=>?_⟩;rw[all_range];exact⟨.bl _,H,I.kept λb o e=>k b o (by simpa using ħ (ñ e)) (ö _ e),rfl,q⟩
 ·exact h.elim
def LM(hc:X.calm=true):Ŝ X (.builtin "any") (LK X.K):=by
 intro Ã s Y H xs us Q I r h;unfold LK at h;split at h
 ·rename_i p;obtain⟨bs,hS,q⟩:=h;obtain⟨u,rfl,ru⟩:=vals1 r;cases ru;obtain⟨ě,rv,pl,hz⟩:=I.list hS;have e:=Al rv;subst e;have hp:p≠s.heap.objs.size:=by
   obtain⟨o,n,e,_⟩:=pl;exact ħ (ñ e)
  refine call_any_walk (iE pl.isList ?_);refine⟨s.heap.objs.size,_,_,_,_,_,_,rfl,Walks.list (A:=X.A.in1) (show X.A.in1.handled=none from I.ok.hd hc) s.heap.objs.size p hp (bs.map ŉ).toArray,⟨⟨_,Ŀ _ rfl,rfl,rfl⟩,pl.isList.at λo e=>ö _ e⟩,lQ bs,λh' tk k=>?_⟩;rw[any_range];exact⟨.bl _,H,I.kept λb o e=>k b o (by simpa using ħ (ñ e)) (ö _ e),rfl,q⟩
 ·exact h.elim
end
noncomputable abbrev S(l:List Nat):Str:=⟨l.toArray⟩
def LO(z:Str):S z.cps.toList=z:=by cases z;simp
def HC(l:List Nat):(S l).length=l.length:=by simp[ar]
def lR(z:Str):z.cps.toList.length=z.length:=by simp[ar]
def HE(a b:List Nat):S a++S b=S (a++b):=by refine zv ?_;rw[PySem.W.KT.app_list]
def uH(xs:List Nat)(lo hi:Option Int):List Nat:=(xs.drop (HT.iR xs.length 0 lo)).take (HT.iR xs.length xs.length hi-HT.iR xs.length 0 lo)
def Fi(z:Str)(lo hi:Option Int):iJ lo hi 1 z.length=(ġ (HT.iR z.length z.length hi-HT.iR z.length 0 lo)).map (HT.iR z.length 0 lo + ·):=by
 have hc:∀(o:Option Int) (d:Nat),d<=z.length->(match o with|none=>((d:Nat):Int)|some i=>max 0 (min (if i<0 then i+(z.length:Int) else i) (z.length:Int)))=((HT.iR z.length d o:Nat):Int):=by
  intro o d hd;cases o with
  |none=>rfl
  |some i=>
   show max 0 (min (if i<0 then i+(z.length:Int) else i) (z.length:Int))=((if i<0 then(i+(z.length:Int)).toNat else min i.toNat z.length:Nat):Int);by_cases h:i<0
   ·rw[if_pos h,if_pos h];lia
   ·rw[if_neg h,if_neg h];lia
 have e:iJ lo hi 1 z.length=sliceRange ((HT.iR z.length 0 lo:Nat):Int) ((HT.iR z.length z.length hi:Nat):Int) 1:=by have h1:=hc lo 0 (ϳ _);have h2:=hc hi z.length (î _);unfold iJ;simp only[show(1:Int)>0 by decide,if_true];rw[<-h1,<-h2];cases lo<;>cases hi<;>rfl
 rw[e,sliceRange_one]
def F8(z:Str)(lo hi:Option Int):(iJ lo hi 1 z.length).filterMap (z.cps[·]?)=uH z.cps.toList lo hi:=by rw[Fi,pick_run];unfold uH;rw[lR]
def F9(xs:List Nat)(lo hi:Option Int):(uH xs lo hi).length<=xs.length:=by unfold uH;rw[nb,List.length_drop];lia
def CW{z:Str}{t:Tok}{l u:Option (Int×Tok)}{Q:Á->Â->Prop}{s:Â}(hz:z.length<=sizeLine)
 (h:∀t' k,Q (.str (S (uH z.cps.toList (l.map (·.1)) (u.map (·.1)))) t') {s with toks:=k}):(sliceMade z t l u none).post Q s:=by
 have e:=F8 z (l.map (·.1)) (u.map (·.1));unfold sliceMade;have ep:slicePicked z l u none=iJ (l.map (·.1)) (u.map (·.1)) 1 z.length:=rfl;rw[ep];split
 ·rename_i hc;have hl:(iJ (l.map (·.1)) (u.map (·.1)) 1 z.length).length=z.length:=by simpa using hc
  have Hm:uH z.cps.toList (l.map (·.1)) (u.map (·.1))=z.cps.toList:=by
   rw[Fi,ď,List.length_range] at hl;have hi:=HT.CB z.length 0 (ϳ _) (l.map (·.1));have hj:=HT.CB z.length z.length (î _) (u.map (·.1));unfold uH;rw[lR];have Fg:=lR z;have a0:HT.iR z.length 0 (l.map (·.1))=0\/z.length=0:=by lia
   rcases a0 with a0|a0
   ·rw[a0] at hl ⊢;rw[nh];exact fv (by lia)
   ·have:z.cps.toList=[]:=zm (by lia);rw[this];simp
  have:=h t s.toks;rw[Hm,LO] at this;exact this
 ·rw[e];exact⟨by rw[HC];have:=F9 z.cps.toList (l.map (·.1)) (u.map (·.1));rw[lR] at this;lia,h _ _⟩
section
variable{X:Cx}
def UB:V->Option Int->Option Int->Hp->VK->Prop:=λx lo hi H Q=>match x with
 | .str z=>z.length<=sizeLine/\Q (.str (S (uH z.cps.toList lo hi))) H
 |_=>False
def Ga:Ae X UB:=by
 intro Ã s Y H x v vl vu lo hi sl Q I rx hs pl pu h;cases x with
 |str z=>
  obtain⟨t,rfl⟩:=rx;obtain⟨hz,q⟩:=h;obtain⟨l,el,el2⟩:∃l:Option (Int×Tok),partValue l=vl/\l.map (·.1)=lo:=by
   cases pl with
   |none=>exact⟨none,rfl,rfl⟩
   |int i t=>exact⟨some (i,t),rfl,rfl⟩
  obtain⟨u,eu,eu2⟩:∃u:Option (Int×Tok),partValue u=vu/\u.map (·.1)=hi:=by
   cases pu with
   |none=>exact⟨none,rfl,rfl⟩
   |int i t=>exact⟨some (i,t),rfl,rfl⟩
  subst el el2 eu eu2;exact⟨"str",_,F.slot_str_getitem.lookup,iB s z t,wpAny_getItem_str_slice (l:=l) (u:=u) (st:=none) hs rfl (CW hz λt' k=>⟨.str _,H,I.tok _,⟨_,rfl⟩,q⟩)⟩
 |_=>exact h.elim
def UC(K:É):V->Option Int->Option Int->Hp->VK->Prop:=λx lo hi H Q=>match x with
 | .ref a=>∃xs,ϒ K H a xs/\∀p,H p=none->Q (.ref p) (upd H p (.lst (wl xs lo hi)))
 | .str z=>z.length<=sizeLine/\Q (.str (S (uH z.cps.toList lo hi))) H
 |_=>False
def slm:Ae X (UC X.K):=Ae.wk (CQ.or Ga) λx lo hi H Q h=>by
 cases x with
 |ref a=>exact .inl h
 |str z=>exact .inr h
 |_=>exact h.elim
def Bu(z y:Str):Txt.startswith z y=decide (z.cps.toList.take y.cps.toList.length=y.cps.toList):=by
 unfold Txt.startswith;rw[StrLaws.subAt_eq,nh,lR,jZ];simp only[ē,decide_eq_true_eq,beq_iff_eq];constructor
 ·exact λh=>h.2
 ·intro h;refine⟨?_,h⟩;have h2:=congrArg aF h;rw[nb,lR,lR] at h2;lia
def uI:V->List V->Hp->VK->Prop:=λx vs H Q=>match x,vs with
 | .str z,[.str y]=>Q (.bl (decide (z.cps.toList.take y.cps.toList.length=y.cps.toList))) H
 |_,_=>False
def rC:OQ X "str.startswith" uI:=by
 intro Ã s Y H x xs v us Q I rx rs h;unfold uI at h;split at h
 ·obtain⟨t,rfl⟩:=rx;obtain⟨u,rfl,t',rfl⟩:=vals1 rs;exact SC.startswith ⟨.bl _,H,I,rfl,by rw[Bu];exact h⟩
 ·exact h.elim
def OE(z:Str){n:Int}(h:0<=n):Txt.mul z n=S (Ê n.toNat z.cps.toList).flatten:=by
 have Ce:∀(k:Nat) (acc:Array Nat),((Ê k z.cps).foldl (·++ ·) acc).toList=acc.toList++(Ê k z.cps.toList).flatten:=by
  intro k
  induction k with
  |zero=>intro acc;simp
  |succ k ih=>intro acc;rw[aj,List.foldl_cons,ih,aj,cx];simp
 unfold Txt.mul;refine zv ?_;by_cases h1:n<1
 ·rw[if_pos h1];have:n.toNat=0:=by lia
  rw[this];simp[dX]
 ·rw[if_neg h1];split
  ·rename_i hc;rw[sw] at hc;rcases hc with hc|hc
   ·have:n=1:=by simpa using hc
    subst this;simp
   ·have h0:z.cps.toList=[]:=zm (by rw[lR];simpa using hc);rw[h0];simp
  ·rw[Ce];simp
def CY(z:Str)(n:Int):Prop:=0<=n/\n<=1000/\z.length<=1000
def CY.ok{z:Str}{n:Int}(h:CY z n):MulOk z n:=by
 obtain⟨h0,h1,h2⟩:=h;refine⟨?_,λhn _=>?_,λhn _=>?_⟩
 ·rw[decide_eq_false (by lia),decide_eq_false (by lia)];rfl
 ·have:(9000000000000000:Int)≤(2 ^ 63-1) / n:=by
   rw[Int.le_ediv_iff_mul_le (by lia)];lia
  lia
 ·have:z.length*n.toNat<=1000*1000:=cz h2 (by lia);unfold Builtin.Str.tooLong;simp;rw[ϛ];lia
def CZ:R2:=λx y H Q=>match x,y with
 | .int i,.int j=>rn i j/\Q (.int (i*j)) H
 | .str z,.int n=>CY z n/\Q (.str (S (Ê n.toNat z.cps.toList).flatten)) H
 |_,_=>False
def Gb:aD X (ŋ .Mult) CZ:=by
 intro Ã s Y H x y v u Q I rx ry h;unfold CZ at h;split at h
 ·exact Lz Ã s Y H _ _ v u Q I rx ry h
 ·obtain⟨t,rfl⟩:=rx;obtain⟨t',rfl⟩:=ry;exact SB.mul h.1.ok λt' k=>⟨.str _,H,I.tok _,⟨_,by rw[OE _ h.1.1]⟩,h.2⟩
 ·exact h.elim
def İ(sep:List Nat):List (List Nat)->List Nat
 | []=>[]
 | [x]=>x
 |x::y::r=>x++sep++İ sep (y::r)
theorem Bd(sep:Str):∀ys:List (List Nat),Str.join sep (ys.map S)=S (İ sep.cps.toList ys)
 | []=>rfl
 | [x]=>rfl
 |x::y::r=>by have ih:=Bd sep (y::r);show S x++sep++Str.join sep ((y::r).map S)=_;have e:İ sep.cps.toList (x::y::r)=x++sep.cps.toList++İ sep.cps.toList (y::r):=rfl;rw[ih,e,<-HE,<-HE,LO]
def Gc{ys:List (List Nat)}:∀{us:List Á},ĭ (ys.map λl=>V.str (S l)) us->StrsAre us (ys.map S):=by
 induction ys with
 |nil=>intro us r;rw[Ľ] at r;cases r;exact .nil
 |cons y ys ih=>
  intro us r;rw[Ý] at r;cases r with
  |cons r1 r2=>obtain⟨t,rfl⟩:=r1;exact .cons _ t (ih r2)
def C_(K:É):V->List V->Hp->VK->Prop:=λx vs H Q=>match x,vs with
 | .str z,[.ref p]=>∃ys:List (List Nat),ϒ K H p (ys.map λl=>V.str (S l))/\(ys.map aF).sum+ys.length*z.length<=16777216/\Q (.str (S (İ z.cps.toList ys))) H
 |_,_=>False
def f_:OQ X "str.join" (C_ X.K):=by
 intro Ã s Y H x xs v us Q I rx rs h;unfold C_ at h;split at h
 ·obtain⟨ys,hS,hz,q⟩:=h;obtain⟨t,rfl⟩:=rx;obtain⟨u,rfl,ru⟩:=vals1 rs;cases ru;obtain⟨ě,rv,pl,_⟩:=I.list hS;refine join_list pl.isList (by simpa using Gc rv) ?_ λt' k=>⟨.str _,H,I.tok _,⟨t',?_⟩,q⟩
  ·have e1:((ys.map S).map (·.length))=ys.map aF:=by
    rw[ľ];exact fw λl _=>HC l
   rw[e1,ď];exact hz
  ·unfold Txt.join;rw[StrLaws.glued_eq_join,Bd]
 ·exact h.elim
end
end M4
namespace M5
open PySem PySem.Spec PyProof.Rows L2 M2 M3
section
end
section
end
section
end
section
end
end M5
namespace P
def nst:Æ->Bool
 | .Starred .. =>false
 |_=>true
def ώ{e:Æ}{es:List Æ}{env:PySem.Env}(h:nst e=true):Ö (e::es) env=(false,PySem.eval e env)::Ö es env:=by cases e<;>first|rfl|cases h
open PySem PySem.Spec PyProof.Rows L2 M2
structure KK where
 K:É
 cm:String->À
abbrev kk(X:Cx)(cm:String->À):KK:=⟨X.K,cm⟩
inductive PV where
 |non|bl (b:Bool)|int (i:Int)|str (x:Str)|tup (xs:List PV)|lst (xs:List PV)
 |ins (C:String) (ns:List Str) (xs:List PV)|xc (C:String) (ns:List Str) (xs:List PV)|ty (n:String)|cls (C:String)
def xo(a C:À)(d:Option À):HO:=.ext λh=>∃o vs,h.get? a=some o/\o.cls=.ref C/\o.dict=d/\o.data=.fields vs
def oG(F:Hp)(d:Option À)(fs:List (Str×V)):Prop:=(d=none/\fs=[])\/∃a,d=some a/\F a=some (.xd fs)
mutual
def Ć(K:KK)(F:Hp):PV->V->Prop
 | .non,v=>v=.non
 | .bl b,v=>v=.bl b
 | .int i,v=>v=.int i
 | .str x,v=>v=.str x
 | .tup ps,v=>∃a xs,v=.ref a/\eQ K.K F a xs/\Û K F ps xs
 | .lst ps,v=>∃a xs,v=.ref a/\ϒ K.K F a xs/\Û K F ps xs
 | .ins C ns ps,v=>∃a dx fs,v=.ref a/\F a=some (.ins (K.cm C) dx fs)/\fs.map (·.1)=ns/\Û K F ps (fs.map (·.2))
 | .xc C ns ps,v=>∃a d fs,v=.ref a/\F a=some (xo a (K.cm C) d)/\oG F d fs/\fs.map (·.1)=ns/\Û K F ps (fs.map (·.2))
 | .ty n,v=>v=.ty n
 | .cls C,v=>v=.ref (K.cm C)
def Û(K:KK)(F:Hp):List PV->List V->Prop
 | [],xs=>xs=[]
 |p::ps,xs=>∃x r,xs=x::r/\Ć K F p x/\Û K F ps r
end
section
variable{K:KK}{F F':Hp}
def oG.same{d:Option À}{fs:List (Str×V)}(e:Õ F F')(h:oG F d fs):oG F' d fs:=by
 rcases h with h|⟨a,h1,h2⟩
 ·exact .inl h
 ·exact .inr ⟨a,h1,e _ _ h2⟩
mutual
theorem Ć.same(e:Õ F F'):∀(p:PV) (v:V),Ć K F p v->Ć K F' p v
 | .non,_,h=>by unfold Ć at h ⊢;exact h
 | .bl _,_,h=>by unfold Ć at h ⊢;exact h
 | .int _,_,h=>by unfold Ć at h ⊢;exact h
 | .str _,_,h=>by unfold Ć at h ⊢;exact h
 | .ty _,_,h=>by unfold Ć at h ⊢;exact h
 | .cls _,_,h=>by unfold Ć at h ⊢;exact h
 | .tup ps,_,h=>by unfold Ć at h ⊢;obtain⟨a,xs,h1,h2,h3⟩:=h;exact⟨a,xs,h1,Õ.tup e h2,Û.same e ps xs h3⟩
 | .lst ps,_,h=>by unfold Ć at h ⊢;obtain⟨a,xs,h1,h2,h3⟩:=h;exact⟨a,xs,h1,e.seq h2,Û.same e ps xs h3⟩
 | .ins C ns ps,_,h=>by unfold Ć at h ⊢;obtain⟨a,dx,fs,h1,h2,h3,h4⟩:=h;exact⟨a,dx,fs,h1,e _ _ h2,h3,Û.same e ps _ h4⟩
 | .xc C ns ps,_,h=>by unfold Ć at h ⊢;obtain⟨a,d,fs,h1,h2,hd,h3,h4⟩:=h;exact⟨a,d,fs,h1,e _ _ h2,hd.same e,h3,Û.same e ps _ h4⟩
theorem Û.same(e:Õ F F'):∀(ps:List PV) (xs:List V),Û K F ps xs->Û K F' ps xs
 | [],_,h=>by unfold Û at h ⊢;exact h
 |p::ps,_,h=>by unfold Û at h ⊢;obtain⟨x,r,h1,h2,h3⟩:=h;exact⟨x,r,h1,Ć.same e p x h2,Û.same e ps r h3⟩
end
theorem Û.pr:∀{ps:List PV} {vs:List V},Û K F ps vs->Paired (Ć K F) ps vs
 | [],_,h=>by unfold Û at h;subst h;exact .nil
 |p::ps,_,h=>by unfold Û at h;obtain⟨x,r,rfl,h2,h3⟩:=h;exact .cons h2 (Û.pr h3)
theorem Û.of:∀{ps:List PV} {vs:List V},Paired (Ć K F) ps vs->Û K F ps vs
 | [],_,.nil=>by unfold Û;rfl
 |p::ps,_,.cons h t=>by unfold Û;exact⟨_,_,rfl,h,Û.of t⟩
theorem Û.nil:Û K F [] []:=Û.of .nil
theorem Û.cons{p:PV}{v:V}{ps:List PV}{vs:List V}(h:Ć K F p v)(t:Û K F ps vs):Û K F (p::ps) (v::vs):=Û.of (.cons h t.pr)
theorem Û.length{ps:List PV}{vs:List V}(h:Û K F ps vs):ps.length=vs.length:=Paired.length h.pr
theorem de{α β:Type}{G:α->β->Prop}:∀{l:List α} {m:List β} {i:Nat} {x:α},Paired G l m->l[i]?=some x->∃y,m[i]?=some y/\G x y
 |_,_,_,_,.nil,e=>by simp at e
 |_,_,0,_,.cons r _,e=>by simp at e;subst e;exact⟨_,rfl,r⟩
 |_,_,i+1,x,.cons _ t,e=>by obtain⟨y,h1,h2⟩:=de (i:=i) (x:=x) t (by simpa using e);exact⟨y,by simpa using h1,h2⟩
theorem Am{α β:Type}{G:α->β->Prop}:∀{l:List α} {m:List β} {i:Nat} {y:β},Paired G l m->m[i]?=some y->∃x,l[i]?=some x/\G x y
 |_,_,_,_,.nil,e=>by simp at e
 |_,_,0,_,.cons r _,e=>by simp at e;subst e;exact⟨_,rfl,r⟩
 |_,_,i+1,y,.cons _ t,e=>by obtain⟨x,h1,h2⟩:=Am (i:=i) (y:=y) t (by simpa using e);exact⟨x,by simpa using h1,h2⟩
theorem oH{α β:Type}{G:α->β->Prop}:∀{l l2:List α} {m m2:List β},Paired G l m->Paired G l2 m2->Paired G (l++l2) (m++m2)
 |_,_,_,_,.nil,t=>t
 |_,_,_,_,.cons r s,t=>.cons r (oH s t)
theorem An{α β:Type}{G:α->β->Prop}:∀{l:List α} {m:List β} (n:Nat),Paired G l m->Paired G (l.take n) (m.take n)
 |_,_,0,_=>.nil
 |_,_,_+1,.nil=>.nil
 |_,_,n+1,.cons r t=>.cons r (An n t)
theorem Ao{α β:Type}{G:α->β->Prop}:∀{l:List α} {m:List β} (n:Nat),Paired G l m->Paired G (l.drop n) (m.drop n)
 |_,_,0,h=>h
 |_,_,_+1,.nil=>.nil
 |_,_,n+1,.cons _ t=>Ao n t
def Û.append{ps qs:List PV}{vs us:List V}(h:Û K F ps vs)(t:Û K F qs us):Û K F (ps++qs) (vs++us):=Û.of (oH h.pr t.pr)
end
inductive Slot where
 |no|sh (p:PV)|ow (ps:List PV)|bw (ps:List PV)|rc (C:String) (ns:List Str) (ps:List PV)|ot (ps qs rs:List PV)|ol (ql:List (List PV))|fr (ql:List (List PV))|bn (qs rows:List PV)|dw (eR:List (List PV×List PV))
abbrev ć:=List Slot
abbrev az:= Slot
def Slot.own:Slot->Bool
 | .ow _=>true
 | .rc _ _ _=>true
 | .ot _ _ _=>true
 | .ol _=>true
 | .fr _=>true
 |_=>false
structure Ctx where
 B:Hp
 F₀:Hp
 L:Hp
 S:À->À->String->Prop
def HF(F:Hp)(a b:À):Hp:=λx=>if x=a\/x=b then none else F x
def jA(K:KK)(B F:Hp)(t:Bool)(ps qs rows:List PV)(v:V):Prop:=∃a b ys vs,F a=some (.lst (.ref b::ys))/\F b=some (.lst vs)/\B a=none/\B b=none/\a≠b/\Û K (HF F a b) qs vs/\Û K (HF F a b) rows ys/\((t=false/\ps=[]/\v=.ref a)\/t=true/\∃p xs,v=.ref p/\F p=some (.tup (xs ++ [.ref a]))/\Û K (HF F a b) ps xs)
def ϩ(K:KK)(c:Ctx)(F H:Hp)(o:Option V):Slot->Prop
 | .no=>True
 | .sh p=>∃v,o=some v/\Ć K F p v
 | .ow ps=>∃a vs,o=some (.ref a)/\H a=some (.lst vs)/\F a=none/\c.B a=none/\Û K F ps vs
 | .bw ps=>∃a vs,o=some (.ref a)/\c.L a=some (.lst vs)/\Û K F ps vs
 | .rc C ns ps=>∃a dx fs,o=some (.ref a)/\H a=some (.ins (K.cm C) dx fs)/\F a=none/\c.B a=none/\fs.map (·.1)=ns/\Û K F ps (fs.map (·.2))/\c.S a dx C
 | .ot ps qs rs=>∃p a xs vs ys,o=some (.ref p)/\F p=some (.tup (xs ++ .ref a::ys))/\Û K F ps xs/\H a=some (.lst vs)/\F a=none/\c.B a=none/\Û K F qs vs/\Û K F rs ys
 | .ol ql=>∃(p:À) (as:List À),o=some (.ref p)/\F p=some (.lst (as.map V.ref))/\as.Nodup/\Paired (λ(a:À) (ps:List PV)=>∃vs,H a=some (.lst vs)/\F a=none/\c.B a=none/\Û K F ps vs) as ql
 | .fr ql=>∃(p:À) (as:List À),o=some (.ref p)/\H p=some (.lst (as.map V.ref))/\F p=none/\c.B p=none/\as.Nodup/\Paired (λ(a:À) (ps:List PV)=>∃vs,F a=some (.lst vs)/\c.B a=none/\Û K F ps vs) as ql
 | .bn qs rows=>∃v,o=some v/\jA K c.B F false [] qs rows v
 | .dw eR=>∃(a:À) (ts:List À),o=some (.ref a)/\c.L a=some (.lst (ts.map V.ref))/\Paired (λ(t:À) (d:List PV×List PV)=>∃xs b vs,F t=some (.tup (xs ++ [.ref b]))/\Û K F d.1 xs/\c.L b=some (.lst vs)/\Û K F d.2 vs) ts eR
def Slot.at_(F:Hp)(x:V)(a:À):Slot->Prop
 | .ot ps _ _=>∃p xs ys,x=.ref p/\F p=some (.tup (xs ++ .ref a::ys))/\xs.length=ps.length
 | .ol _=>∃(p:À) (as:List À),x=.ref p/\F p=some (.lst (as.map V.ref))/\a∈as
 | .ow _=>x=.ref a
 | .fr _=>x=.ref a
 | .rc _ _ _=>x=.ref a
 |_=>False
def Ō(F:Hp)(Y:Ą)(O:ć)(i:Nat)(a:À):Prop:=∃s x,O[i]?=some s/\Y[i]?=some (some x)/\s.at_ F x a
structure ę(K:KK)(c:Ctx)(F H:Hp)(Y:Ą)(O:ć):Prop where
 sub:Õ F H
 base:Õ c.B H
 f0:Õ c.F₀ F
 bS:∀a,c.B a≠none->c.F₀ a=none->F a=none
 lent:∀a u,c.L a=some u->H a=some u/\F a=none
 lb:∀a,c.B a=none->c.L a=none
 len:Y.length=O.length
 slot:∀(i:Nat) s,O[i]?=some s->ϩ K c F H ((Y[i]?).getD none) s
 sep:∀i j a,Ō F Y O i a->Ō F Y O j a->i=j
def eW(F:Hp)(Y:Ą)(O:ć)(a:À):Prop:=∀i,¬Ō F Y O i a
section
variable{K:KK}{c:Ctx}{F F' H H':Hp}{Y:Ą}{O:ć}{a:À}{o:HO}
def gb{s:Slot}{x:V}(h:s.at_ F x a):s.own=true:=by cases s<;>first|rfl|exact h.elim
theorem oJ:∀{as bs:List À},as.map V.ref=bs.map V.ref->as=bs
 | [],[],_=>rfl
 | [],_::_,h=>by cases h
 |_::_,[],h=>by cases h
 |a::as,b::bs,h=>by
  injection h with h1 h2
  injection h1 with h1
  rw[h1,oJ h2]
def kK{ps qs rs:List PV}{x:V}{b:À}(h:(Slot.ot ps qs rs).at_ F x a)(h':(Slot.ot ps qs rs).at_ F x b):a=b:=by
 obtain⟨p,xs,us,h1,h2,l1⟩:=h;obtain⟨q,ys,ws,h3,h4,l2⟩:=h';rw[h1] at h3;cases h3;rw[h2] at h4;have e:xs++V.ref a::us=ys++V.ref b::ws:=by
  injection h4 with h4
  injection h4
 have e2:=(List.append_inj e (by lia)).2;injection e2 with e2
 injection e2
theorem C0{α β:Type}{G:α->β->Prop}:∀{l:List α} {m:List β} {x:α},Paired G l m->x∈l->∃y,y∈m/\G x y
 |_,_,_,.nil,h=>by simp at h
 |_,_,x,.cons r t,h=>by
  rcases Č.mp h with rfl|h
  ·exact⟨_,ű,r⟩
  ·obtain⟨y,h1,h2⟩:=C0 t h;exact⟨y,í _ h1,h2⟩
theorem jl{α β:Type}{G G':α->β->Prop}:∀{l:List α} {m:List β},Paired G l m->(∀x y,x∈l->G x y->G' x y)->Paired G' l m
 |_,_,.nil,_=>.nil
 |_,_,.cons r t,h=>.cons (h _ _ ű r) (jl t λx y hx=>h x y (í _ hx))
def oK{a b:À}(e:Õ F F'):Õ (HF F a b) (HF F' a b):=λx u h=>by
 unfold HF at h ⊢;split at h
 ·cases h
 ·rename_i n;rw[if_neg n];exact e x u h
def uJ{a b:À}:Õ (HF F a b) F:=λx u h=>by
 unfold HF at h;split at h
 ·cases h
 ·exact h
theorem jA.same{B:Hp}{t:Bool}{ps qs rows:List PV}{v:V}(h:jA K B F t ps qs rows v)(e:Õ F F'):jA K B F' t ps qs rows v:=by obtain⟨a,b,ys,vs,h1,h2,h3,h4,h5,h6,h7,h8⟩:=h;refine⟨a,b,ys,vs,e _ _ h1,e _ _ h2,h3,h4,h5,h6.same (oK e) qs vs,h7.same (oK e) rows ys,h8.imp id λ⟨z,p,xs,q1,q2,q3⟩=>⟨z,p,xs,q1,e _ _ q2,q3.same (oK e) ps xs⟩⟩
def jA.base{B B':Hp}{t:Bool}{ps qs rows:List PV}{v:V}(h:jA K B F t ps qs rows v)(e:Õ B' B):jA K B' F t ps qs rows v:=by obtain⟨a,b,ys,vs,h1,h2,h3,h4,h5,h6,h7,h8⟩:=h;exact⟨a,b,ys,vs,h1,h2,e.free h3,e.free h4,h5,h6,h7,h8⟩
def Sr(t:Bool)(ps qs rows:List PV):PV:=if t then .tup (ps ++ [.lst (.lst qs::rows)]) else .lst (.lst qs::rows)
def jA.rep{B:Hp}{t:Bool}{ps qs rows:List PV}{v:V}(h:jA K B F t ps qs rows v):Ć K F (Sr t ps qs rows) v:=by
 obtain⟨a,b,ys,vs,h1,h2,h3,h4,h5,h6,h7,h8⟩:=h;have e1:Ć K F (.lst qs) (.ref b):=by unfold Ć;exact⟨b,vs,rfl,ϒ.of h2,h6.same uJ qs vs⟩
 have e2:Ć K F (.lst (.lst qs::rows)) (.ref a):=by unfold Ć;exact⟨a,_,rfl,ϒ.of h1,Û.cons e1 (h7.same uJ rows ys)⟩
 rcases h8 with⟨rfl,rfl,rfl⟩|⟨rfl,p,xs,rfl,q2,q3⟩
 ·exact e2
 ·show Ć K F (.tup (ps ++ [.lst (.lst qs::rows)])) (.ref p);unfold Ć;exact⟨p,_,rfl,eQ.of q2,Û.append (q3.same uJ ps xs) (Û.cons e2 Û.nil)⟩
def ϩ.grow{s:Slot}{x:Option V}(h:ϩ K c F H x s)(eF:Õ F F')(eH:∀b vs,(∃y,x=some y/\s.at_ F y b)->H b=some vs->F b=none->c.B b=none->H' b=some vs/\F' b=none):ϩ K c F' H' x s:=by
 cases s with
 |no=>trivial
 |sh p=>obtain⟨v,h1,h2⟩:=h;exact⟨v,h1,h2.same eF p v⟩
 |ow ps=>obtain⟨b,vs,h1,h2,h3,h4,h5⟩:=h;obtain⟨e1,e2⟩:=eH b _ ⟨_,h1,rfl⟩ h2 h3 h4;exact⟨b,vs,h1,e1,e2,h4,h5.same eF ps vs⟩
 |bw ps=>obtain⟨b,vs,h1,h2,h3⟩:=h;exact⟨b,vs,h1,h2,h3.same eF ps vs⟩
 |rc C ns ps=>obtain⟨b,dx,fs,h1,h2,h3,h4,h5,h6⟩:=h;obtain⟨e1,e2⟩:=eH b _ ⟨_,h1,rfl⟩ h2 h3 h4;exact⟨b,dx,fs,h1,e1,e2,h4,h5,h6.1.same eF ps _,h6.2⟩
 |ot ps qs rs=>obtain⟨p,b,xs,vs,ys,h1,h2,h3,h4,h5,h6,h7,h8⟩:=h;obtain⟨e1,e2⟩:=eH b _ ⟨_,h1,p,xs,ys,rfl,h2,h3.length.symm⟩ h4 h5 h6;exact⟨p,b,xs,vs,ys,h1,eF _ _ h2,h3.same eF ps xs,e1,e2,h6,h7.same eF qs vs,h8.same eF rs ys⟩
 |ol ql=>obtain⟨p,as,h1,h2,h3,h4⟩:=h;refine⟨p,as,h1,eF _ _ h2,h3,jl h4 λb ps hb ⟨vs,k1,k2,k3,k4⟩=>?_⟩;obtain⟨e1,e2⟩:=eH b _ ⟨_,h1,p,as,rfl,h2,hb⟩ k1 k2 k3;exact⟨vs,e1,e2,k3,k4.same eF ps vs⟩
 |fr ql=>obtain⟨b,as,h1,h2,h3,h4,h5,h6⟩:=h;obtain⟨e1,e2⟩:=eH b _ ⟨_,h1,rfl⟩ h2 h3 h4;exact⟨b,as,h1,e1,e2,h4,h5,jl h6 λd ps _ ⟨vs,k1,k2,k3⟩=>⟨vs,eF _ _ k1,k2,k3.same eF ps vs⟩⟩
 |bn qs rows=>obtain⟨v,h1,h2⟩:=h;exact⟨v,h1,h2.same eF⟩
 |dw eR=>obtain⟨a,ts,h1,h2,h3⟩:=h;exact⟨a,ts,h1,h2,jl h3 λt d _ ⟨xs,b,vs,k1,k2,k3,k4⟩=>⟨xs,b,vs,eF _ _ k1,k2.same eF d.1 xs,k3,k4.same eF d.2 vs⟩⟩
def ϩ.owned{s:Slot}{y:V}(h:ϩ K c F H (some y) s)(ha:s.at_ F y a):∃u,H a=some u/\F a=none/\c.B a=none:=by
 cases s with
 |no=>exact ha.elim
 |sh p=>exact ha.elim
 |bw ps=>exact ha.elim
 |bn qs rows=>exact ha.elim
 |dw eR=>exact ha.elim
 |fr ql=>obtain⟨b,as,h1,h2,h3,h4,h5,h6⟩:=h;rw[show y=.ref a from ha] at h1;cases h1;exact⟨_,h2,h3,h4⟩
 |ow ps=>obtain⟨b,vs,h1,h2,h3,h4,h5⟩:=h;rw[show y=.ref a from ha] at h1;cases h1;exact⟨_,h2,h3,h4⟩
 |rc C ns ps=>obtain⟨b,dx,fs,h1,h2,h3,h4,h5,h6⟩:=h;rw[show y=.ref a from ha] at h1;cases h1;exact⟨_,h2,h3,h4⟩
 |ot ps qs rs=>obtain⟨p,b,xs,vs,ys,h1,h2,h3,h4,h5,h6,h7,h8⟩:=h;cases h1;cases kK (ps:=ps) (qs:=qs) (rs:=rs) ha ⟨p,xs,ys,rfl,h2,h3.length.symm⟩;exact⟨_,h4,h5,h6⟩
 |ol ql=>obtain⟨p,as,h1,h2,h3,h4⟩:=h;cases h1;obtain⟨q,bs,e1,e2,e3⟩:=ha;cases e1;rw[h2] at e2;have e:as=bs:=oJ (by injection e2 with e2;injection e2);subst e;obtain⟨ps,_,vs,k1,k2,k3,_⟩:=C0 h4 e3;exact⟨_,k1,k2,k3⟩
def ϩ.back{s:Slot}{y:V}(h:ϩ K c F H (some y) s)(e:Õ F F')(ha:s.at_ F' y a):s.at_ F y a:=by
 cases s with
 |ot ps qs rs=>obtain⟨p,b,xs,vs,ys,h1,h2,h3,h4,h5,h6,h7,h8⟩:=h;cases h1;cases kK (ps:=ps) (qs:=qs) (rs:=rs) ha ⟨p,xs,ys,rfl,e _ _ h2,h3.length.symm⟩;exact⟨p,xs,ys,rfl,h2,h3.length.symm⟩
 |ol ql=>obtain⟨p,as,h1,h2,h3,h4⟩:=h;cases h1;obtain⟨q,bs,e1,e2,e3⟩:=ha;cases e1;rw[e _ _ h2] at e2;have z:as=bs:=oJ (by injection e2 with e2;injection e2);subst z;exact⟨p,as,rfl,h2,e3⟩
 |_=>exact ha
def C2{i:Nat}{x:V}(e:Y[i]?=some (some x)):(Y[i]?).getD none=some x:=by rw[e];rfl
def xY{i:Nat}{x:V}(e:(Y[i]?).getD none=some x):Y[i]?=some (some x):=by
 cases q:Y[i]? with
 |none=>rw[q] at e;cases e
 |some y=>rw[q] at e;exact congrArg some e
theorem ę.owned(r:ę K c F H Y O){i:Nat}(h:Ō F Y O i a):(∃u,H a=some u)/\F a=none/\c.B a=none:=by obtain⟨s,x,h1,h2,h3⟩:=h;have q:=r.slot i s h1;rw[C2 h2] at q;obtain⟨u,q⟩:=q.owned h3;exact⟨⟨u,q.1⟩,q.2⟩
theorem ę.back(r:ę K c F H Y O)(e:Õ F F'){i:Nat}(h:Ō F' Y O i a):Ō F Y O i a:=by obtain⟨s,x,h1,h2,h3⟩:=h;have q:=r.slot i s h1;rw[C2 h2] at q;exact⟨s,x,h1,h2,q.back e h3⟩
def ę.LQ(r:ę K c F H Y O)(e:Õ F F'):∀i j a,Ō F' Y O i a->Ō F' Y O j a->i=j:=λi j a h1 h2=>r.sep i j a (r.back e h1) (r.back e h2)
def ę.gU(r:ę K c F H Y O)(e:Õ F F')(h:eW F Y O a):eW F' Y O a:=λi q=>h i (r.back e q)
def ę.fresh(r:ę K c F H Y O)(h:H a=none):eW F Y O a:=λi q=>by obtain⟨⟨u,e⟩,_⟩:=r.owned q;rw[h] at e;cases e
def ę.alloc(r:ę K c F H Y O)(h:H a=none):ę K c (upd F a o) (upd H a o) Y O where
 sub:=λb u e=>by
  by_cases hb:b=a
  ·subst hb;rw[ã] at e ⊢;exact e
  ·rw[Ú hb] at e ⊢;exact r.sub b u e
 base:=λb u e=>by
  have hb:b≠a:=λz=>by rw[z] at e;rw[r.base _ _ e] at h;cases h
  rw[Ú hb];exact r.base b u e
 f0:=fun b u e=>by
   have hb:b≠a:=λz=>by rw[z] at e;rw[r.sub _ _ (r.f0 _ _ e)] at h;cases h
   rw[Ú hb];exact r.f0 b u e
 bS:=λb h1 h2=>by
  have hb:b≠a:=λz=>by
   subst z;cases q:c.B b with
   |none=>exact h1 q
   |some u=>rw[r.base _ _ q] at h;cases h
  rw[Ú hb];exact r.bS b h1 h2
 lent:=λb u e=>by
  obtain⟨h1,h2⟩:=r.lent b u e;have hb:b≠a:=λz=>by rw[z,h] at h1;cases h1
  rw[Ú hb,Ú hb];exact⟨h1,h2⟩
 lb:=r.lb
 len:=r.len
 slot:=λi s e=>by
  have hF:F a=none:=r.sub.free h;refine(r.slot i s e).grow (Õ.upd hF) λb u _ h1 h2 h3=>?_;have hb:b≠a:=λz=>by rw[z,h] at h1;cases h1
  rw[Ú hb,Ú hb];exact⟨h1,h2⟩
 sep:=r.LQ (Õ.upd (r.sub.free h))
def ę.made(r:ę K c F H Y O)(h:H a=none):ę K c F (upd H a o) Y O where
 sub:=r.sub.trans (Õ.upd h)
 base:=r.base.trans (Õ.upd h)
 f0:=r.f0
 bS:=r.bS
 lent:=λb u e=>⟨Õ.upd h b u (r.lent b u e).1,(r.lent b u e).2⟩
 lb:=r.lb
 len:=r.len
 slot:=λi s e=>(r.slot i s e).grow (Õ.refl F) λb u _ h1 h2 h3=>⟨Õ.upd h b u h1,h2⟩
 sep:=r.sep
def ę.freeze(r:ę K c F H Y O)(h:H a=some o)(hB:c.B a=none)(hF:F a=none)(hf:eW F Y O a):ę K c (upd F a o) H Y O where
 sub:=λb u e=>by
  by_cases hb:b=a
  ·subst hb;rw[ã] at e;rw[h];exact e
  ·rw[Ú hb] at e;exact r.sub b u e
 base:=r.base
 f0:=r.f0.trans (Õ.upd hF)
 bS:=λb h1 h2=>by have hb:b≠a:=λz=>h1 (by rw[z];exact hB);rw[Ú hb];exact r.bS b h1 h2
 lent:=λb u e=>by
  have hb:b≠a:=λz=>by rw[z,r.lb a hB] at e;cases e
  rw[Ú hb];exact r.lent b u e
 lb:=r.lb
 len:=r.len
 slot:=λi s e=>(r.slot i s e).grow (Õ.upd hF) λb' u' ⟨y,e1',ha⟩ h1 h2 h3=>by
  have hb:b'≠a:=λz=>by subst z;exact hf i ⟨s,y,e,xY e1',ha⟩
  rw[Ú hb];exact⟨h1,h2⟩
 sep:=r.LQ (Õ.upd hF)
def ř{α:Type}{l:List α}{i j:Nat}{x y:α}(h:(l.set i x)[j]?=some y):(j=i/\y=x/\i<l.length)\/(j≠i/\l[j]?=some y):=by
 by_cases hj:j=i
 ·subst hj;have hl:j<l.length:=by
   have:=(fh.mp h).1;simpa using this
  rw[j_ hl] at h;exact .inl ⟨rfl,(Š h).symm,hl⟩
 ·rw[fi (Đ hj)] at h;exact .inr ⟨hj,h⟩
def C3{l:Ą}{i:Nat}{x:Option V}(h:i<l.length):((l.set i x)[i]?).getD none=x:=by rw[j_ h];rfl
def Ap{l:Ą}{i j:Nat}{x:Option V}(h:j≠i):((l.set i x)[j]?).getD none=(l[j]?).getD none:=by rw[fi (Đ h)]
def Ō.off{i j:Nat}{x:Option V}{s:Slot}(h:Ō F (Y.set i x) (O.set i s) j a)(hj:j≠i):Ō F Y O j a:=by obtain⟨s',y,h1,h2,h3⟩:=h;rw[fi (Đ hj)] at h1 h2;exact⟨s',y,h1,h2,h3⟩
def ę.put(r:ę K c F H Y O){i:Nat}{x:Option V}{s:Slot}(hs:s.own=false)(h:ϩ K c F H x s):ę K c F H (Y.set i x) (O.set i s) where
 sub:=r.sub
 base:=r.base
 f0:=r.f0
 bS:=r.bS
 lent:=r.lent
 lb:=r.lb
 len:=by simpa using r.len
 slot:=λj s' e=>by
  rcases ř e with⟨rfl,rfl,hl⟩|⟨hj,e⟩
  ·rw[C3 (by rw[r.len];exact hl)];exact h
  ·rw[Ap hj];exact r.slot j s' e
 sep:=λj k b h1 h2=>by
  have off:∀{j},Ō F (Y.set i x) (O.set i s) j b->j≠i:=fun{j} q z=>by
   subst z;obtain⟨s',y,q1,_,q2⟩:=q;rcases ř q1 with⟨_,rfl,_⟩|⟨q,_⟩
   ·have:=gb q2;rw[hs] at this;cases this
   ·exact q rfl
  exact r.sep j k b (h1.off (off h1)) (h2.off (off h2))
def ę.C4(r:ę K c F H Y O){i:Nat}{s:Slot}(hs:s.own=false)(h:ϩ K c F H ((Y[i]?).getD none) s):ę K c F H Y (O.set i s) where
 sub:=r.sub
 base:=r.base
 f0:=r.f0
 bS:=r.bS
 lent:=r.lent
 lb:=r.lb
 len:=by simpa using r.len
 slot:=λj s' e=>by
  rcases ř e with⟨rfl,rfl,hl⟩|⟨hj,e⟩
  ·exact h
  ·exact r.slot j s' e
 sep:=λj k b h1 h2=>by
  have off:∀{j},Ō F Y (O.set i s) j b->Ō F Y O j b:=fun{j} ⟨s',y,q1,q3,q2⟩=>by
   rcases ř q1 with⟨_,rfl,_⟩|⟨_,q⟩
   ·have:=gb q2;rw[hs] at this;cases this
   ·exact⟨s',y,q,q3,q2⟩
  exact r.sep j k b (off h1) (off h2)
def ę.Bv(r:ę K c F H Y O){i:Nat}{x:V}{s:Slot}(h:ϩ K c F H (some x) s)(hf:∀a,s.at_ F x a->eW F Y O a):ę K c F H (Y.set i (some x)) (O.set i s) where
 sub:=r.sub
 base:=r.base
 f0:=r.f0
 bS:=r.bS
 lent:=r.lent
 lb:=r.lb
 len:=by simpa using r.len
 slot:=λj s' e=>by
  rcases ř e with⟨rfl,rfl,hl⟩|⟨hj,e⟩
  ·rw[C3 (by rw[r.len];exact hl)];exact h
  ·rw[Ap hj];exact r.slot j s' e
 sep:=λj k b h1 h2=>by
  have LR:∀{j},Ō F (Y.set i (some x)) (O.set i s) j b->(j=i/\s.at_ F x b)\/(j≠i/\Ō F Y O j b):=fun{j} q=>by
   by_cases hj:j=i
   ·subst hj;obtain⟨s',y,q1,q2,q3⟩:=q;rcases ř q2 with⟨_,e,_⟩|⟨z,_⟩
    ·cases e;rcases ř q1 with⟨_,e,_⟩|⟨z,_⟩
     ·cases e;exact .inl ⟨rfl,q3⟩
     ·exact absurd rfl z
    ·exact absurd rfl z
   ·exact .inr ⟨hj,q.off hj⟩
  rcases LR h1 with⟨e1,z1⟩|⟨e1,o1⟩
  ·rcases LR h2 with⟨e2,z2⟩|⟨e2,o2⟩
   ·rw[e1,e2]
   ·exact absurd o2 (hf b z1 k)
  ·rcases LR h2 with⟨e2,z2⟩|⟨e2,o2⟩
   ·exact absurd o1 (hf b z2 j)
   ·exact r.sep j k b o1 o2
def ę.LU(r:ę K c F H Y O){i:Nat}{s:Slot}(ho:Ō F Y O i a)(h:ϩ K c F (upd H a o) ((Y[i]?).getD none) s)(hs:∀x b,Y[i]?=some (some x)->s.at_ F x b->Ō F Y O i b):ę K c F (upd H a o) Y (O.set i s) where
 sub:=λb u e=>by
  have hb:b≠a:=λz=>by rw[z,(r.owned ho).2.1] at e;cases e
  rw[Ú hb];exact r.sub b u e
 base:=λb u e=>by
  have hb:b≠a:=λz=>by rw[z,(r.owned ho).2.2] at e;cases e
  rw[Ú hb];exact r.base b u e
 f0:=r.f0
 bS:=r.bS
 lent:=λb u e=>by
  have hb:b≠a:=λz=>by rw[z,r.lb a (r.owned ho).2.2] at e;cases e
  rw[Ú hb];exact r.lent b u e
 lb:=r.lb
 len:=by simpa using r.len
 slot:=λj s' e=>by
  rcases ř e with⟨rfl,rfl,hl⟩|⟨hj,e⟩
  ·exact h
  ·refine(r.slot j s' e).grow (Õ.refl F) λb u ⟨y,e1,e2⟩ h1 h2 h3=>?_;have hb:b≠a:=λz=>by
    subst z;exact hj (r.sep j i b ⟨s',y,e,xY e1,e2⟩ ho)
   exact⟨by rw[Ú hb];exact h1,h2⟩
 sep:=λj k b h1 h2=>by
  have off:∀{j},Ō F Y (O.set i s) j b->Ō F Y O j b:=fun{j} ⟨s',y,q1,q3,q2⟩=>by
   rcases ř q1 with⟨e,rfl,_⟩|⟨_,q⟩
   ·subst e;exact hs y b q3 q2
   ·exact⟨s',y,q,q3,q2⟩
  exact r.sep j k b (off h1) (off h2)
def ę.write(r:ę K c F H Y O){i:Nat}{s:Slot}(ho:Ō F Y O i a)(hx:Y[i]?=some (some (.ref a)))(h:ϩ K c F (upd H a o) (some (.ref a)) s)(hs:∀b,s.at_ F (.ref a) b->b=a):ę K c F (upd H a o) Y (O.set i s):=
 r.LU ho (by rw[hx];exact h) λx b e q=>by rw[hx] at e;cases e;rw[hs b q];exact ho
structure Gr(F H F' H':Hp):Prop where
 h:Õ H H'
 f:Õ F F'
 sub:Õ F' H'
 out:∀a,H a≠none->F a=none->F' a=none
def ę.call(r:ę K c F H Y O)(g:Gr F H F' H'):ę K c F' H' Y O where
 sub:=g.sub
 base:=r.base.trans g.h
 f0:=r.f0.trans g.f
 bS:=λb h1 h2=>by
  refine g.out b (λz=>h1 ?_) (r.bS b h1 h2);cases q:c.B b with
  |none=>rfl
  |some u=>rw[r.base _ _ q] at z;cases z
 lent:=λb u e=>⟨g.h b u (r.lent b u e).1,g.out b (by rw[(r.lent b u e).1];intro z;cases z) (r.lent b u e).2⟩
 lb:=r.lb
 len:=r.len
 slot:=λi s e=>(r.slot i s e).grow g.f λb u _ h1 h2 h3=>⟨g.h b u h1,g.out b (by rw[h1];intro z;cases z) h2⟩
 sep:=r.LQ g.f
noncomputable def bo(F H:Hp):Ctx:=⟨H,F,λa=>match F a with
 |none=>H a
 |some _=>none,λ_ _ _=>True⟩
def ϓ{a:À}{u:HO}(h:(bo F H).L a=some u):H a=some u/\F a=none:=by
 unfold bo at h;dsimp only at h;cases q:F a with
 |none=>rw[q] at h;exact⟨h,rfl⟩
 |some o=>rw[q] at h;cases h
def ę.gr(r:ę K (bo F H) F' H' Y O):Gr F H F' H':=⟨r.base,r.f0,r.sub,r.bS⟩
def aW(K:KK)(F H:Hp):Slot->V->Prop
 | .sh p,v=>Ć K F p v
 | .bw ps,v=>∃a vs,v=.ref a/\H a=some (.lst vs)/\F a=none/\Û K F ps vs
 | .dw eR,v=>∃(a:À) (ts:List À),v=.ref a/\H a=some (.lst (ts.map V.ref))/\F a=none/\Paired (λ(t:À) (d:List PV×List PV)=>∃xs b vs,F t=some (.tup (xs ++ [.ref b]))/\Û K F d.1 xs/\(H b=some (.lst vs)/\F b=none)/\Û K F d.2 vs) ts eR
 |_,_=>False
def aW.slot{s:Slot}{v:V}(h:aW K F H s v):ϩ K (bo F H) F H (some v) s/\s.own=false:=by
 cases s with
 |sh p=>exact⟨⟨v,rfl,h⟩,rfl⟩
 |bw ps=>obtain⟨a,vs,rfl,h1,h2,h3⟩:=h;refine⟨⟨a,vs,rfl,?_,h3⟩,rfl⟩;show(match F a with|none=>H a|some _=>none)=_;rw[h2];exact h1
 |no=>exact h.elim
 |ow ps=>exact h.elim
 |rc C ns ps=>exact h.elim
 |ot ps qs rs=>exact h.elim
 |ol ql=>exact h.elim
 |fr ql=>exact h.elim
 |bn qs rows=>exact h.elim
 |dw eR=>
  obtain⟨a,ts,rfl,h1,h2,h3⟩:=h;have lt:∀{x:À} {u:HO},H x=some u->F x=none->(bo F H).L x=some u:=fun{x u} e1 e2=>by show(match F x with|none=>H x|some _=>none)=_;rw[e2];exact e1
  exact⟨⟨a,ts,rfl,lt h1 h2,jl h3 λt d _ ⟨xs,b,vs,k1,k2,k3,k4⟩=>⟨xs,b,vs,k1,k2,lt k3.1 k3.2,k4⟩⟩,rfl⟩
noncomputable def đ(n:Nat)(as:List Slot):ć:=as++Ê (n-as.length) .no
theorem ę.start{N:List Str}{as:List Slot}{vs:List V}(s:Õ F H)(h:Paired (aW K F H) as vs):ę K (bo F H) F H (L2.start N vs) (đ N.length as) where
 sub:=s
 base:=Õ.refl H
 f0:=Õ.refl F
 bS:=λ_ _ h=>h
 lent:=λ_ _ e=>ϓ e
 lb:=fun a e=>by
   cases q:(bo F H).L a with
   |none=>rfl
   |some u=>have e':H a=none:=e;rw[(ϓ q).1] at e';cases e'
 len:=by unfold L2.start đ;simp[Paired.length h]
 slot:=λi s' e=>by
  unfold đ at e;by_cases hi:i<as.length
  ·rw[aG hi] at e;obtain⟨v,h1,h2⟩:=de h e;have hv:((L2.start N vs)[i]?).getD none=some v:=by
    unfold L2.start;rw[aG (by simpa[<-Paired.length h] using hi),Ņ,h1];rfl
   rw[hv];exact(aW.slot h2).1
  ·rw[fk (by lia),fq] at e;split at e
   ·cases e;trivial
   ·cases e
 sep:=λi j a h1 _=>by
  obtain⟨s',y,h1,_,h2⟩:=h1;have h2:=gb h2;exfalso;unfold đ at h1;by_cases hi:i<as.length
  ·rw[aG hi] at h1;obtain⟨v,_,h3⟩:=de h h1;rw[(aW.slot h3).2] at h2;cases h2
  ·rw[fk (by lia),fq] at h1;split at h1
   ·cases h1;cases h2
   ·cases h1
end
structure PX where
 C:String
 ns:List Str
 ps:List PV
def wr(K:KK)(F:Hp)(x:PX)(C:Á)(d:Option À):Prop:=C=.ref (K.cm x.C)/\∃fs,oG F d fs/\fs.map (·.1)=x.ns/\Û K F x.ps (fs.map (·.2))/\(x.ns=[]->d=none)
inductive ĳ(α:Type) where
 |ok (a:α) (O:ć)|exc (x:PX) (O:ć)|bad
noncomputable def ĳ.bind{α β:Type}(r:ĳ α)(f:α->ć->ĳ β):ĳ β:= match r with
 | .ok a O=>f a O
 | .exc x O=>.exc x O
 | .bad=>.bad
@[simp] theorem ĳ.bK{α β:Type}{a:α}{O:ć}{f:α->ć->ĳ β}:(ĳ.ok a O).bind f=f a O:= rfl
@[simp] theorem ĳ.PP{α β:Type}{x:PX}{O:ć}{f:α->ć->ĳ β}:(ĳ.exc x O:ĳ α).bind f=.exc x O:= rfl
@[simp] theorem ĳ.PQ{α β:Type}{f:α->ć->ĳ β}:(ĳ.bad:ĳ α).bind f=.bad:=rfl
def ĳ.Aq{α:Type}(o:Option α)(O:ć):ĳ α:= match o with
 |some a=>.ok a O
 |none=>.bad
@[simp] theorem ĳ.PR{α:Type}{a:α}{O:ć}:ĳ.Aq (some a) O=.ok a O:= rfl
@[simp] theorem ĳ.PU{α:Type}{O:ć}:ĳ.Aq (none:Option α) O=.bad:=rfl
abbrev M(α:Type):=ć->ĳ α
inductive RV where
 |sh (p:PV)|ow (ps:List PV)|ot (ps qs rs:List PV)|bn (t:Bool) (ps qs rows:List PV)
noncomputable def RV.val:RV->PV
 | .sh p=>p
 | .ow ps=>.lst ps
 | .ot ps qs rs=>.tup (ps ++ .lst qs::rs)
 | .bn t ps qs rows=>Sr t ps qs rows
noncomputable def RV.slot:RV->Slot
 | .sh p=>.sh p
 | .ow ps=>.ow ps
 | .ot ps qs rs=>.ot ps qs rs
 | .bn t ps qs rows=>if t then .sh (Sr t ps qs rows) else .bn qs rows
abbrev RR(α β:Type):=Ctx->Ą->ć->Hp->Hp->α->β->Prop
def rV(K:KK):RR PV V:=λ_ _ _ F _ p v=>Ć K F p v
def Ar(K:KK)(F H:Hp)(p:PV)(v:V):Prop:=match p with
 | .lst ps=>∃a vs,v=.ref a/\H a=some (.lst vs)/\Û K F ps vs
 | .ins C ns ps=>∃a dx fs,v=.ref a/\H a=some (.ins (K.cm C) dx fs)/\fs.map (·.1)=ns/\Û K F ps (fs.map (·.2))
 |_=>False
def rR(K:KK):RR PV V:=λ_ _ _ F H p v=>Ć K F p v\/Ar K F H p v
def rA(K:KK):RR (List Slot) (List V):=λ_ _ _ F H as vs=>Paired (aW K F H) as vs
def Fj(K:KK)(c:Ctx)(Y:Ą)(O:ć)(F H:Hp)(ps:List PV)(v:V):Prop:=∃a vs,v=.ref a/\H a=some (.lst vs)/\F a=none/\c.B a=none/\eW F Y O a/\Û K F ps vs
def As(K:KK)(c:Ctx)(Y:Ą)(O:ć)(F H:Hp)(ps qs rs:List PV)(v:V):Prop:=∃p a xs vs ys,v=.ref p/\F p=some (.tup (xs ++ .ref a::ys))/\Û K F ps xs/\H a=some (.lst vs)/\F a=none/\c.B a=none/\eW F Y O a/\Û K F qs vs/\Û K F rs ys
def rO(K:KK):RR RV V:=λc Y O F H r v=>match r with
 | .sh p=>Ć K F p v
 | .ow ps=>Fj K c Y O F H ps v
 | .ot ps qs rs=>As K c Y O F H ps qs rs v
 | .bn t ps qs rows=>jA K c.B F t ps qs rows v
def rL(K:KK):RR (List PV) (List V):=λ_ _ _ F _ p v=>Û K F p v
def LV(K:KK):RR (List PV) (List V):=λc Y O F H p v=>Paired (rR K c Y O F H) p v
def rB:RR Bool Bool:=λ_ _ _ _ _ p v=>p=v
def rI:RR (Option Int) (Option Int):=λ_ _ _ _ _ p v=>p=v
def ϔ{α β:Type}(K:KK)(E:Ą->XK)(R:RR α β)(c:Ctx)(F H:Hp)(Y:Ą)(Q:β->Hp->Prop):ĳ α->Prop
 | .ok p O'=>∀v F' H',ę K c F' H' Y O'->Õ F F'->Õ H H'->R c Y O' F' H' p v->Q v H'
 | .exc x O'=>∀C d F' H',ę K c F' H' Y O'->Õ F F'->wr K F' x C d->E Y C d H'
 | .bad=>False
def tG{α β:Type}(K:KK)(E:Ą->XK)(R:RR α β)(m:M α):Ą->Hp->(β->Hp->Prop)->Prop:=λY H Q=>∃c F O,ę K c F H Y O/\ϔ K E R c F H Y Q (m O)
section
variable{α β α' β':Type}{K:KK}{E:Ą->XK}{R:RR α β}{R':RR α' β'}{c:Ctx}{F F1 H H1:Hp}{Y:Ą}
def ϔ.mono{Q:β->Hp->Prop}{r:ĳ α}(h:ϔ K E R c F H Y Q r)(sF:Õ F F1)(sH:Õ H H1):ϔ K E R c F1 H1 Y Q r:=by
 cases r with
 |ok p O'=>exact λv F' H' rel s1 s2 q=>h v F' H' rel (sF.trans s1) (sH.trans s2) q
 |exc x O'=>exact λC d F' H' rel s1 q=>h C d F' H' rel (sF.trans s1) q
 |bad=>exact h
theorem ϔ.bind{Q:β->Hp->Prop}{Q':β'->Hp->Prop}{r:ĳ α}{f:α->ć->ĳ α'}(h:ϔ K E R' c F H Y Q' (r.bind f))
 (k:∀p O1 v F1 H1,ę K c F1 H1 Y O1->Õ F F1->Õ H H1->R c Y O1 F1 H1 p v->ϔ K E R' c F1 H1 Y Q' (f p O1)->Q v H1):ϔ K E R c F H Y Q r:=by
 cases r with
 |ok p O'=>exact λv F' H' rel s1 s2 q=>k p O' v F' H' rel s1 s2 q (ϔ.mono (show ϔ K E R' c F H Y Q' (f p O') from h) s1 s2)
 |exc x O'=>exact h
 |bad=>exact h
theorem ϔ.rel{R2:RR α β}{Q:β->Hp->Prop}{r:ĳ α}(h:ϔ K E R c F H Y Q r)(k:∀p O' v F' H',ę K c F' H' Y O'->R2 c Y O' F' H' p v->R c Y O' F' H' p v):ϔ K E R2 c F H Y Q r:=by
 cases r with
 |ok p O'=>exact λv F' H' rel s1 s2 q=>h v F' H' rel s1 s2 (k p O' v F' H' rel q)
 |exc x O'=>exact h
 |bad=>exact h
end
abbrev tV(K:KK)(E:Ą->XK)(m:M PV):TE:=tG K E (rV K) m
abbrev tR(K:KK)(E:Ą->XK)(m:M PV):TE:=tG K E (rR K) m
abbrev tO(K:KK)(E:Ą->XK)(m:M RV):TE:=tG K E (rO K) m
abbrev tL(K:KK)(E:Ą->XK)(m:M (List PV)):TA:=tG K E (rL K) m
abbrev tA(K:KK)(E:Ą->XK)(m:M (List Slot)):TA:=tG K E (rA K) m
abbrev Fs(K:KK)(E:Ą->XK)(m:M (List PV)):TA:=tG K E (LV K) m
abbrev tB(K:KK)(E:Ą->XK)(m:M Bool):TT:=tG K E rB m
inductive Fl where
 |nx|bk|ct|rt (r:RV)
def Œ(K:KK)(E:Ą->XK)(c:Ctx)(F:Hp)(D:Ends):ĳ Fl->Prop
 | .ok .nx O'=>∀Y' F' H',ę K c F' H' Y' O'->Õ F F'->D.nx Y' H'
 | .ok .bk O'=>∀Y' F' H',ę K c F' H' Y' O'->Õ F F'->D.bk Y' H'
 | .ok .ct O'=>∀Y' F' H',ę K c F' H' Y' O'->Õ F F'->D.ct Y' H'
 | .ok (.rt r) O'=>∀v Y' F' H',ę K c F' H' Y' O'->Õ F F'->rO K c Y' O' F' H' r v->D.rt v H'
 | .exc x O'=>∀Y' C d F' H',ę K c F' H' Y' O'->Õ F F'->wr K F' x C d->E Y' C d H'
 | .bad=>False
def tS(K:KK)(E:Ą->XK)(m:M Fl):TS:=λD Y H=>∃c F O,ę K c F H Y O/\Œ K E c F D (m O)
section
variable{K:KK}{E:Ą->XK}{c:Ctx}{F F1:Hp}{D:Ends}
def Œ.mono{r:ĳ Fl}(h:Œ K E c F D r)(sF:Õ F F1):Œ K E c F1 D r:=by
 cases r with
 |ok f O'=>
  cases f with
  |rt v=>exact λv Y' F' H' rel s1 q=>h v Y' F' H' rel (sF.trans s1) q
  |nx=>exact λY' F' H' rel s1=>h Y' F' H' rel (sF.trans s1)
  |bk=>exact λY' F' H' rel s1=>h Y' F' H' rel (sF.trans s1)
  |ct=>exact λY' F' H' rel s1=>h Y' F' H' rel (sF.trans s1)
 |exc x O'=>exact λY' C d F' H' rel s1 q=>h Y' C d F' H' rel (sF.trans s1) q
 |bad=>exact h
theorem Œ.bind{α β:Type}{R:RR α β}{Y:Ą}{H:Hp}{Q:β->Hp->Prop}{r:ĳ α}{f:α->ć->ĳ Fl}(h:Œ K E c F D (r.bind f))
 (k:∀p O1 v F1 H1,ę K c F1 H1 Y O1->Õ F F1->R c Y O1 F1 H1 p v->Œ K E c F1 D (f p O1)->Q v H1):ϔ K E R c F H Y Q r:=by
 cases r with
 |ok p O'=>exact λv F' H' rel s1 s2 q=>k p O' v F' H' rel s1 q (Œ.mono (show Œ K E c F D (f p O') from h) s1)
 |exc x O'=>exact λC d F' H' rel s1 q=>h Y C d F' H' rel s1 q
 |bad=>exact h
end
open PySem PySem.Spec PyProof.Rows L2 M2
noncomputable def ì(i:Nat):M PV:=λO=>match O[i]? with
 |some (.sh p)=>.ok p O
 |some (.ow ps)=>.ok (.lst ps) (O.set i (.sh (.lst ps)))
 |some (.bn qs rows)=>.ok (.lst (.lst qs::rows)) O
 |_=>.bad
noncomputable def È(i:Nat):M PV:=λO=>match O[i]? with
 |some (.sh p)=>.ok p O
 |some (.ow ps)=>.ok (.lst ps) O
 |some (.bw ps)=>.ok (.lst ps) O
 |some (.rc C ns ps)=>.ok (.ins C ns ps) O
 |some (.bn qs rows)=>.ok (.lst (.lst qs::rows)) O
 |_=>.bad
noncomputable def oM(i:Nat):M RV:=λO=>match O[i]? with
 |some (.sh p)=>.ok (.sh p) O
 |some (.ow ps)=>.ok (.ow ps) (O.set i .no)
 |_=>.bad
@[simp] def mC(p:PV)(O:ć):ĳ PV:= .ok p O
abbrev Ï(i:Int):M PV:= mC (.int i)
@[simp] def aw(m:M PV)(O:ć):ĳ RV:= (m O).bind λp O1=>.ok (.sh p) O1
@[simp] def ß(m:M RV)(O:ć):ĳ PV:= (m O).bind λr O1=>.ok r.val O1
section
variable{K:KK}{c:Ctx}{F H:Hp}{Y:Ą}{O:ć}
def ŏ{i:Nat}{x:V}(h:(Y[i]?).getD none=some x):Y[i]?=some (some x):=by
 cases q:Y[i]? with
 |none=>rw[q] at h;cases h
 |some y=>rw[q] at h;exact congrArg some h
theorem ę.ow(r:ę K c F H Y O){i:Nat}{ps:List PV}(e:O[i]?=some (.ow ps)):∃a vs,Y[i]?=some (some (.ref a))/\H a=some (.lst vs)/\F a=none/\c.B a=none/\Û K F ps vs/\Ō F Y O i a:=by obtain⟨a,vs,h1,h2,h3,h4,h5⟩:=r.slot i _ e;exact⟨a,vs,ŏ h1,h2,h3,h4,h5,⟨_,_,e,ŏ h1,rfl⟩⟩
def ę.move(r:ę K c F H Y O){i:Nat}{a:À}(h:Ō F Y O i a):ę K c F H Y (O.set i .no)/\eW F Y (O.set i .no) a:=by
 refine⟨r.C4 rfl trivial,λj ⟨s,y,q1,q3,q2⟩=>?_⟩;rcases ř q1 with⟨_,rfl,_⟩|⟨hj,q⟩
 ·exact q2.elim
 ·exact hj (r.sep j i a ⟨s,y,q,q3,q2⟩ h)
def ę.share(r:ę K c F H Y O){i:Nat}{ps:List PV}(e:O[i]?=some (.ow ps)):∃a vs,Y[i]?=some (some (.ref a))/\F a=none/\Ć K (upd F a (.lst vs)) (.lst ps) (.ref a)/\ę K c (upd F a (.lst vs)) H Y (O.set i (.sh (.lst ps))):=by
 obtain⟨a,vs,h1,h2,h3,h4,h5,ho⟩:=r.ow e;obtain⟨m1,m2⟩:=r.move ho;have rp:Ć K (upd F a (.lst vs)) (.lst ps) (.ref a):=by unfold Ć;exact⟨a,vs,rfl,ϒ.of ã,h5.same (Õ.upd h3) ps vs⟩
 have q:=(m1.freeze h2 h4 h3 m2).C4 (i:=i) (s:=.sh (.lst ps)) rfl (show ϩ K c _ H _ (.sh (.lst ps)) from⟨.ref a,by rw[h1];rfl,rp⟩);rw[List.set_set] at q;exact⟨a,vs,h1,h3,rp,q⟩
def Ar.mono{F1 H1:Hp}{p:PV}{v:V}(h:Ar K F H p v)(sF:Õ F F1)(sH:Õ H H1):Ar K F1 H1 p v:=by
 cases p with
 |lst ps=>obtain⟨a,vs,h2,h3,h4⟩:=h;exact⟨a,vs,h2,sH _ _ h3,h4.same sF ps vs⟩
 |ins C ns ps=>obtain⟨a,dx,fs,h2,h3,h4,h5⟩:=h;exact⟨a,dx,fs,h2,sH _ _ h3,h4,h5.same sF ps _⟩
 |_=>exact h.elim
theorem rR.mono{c:Ctx}{Y:Ą}{O O':ć}{F1 H1:Hp}{p:PV}{v:V}(h:rR K c Y O F H p v)(sF:Õ F F1)(sH:Õ H H1):rR K c Y O' F1 H1 p v:=by
 rcases h with h|h
 ·exact .inl (h.same sF p v)
 ·exact .inr (h.mono sF sH)
theorem rR.lst{c:Ctx}{Y:Ą}{O:ć}{ps:List PV}{v:V}(s:Õ F H)(h:rR K c Y O F H (.lst ps) v):∃a vs,v=.ref a/\ϒ K.K H a vs/\Û K F ps vs:=by
 rcases h with h|⟨a,vs,h2,h3,h4⟩
 ·unfold Ć at h;obtain⟨a,xs,h1,h2,h3⟩:=h;exact⟨a,xs,h1,s.seq h2,h3⟩
 ·exact⟨a,vs,h2,ϒ.of h3,h4⟩
theorem rR.tup{c:Ctx}{Y:Ą}{O:ć}{ps:List PV}{v:V}(s:Õ F H)(h:rR K c Y O F H (.tup ps) v):∃a vs,v=.ref a/\eQ K.K H a vs/\Û K F ps vs:=by
 rcases h with h|h
 ·unfold Ć at h;obtain⟨a,xs,h1,h2,h3⟩:=h;exact⟨a,xs,h1,Õ.tup s h2,h3⟩
 ·exact h.elim
theorem rR.int{c:Ctx}{Y:Ą}{O:ć}{i:Int}{v:V}(h:rR K c Y O F H (.int i) v):v=.int i:=by
 rcases h with h|h
 ·unfold Ć at h;exact h
 ·exact h.elim
theorem rR.str{c:Ctx}{Y:Ą}{O:ć}{i:Str}{v:V}(h:rR K c Y O F H (.str i) v):v=.str i:=by
 rcases h with h|h
 ·unfold Ć at h;exact h
 ·exact h.elim
theorem rR.bl{c:Ctx}{Y:Ą}{O:ć}{i:Bool}{v:V}(h:rR K c Y O F H (.bl i) v):v=.bl i:=by
 rcases h with h|h
 ·unfold Ć at h;exact h
 ·exact h.elim
theorem rR.non{c:Ctx}{Y:Ą}{O:ć}{v:V}(h:rR K c Y O F H .non v):v=.non:=by
 rcases h with h|h
 ·unfold Ć at h;exact h
 ·exact h.elim
theorem rR.ty{c:Ctx}{Y:Ą}{O:ć}{n:String}{v:V}(h:rR K c Y O F H (.ty n) v):v=.ty n:=by
 rcases h with h|h
 ·unfold Ć at h;exact h
 ·exact h.elim
theorem Ć.int{i:Int}:Ć K F (.int i) (.int i):=by unfold Ć;rfl
theorem Ć.str{i:Str}:Ć K F (.str i) (.str i):=by unfold Ć;rfl
theorem Ć.bl{i:Bool}:Ć K F (.bl i) (.bl i):=by unfold Ć;rfl
theorem Ć.non:Ć K F .non .non:=by unfold Ć;rfl
end
section
variable{X:Cx}{cm:String->À}{E:Ą->XK}{a b e:Æ}{es:List Æ}{pos:Pos}{m ma mb mc:M PV}{mo:M RV}
def PT.wk{t t':TT}(h:PT X e t)(i:∀Y H Q,t' Y H Q->t Y H Q):PT X e t':=λÃ s Y H Q I q=>h Ã s Y H Q I (i Y H Q q)
def PA.wk{t t':TA}(h:PA X es t)(i:∀Y H Q,t' Y H Q->t Y H Q):PA X es t':=λpos Ã s Y H Q I q=>h pos Ã s Y H Q I (i Y H Q q)
def PW.wk{t t':TT}(h:PW X e t)(i:∀Y H Q,t' Y H Q->t Y H Q):PW X e t':=λwh Ã s Y H Q I q=>h wh Ã s Y H Q I (i Y H Q q)
def ay.wk{st:List Ò}{t t':TS}(h:ay X st t)(i:∀D Y H,t' D Y H->t D Y H):ay X st t':=λÃ s Y H D I q=>h Ã s Y H D I (i D Y H q)
def v_var(i:Nat){x:Str}{pos:Pos}(hN:X.N[i]?=some x:=by rfl)(hv:Bi X.env.scope x:=by first|exact ĕ rfl|exact ĉ (ĕ rfl)|exact ĉ (ĉ rfl))(hd:(x== ("__debug__" :Str))=false:=by decide)
 (gE:(x== ("__classdict__" :Str))=false:=by decide):PE X (.Name x pos) (tV (kk X cm) E (ì i)):=PE.wk (gL hN hv hd gE) λY H Q ⟨c,F,O,rel,h⟩=>by
 unfold ì at h;split at h
 ·rename_i p e;obtain⟨v,h1,h2⟩:=rel.slot i _ e;exact⟨v,ŏ h1,h v F H rel (Õ.refl F) (Õ.refl H) h2⟩
 ·rename_i ps e;obtain⟨a,vs,h1,h2,h3,h4⟩:=rel.share e;exact⟨.ref a,h1,h _ _ H h4 (Õ.upd h2) (Õ.refl H) h3⟩
 ·rename_i qs rows e;obtain⟨v,h1,h2⟩:=rel.slot i _ e;exact⟨v,ŏ h1,h v F H rel (Õ.refl F) (Õ.refl H) h2.rep⟩
 ·exact h.elim
def Í(i:Nat){x:Str}{pos:Pos}(hN:X.N[i]?=some x:=by rfl)(hv:Bi X.env.scope x:=by first|exact ĕ rfl|exact ĉ (ĕ rfl)|exact ĉ (ĉ rfl))(hd:(x== ("__debug__" :Str))=false:=by decide)
 (gE:(x== ("__classdict__" :Str))=false:=by decide):PE X (.Name x pos) (tR (kk X cm) E (È i)):=PE.wk (gL hN hv hd gE) λY H Q ⟨c,F,O,rel,h⟩=>by
 unfold È at h;split at h
 ·rename_i p e;obtain⟨v,h1,h2⟩:=rel.slot i _ e;exact⟨v,ŏ h1,h v F H rel (Õ.refl F) (Õ.refl H) (.inl h2)⟩
 ·rename_i ps e;obtain⟨a,vs,h1,h2,h3,h4,h5,_⟩:=rel.ow e;exact⟨.ref a,h1,h _ F H rel (Õ.refl F) (Õ.refl H) (.inr ⟨a,vs,rfl,h2,h5⟩)⟩
 ·rename_i ps e;obtain⟨a,vs,h1,h2,h3⟩:=rel.slot i _ e;exact⟨.ref a,ŏ h1,h _ F H rel (Õ.refl F) (Õ.refl H) (.inr ⟨a,vs,rfl,(rel.lent a _ h2).1,h3⟩)⟩
 ·rename_i C ns ps e;obtain⟨a,dx,fs,h1,h2,h3,h4,h5,h6⟩:=rel.slot i _ e;exact⟨.ref a,ŏ h1,h _ F H rel (Õ.refl F) (Õ.refl H) (.inr ⟨a,dx,fs,rfl,h2,h5,h6.1⟩)⟩
 ·rename_i qs rows e;obtain⟨v,h1,h2⟩:=rel.slot i _ e;exact⟨v,ŏ h1,h v F H rel (Õ.refl F) (Õ.refl H) (.inl h2.rep)⟩
 ·exact h.elim
def Au(i:Nat){x:Str}{pos:Pos}(hN:X.N[i]?=some x:=by rfl)(hv:Bi X.env.scope x:=by first|exact ĕ rfl|exact ĉ (ĕ rfl)|exact ĉ (ĉ rfl))(hd:(x== ("__debug__" :Str))=false:=by decide)
 (gE:(x== ("__classdict__" :Str))=false:=by decide):PE X (.Name x pos) (tO (kk X cm) E (oM i)):=PE.wk (gL hN hv hd gE) λY H Q ⟨c,F,O,rel,h⟩=>by
 unfold oM at h;split at h
 ·rename_i p e;obtain⟨v,h1,h2⟩:=rel.slot i _ e;exact⟨v,ŏ h1,h v F H rel (Õ.refl F) (Õ.refl H) h2⟩
 ·rename_i ps e;obtain⟨a,vs,h1,h2,h3,h4,h5,h6⟩:=rel.ow e;obtain⟨m1,m2⟩:=rel.move h6;exact⟨.ref a,h1,h _ F H m1 (Õ.refl F) (Õ.refl H) ⟨a,vs,rfl,h2,h3,h4,m2,h5⟩⟩
 ·exact h.elim
def kL{v:V}(p:PV)(h:PE X e (tC v))(hr:∀F,Ć (kk X cm) F p v:=by intro _;unfold Ć;rfl):PE X e (tV (kk X cm) E (mC p)):=PE.wk h λY H Q ⟨c,F,O,rel,h⟩=>h v F H rel (Õ.refl F) (Õ.refl H) (hr F)
def œ{i j pos}:PE X (.Constant (.int i) j pos) (tV (kk X cm) E (mC (.int i))):=kL _ uu
def LW{i j pos}:PE X (.Constant (.bool i) j pos) (tV (kk X cm) E (mC (.bl i))):=kL _ Pd
def lS{j pos}:PE X (.Constant .none j pos) (tV (kk X cm) E (mC .non)):=kL _ KZ
def û{x j pos}:PE X (.Constant (.str x) j pos) (tV (kk X cm) E (mC (.str x))):=kL _ K_
def ï(h:PE X e (tV (kk X cm) E m)):PE X e (tR (kk X cm) E m):=PE.wk h λY H Q ⟨c,F,O,rel,h⟩=>⟨c,F,O,rel,h.rel λ_ _ _ _ _ _ q=>.inl q⟩
def jf(h:PE X e (tV (kk X cm) E m)):PE X e (tO (kk X cm) E (aw m)):=PE.wk h λY H Q ⟨c,F,O,rel,h⟩=>⟨c,F,O,rel,h.bind λp O1 v F1 H1 Ù s1 s2 q h1=>h1 v F1 H1 Ù Ď Ď q⟩
def Fj.share{K:KK}{c:Ctx}{F H:Hp}{Y:Ą}{O:ć}{ps:List PV}{v:V}(rel:ę K c F H Y O)(h:Fj K c Y O F H ps v):∃F1,Õ F F1/\ę K c F1 H Y O/\Ć K F1 (.lst ps) v:=by obtain⟨a,vs,rfl,h1,h2,h3,h4,h5⟩:=h;refine⟨_,Õ.upd h2,rel.freeze h1 h3 h2 h4,?_⟩;unfold Ć;exact⟨a,vs,rfl,ϒ.of ã,h5.same (Õ.upd h2) ps vs⟩
def As.share{K:KK}{c:Ctx}{F H:Hp}{Y:Ą}{O:ć}{ps qs rs:List PV}{v:V}(rel:ę K c F H Y O)(h:As K c Y O F H ps qs rs v):∃F1,Õ F F1/\ę K c F1 H Y O/\Ć K F1 (.tup (ps ++ .lst qs::rs)) v:=by
 obtain⟨p,a,xs,vs,ys,rfl,h0,hx,h1,h2,h3,h4,h5,h6⟩:=h;refine⟨_,Õ.upd h2,rel.freeze h1 h3 h2 h4,?_⟩;have ra:Ć K (upd F a (.lst vs)) (.lst qs) (.ref a):=by unfold Ć;exact⟨a,vs,rfl,ϒ.of ã,h5.same (Õ.upd h2) qs vs⟩
 unfold Ć;exact⟨p,_,rfl,eQ.of (Õ.upd h2 _ _ h0),Û.append (hx.same (Õ.upd h2) ps xs) (Û.cons ra (h6.same (Õ.upd h2) rs ys))⟩
def ÿ(h:PE X e (tO (kk X cm) E mo)):PE X e (tV (kk X cm) E (ß mo)):=PE.wk h λY H Q ⟨c,F,O,rel,h⟩=>⟨c,F,O,rel,h.bind λr O1 v F1 H1 Ù s1 s2 q h1=>by
 cases r with
 |sh p=>exact h1 v F1 H1 Ù Ď Ď q
 |ow ps=>obtain⟨F2,s3,Ę,rp⟩:=Fj.share Ù q;exact h1 v F2 H1 Ę s3 Ď rp
 |ot ps qs rs=>obtain⟨F2,s3,Ę,rp⟩:=As.share Ù q;exact h1 v F2 H1 Ę s3 Ď rp
 |bn t ps qs rows=>exact h1 v F1 H1 Ù Ď Ď (jA.rep q)⟩
@[simp] def Ô(f:PV->PV->Option PV)(ma mb:M PV)(O:ć):ĳ PV:= (ma O).bind λp O1=>(mb O1).bind λq O2=>ĳ.Aq (f p q) O2
@[simp] def Ĉ(f:PV->PV->Option RV)(ma mb:M PV)(O:ć):ĳ RV:= (ma O).bind λp O1=>(mb O1).bind λq O2=>ĳ.Aq (f p q) O2
def kM(K:KK)(r:R2)(f:PV->PV->Option PV):Prop:=∀{c:Ctx} {F H:Hp} {Y:Ą} {O:ć} {p q pv:PV} {v u:V} {Q:VK},ę K c F H Y O->rR K c Y O F H p v->rR K c Y O F H q u->f p q=some pv->
 (∀z F' H',ę K c F' H' Y O->Õ F F'->Õ H H'->Ć K F' pv z->Q z H')->r v u H Q
def UD(K:KK)(r:R2)(f:PV->PV->Option RV):Prop:=∀{c:Ctx} {F H:Hp} {Y:Ą} {O:ć} {p q:PV} {pv:RV} {v u:V} {Q:VK},ę K c F H Y O->rR K c Y O F H p v->rR K c Y O F H q u->f p q=some pv->
 (∀z F' H',ę K c F' H' Y O->Õ F F'->Õ H H'->rO K c Y O F' H' pv z->Q z H')->r v u H Q
def Av{r:R2}{f:PV->PV->Option PV}(hf:kM (kk X cm) r f){Y:Ą}{H:Hp}{Q:VK}(h:tV (kk X cm) E (Ô f ma mb) Y H Q):Hy r (tR (kk X cm) E ma) (tR (kk X cm) E mb) Y H Q:=by
 obtain⟨c,F,O,rel,h⟩:=h;refine⟨c,F,O,rel,h.bind λp O1 v F1 H1 Ù _ _ r1 h1=>⟨c,F1,O1,Ù,h1.bind λq O2 u F2 H2 Ę sF sH r2 h2=>?_⟩⟩;cases e:f p q with
 |none=>rw[e] at h2;exact h2.elim
 |some pv=>rw[e] at h2;exact hf Ę (r1.mono sF sH) r2 e λz F' H' Ś s1 s2 q'=>h2 z F' H' Ś s1 s2 q'
def PZ{r:R2}{f:PV->PV->Option RV}(hf:UD (kk X cm) r f){Y:Ą}{H:Hp}{Q:VK}(h:tO (kk X cm) E (Ĉ f ma mb) Y H Q):Hy r (tR (kk X cm) E ma) (tR (kk X cm) E mb) Y H Q:=by
 obtain⟨c,F,O,rel,h⟩:=h;refine⟨c,F,O,rel,h.bind λp O1 v F1 H1 Ù _ _ r1 h1=>⟨c,F1,O1,Ù,h1.bind λq O2 u F2 H2 Ę sF sH r2 h2=>?_⟩⟩;cases e:f p q with
 |none=>rw[e] at h2;exact h2.elim
 |some pv=>rw[e] at h2;exact hf Ę (r1.mono sF sH) r2 e λz F' H' Ś s1 s2 q'=>h2 z F' H' Ś s1 s2 q'
def rD{op:Operator}{r:R2}{f:PV->PV->Option PV}(hf:kM (kk X cm) r f)(ho:aD X (ŋ op) r)(ha:PE X a (tR (kk X cm) E ma))(hb:PE X b (tR (kk X cm) E mb)):PE X (.BinOp a op b pos) (tV (kk X cm) E (Ô f ma mb)):=PE.wk (Cp ho ha hb) λ_ _ _ h=>Av hf h
def P_{op:Operator}{r:R2}{f:PV->PV->Option RV}(hf:UD (kk X cm) r f)(ho:aD X (ŋ op) r)(ha:PE X a (tR (kk X cm) E ma))(hb:PE X b (tR (kk X cm) E mb)):PE X (.BinOp a op b pos) (tO (kk X cm) E (Ĉ f ma mb)):=PE.wk (Cp ho ha hb) λ_ _ _ h=>PZ hf h
def lU{op:cE}{r:R2}{f:PV->PV->Option PV}(hf:kM (kk X cm) r f)(ho:aD X (ı op) r)(ha:PE X a (tR (kk X cm) E ma))(hb:PE X b (tR (kk X cm) E mb))(hm:iz op b=false):PE X (.Compare a [op] [b] pos) (tV (kk X cm) E (Ô f ma mb)):=
 PE.wk (FK ho ha hb hm) λ_ _ _ h=>Av hf h
def UE{r:R2}{f:PV->PV->Option PV}(hf:kM (kk X cm) r f)(hr:xU X r)(ha:PE X a (tR (kk X cm) E ma))(hb:PE X b (tR (kk X cm) E mb))(hs:nP b):PE X (.Subscript a b pos) (tV (kk X cm) E (Ô f ma mb)):=
 PE.wk (CD hr ha hb hs) λ_ _ _ h=>Av hf h
@[simp] def B7(f:PV->Option PV)(ma:M PV)(O:ć):ĳ PV:= (ma O).bind λp O1=>ĳ.Aq (f p) O1
def XC(K:KK)(r:V->Hp->VK->Prop)(f:PV->Option PV):Prop:=∀{c:Ctx} {F H:Hp} {Y:Ą} {O:ć} {p pv:PV} {v:V} {Q:VK},ę K c F H Y O->rR K c Y O F H p v->f p=some pv->
 (∀z F' H',ę K c F' H' Y O->Õ F F'->Õ H H'->Ć K F' pv z->Q z H')->r v H Q
def UF{op:UnaryOp}{r:V->Hp->VK->Prop}{f:PV->Option PV}(hf:XC (kk X cm) r f)(ho:FI X (unaryOp op) r)(ha:PE X a (tR (kk X cm) E ma)):PE X (.UnaryOp op a pos) (tV (kk X cm) E (B7 f ma)):=PE.wk (HA ho ha) λY H Q ⟨c,F,O,rel,h⟩=>
 ⟨c,F,O,rel,h.bind fun p O1 v F1 H1 Ù _ _ r1 h1=>by
   cases e:f p with
   |none=>rw[e] at h1;exact h1.elim
   |some pv=>rw[e] at h1;exact hf Ù r1 e λz F' H' Ś s1 s2 q'=>h1 z F' H' Ś s1 s2 q'⟩
noncomputable def OV:PV->Option Bool
 | .bl b=>some b
 | .int i=>some (i != 0)
 | .non=>some false
 | .str y=>if y.length<=sizeLine then some ((y.length:Int) != 0) else none
 | .lst ps=>some (!ps.isEmpty)
 | .tup ps=>some (!ps.isEmpty)
 |_=>none
@[simp] def eJ(m:M PV)(O:ć):ĳ Bool:= (m O).bind λp O1=>ĳ.Aq (OV p) O1
def P0{K:KK}{c:Ctx}{F H:Hp}{Y:Ą}{O:ć}{p:PV}{v:V}{k:Bool}(s:Õ F H)(r:rR K c Y O F H p v)(h:OV p=some k):Lg K.K v H k:=by
 cases p with
 |bl b=>cases r.bl;cases h;rfl
 |int i=>cases r.int;cases h;rfl
 |non=>cases r.non;cases h;rfl
 |str y=>
  cases r.str;have h':(if y.length<=sizeLine then some ((y.length:Int) != 0) else none)=some k:=h;split at h'
  ·rename_i hy;cases h';exact⟨hy,rfl⟩
  ·cases h'
 |lst ps=>
  obtain⟨a,vs,rfl,h1,h2⟩:=r.lst s;cases h;have e:ps.isEmpty=vs.isEmpty:=by cases h2.pr<;>rfl
  exact .inl ⟨vs,h1,by rw[e]⟩
 |tup ps=>
  obtain⟨a,vs,rfl,h1,h2⟩:=r.tup s;cases h;have e:ps.isEmpty=vs.isEmpty:=by cases h2.pr<;>rfl
  exact .inr (.inl ⟨vs,h1,by rw[e]⟩)
 |ins C ns ps=>cases h
 |xc C ns ps=>cases h
 |ty n=>cases h
 |cls C=>cases h
def aX(ha:PE X a (tR (kk X cm) E ma))(he:∀whole,isTrue a X.env whole=(do let v <-whole;iA a.pos;holding [v] (truthy v)):=by intro _;rfl):PT X a (tB (kk X cm) E (eJ ma)):=PT.wk (Cr ha he) λY H Q ⟨c,F,O,rel,h⟩=>
 ⟨c,F,O,rel,h.bind fun p O1 v F1 H1 Ù _ _ r1 h1=>by
   cases e:OV p with
   |none=>rw[e] at h1;exact h1.elim
   |some k=>rw[e] at h1;exact⟨k,P0 Ù.sub r1 e,h1 k F1 H1 Ù Ď Ď rfl⟩⟩
@[simp] def bU(m:M PV)(O:ć):ĳ Bool:= (m O).bind fun p O1=>match p with
  | .bl b=>.ok b O1
  |_=>.bad
def HG{Y:Ą}{H:Hp}{Q:Bool->Hp->Prop}(h:tB (kk X cm) E (bU m) Y H Q):M2.CJ (tV (kk X cm) E m) Y H Q:=by
 obtain⟨c,F,O,rel,h⟩:=h;refine⟨c,F,O,rel,h.bind λp O1 v F1 H1 Ù _ _ r1 h1=>?_⟩;cases p with
 |bl b=>
  have e:v=.bl b:=by have jc:Ć (kk X cm) F1 (.bl b) v:=r1;unfold Ć at jc;exact jc
  subst e;exact h1 b F1 H1 Ù Ď Ď rfl
 |_=>exact h1.elim
def df{op:cE}{r:R2}{f:PV->PV->Option PV}(hf:kM (kk X cm) r f)(ho:aD X (ı op) r)(ha:PE X a (tR (kk X cm) E ma))(hb:PE X b (tR (kk X cm) E mb))(hm:iz op b=false):PT X (.Compare a [op] [b] pos) (tB (kk X cm) E (bU (Ô f ma mb))):=
 PT.wk (Lu ho ha hb hm) fun Y H Q h=>by obtain⟨c,F,O,rel,h⟩:=HG h;exact Av hf ⟨c,F,O,rel,h⟩
@[simp] def qu(f g:PV→PV→Option PV)(ma mb mc:M PV)(O:ć):ĳ PV:= (ma O).bind fun p O1=>(mb O1).bind fun q O2=>(ĳ.Aq (f p q) O2).bind fun z O3=>match z with
  | .bl true=>(mc O3).bind λw O4=>ĳ.Aq (g q w) O4
  | .bl false=>.ok (.bl false) O3
  |_=>.bad
def HH{r r':R2}{f g:PV->PV->Option PV}(hf:kM (kk X cm) r f)(hg:kM (kk X cm) r' g){Y:Ą}{H:Hp}{Q:VK}(h:tV (kk X cm) E (qu f g ma mb mc) Y H Q):M2.xW r r' (tR (kk X cm) E ma) (tR (kk X cm) E mb) (tR (kk X cm) E mc) Y H Q:=by
 obtain⟨c,F,O,rel,h⟩:=h;refine⟨c,F,O,rel,h.bind λp O1 v F1 H1 Ù _ _ r1 h1=>⟨c,F1,O1,Ù,h1.bind λq O2 u F2 H2 Ę sF sH r2 h2=>?_⟩⟩;cases e:f p q with
 |none=>rw[e] at h2;exact h2.elim
 |some pv=>
  rw[e] at h2;refine hf Ę (r1.mono sF sH) r2 e λz F' H' Ś s1 s2 q'=>?_;cases pv with
  |bl k=>
   have ez:z=.bl k:=by unfold Ć at q';exact q'
   subst ez;cases k with
   |false=>exact h2 _ F' H' Ś s1 s2 q'
   |true=>
    refine⟨c,F',O2,Ś,ϔ.bind (ϔ.mono h2 s1 s2) λw O4 x F4 H4 qv s3 s4 r4 h4=>?_⟩;cases e':g q w with
    |none=>rw[e'] at h4;exact h4.elim
    |some pv'=>rw[e'] at h4;exact hg qv (r2.mono (s1.trans s3) (s2.trans s4)) r4 e' λz F' H' Ś s1 s2 q'=>h4 z F' H' Ś s1 s2 q'
  |_=>exact h2.elim
def rE{op za:cE}{r r':R2}{f g:PV->PV->Option PV}{c:Æ}(hf:kM (kk X cm) r f)(hg:kM (kk X cm) r' g)(ho:aD X (ı op) r)(yZ:aD X (ı za) r')(ha:PE X a (tR (kk X cm) E ma))(hb:PE X b (tR (kk X cm) E mb))(hc:PE X c (tR (kk X cm) E mc))
 (hm:lastMarks [op,za] [b,c]=false:=by with_unfolding_all rfl):PE X (.Compare a [op,za] [b,c] pos) (tV (kk X cm) E (qu f g ma mb mc)):=PE.wk (CK ho yZ ha hb hc hm) λ_ _ _ h=>HH hf hg h
def P1{op za:cE}{r r':R2}{f g:PV->PV->Option PV}{c:Æ}(hf:kM (kk X cm) r f)(hg:kM (kk X cm) r' g)(ho:aD X (ı op) r)(yZ:aD X (ı za) r')(ha:PE X a (tR (kk X cm) E ma))(hb:PE X b (tR (kk X cm) E mb))(hc:PE X c (tR (kk X cm) E mc))
 (hm:lastMarks [op,za] [b,c]=false:=by with_unfolding_all rfl):PT X (.Compare a [op,za] [b,c] pos) (tB (kk X cm) E (bU (qu f g ma mb mc))):=PT.wk (CL ho yZ ha hb hc hm) λY H Q h=>by
 obtain⟨c,F,O,rel,h⟩:=HG h;exact HH hf hg ⟨c,F,O,rel,h⟩
@[simp] def lV(m:M Bool)(O:ć):ĳ Bool:= (m O).bind λb O1=>.ok (!b) O1
def oN{m:M Bool}(h:PT X a (tB (kk X cm) E m)):PT X (.UnaryOp .Not a pos) (tB (kk X cm) E (lV m)):=PT.wk (K2 h) λY H Q ⟨c,F,O,rel,h⟩=>
 ⟨c,F,O,rel,h.bind λp O1 v F1 H1 Ù _ _ r1 h1=>h1 _ F1 H1 Ù Ď Ď (by have e:p=v:=r1;rw[e];rfl)⟩
@[simp] def kN(ma mb:M Bool)(O:ć):ĳ Bool:= (ma O).bind λb O1=>if b=true then mb O1 else .ok false O1
@[simp] def uK(ma mb:M Bool)(O:ć):ĳ Bool:= (ma O).bind λb O1=>if b=true then .ok true O1 else mb O1
variable{ta tb:M Bool}{ü:List Æ}
def gW(h:PT X a (tB (kk X cm) E ta)):PW X (.BoolOp .And [a] pos) (tB (kk X cm) E ta):=FF h
def lW(h:PT X a (tB (kk X cm) E ta)):PW X (.BoolOp .Or [a] pos) (tB (kk X cm) E ta):=K0 h
def w_and(ha:PT X a (tB (kk X cm) E ta))(hb:PW X (.BoolOp .And (b::ü) pos) (tB (kk X cm) E tb)):PW X (.BoolOp .And (a::b::ü) pos) (tB (kk X cm) E (kN ta tb)):=PW.wk (K1 ha hb) λY H Q ⟨c,F,O,rel,h⟩=>
 ⟨c,F,O,rel,h.bind fun p O1 v F1 H1 Ù _ _ r1 h1=>by
   have e:p=v:=r1;subst e;cases p with
   |true=>exact⟨c,F1,O1,Ù,h1⟩
   |false=>exact h1 false F1 H1 Ù Ď Ď rfl⟩
def w_or(ha:PT X a (tB (kk X cm) E ta))(hb:PW X (.BoolOp .Or (b::ü) pos) (tB (kk X cm) E tb)):PW X (.BoolOp .Or (a::b::ü) pos) (tB (kk X cm) E (uK ta tb)):=PW.wk (Pe ha hb) λY H Q ⟨c,F,O,rel,h⟩=>
 ⟨c,F,O,rel,h.bind fun p O1 v F1 H1 Ù _ _ r1 h1=>by
   have e:p=v:=r1;subst e;cases p with
   |false=>exact⟨c,F1,O1,Ù,h1⟩
   |true=>exact h1 true F1 H1 Ù Ď Ď rfl⟩
def gc(ma mb:M PV):M PV:=λO=>(ma O).bind λp O1=>match p with
 | .bl true=>mb O1
 | .bl false=>.ok (.bl false) O1
 |_=>.bad
def Ss(ma mb:M PV):M PV:=λO=>(ma O).bind λp O1=>match p with
 | .bl true=>.ok (.bl true) O1
 | .bl false=>mb O1
 |_=>.bad
@[simp] def P2(ma:M PV)(O:ć):ĳ PV:= (ma O).bind fun p O1=>match p with
  | .bl b=>.ok (.bl (!b)) O1
  |_=>.bad
def oO{K:KK}{F:Hp}{b:Bool}{v:V}(h:Ć K F (.bl b) v):v=.bl b:=by unfold Ć at h;exact h
def gX{op}(h:PE X a (tV (kk X cm) E ma)):PE X (.BoolOp op [a] pos) (tV (kk X cm) E ma):=K3 h
def v_and(ha:PE X a (tV (kk X cm) E ma))(hb:PE X (.BoolOp .And (b::ü) pos) (tV (kk X cm) E mb)):PE X (.BoolOp .And (a::b::ü) pos) (tV (kk X cm) E (gc ma mb)):=PE.wk (Lv ha hb) λY H Q ⟨c,F,O,rel,h⟩=>
 ⟨c,F,O,rel,h.bind fun p O1 v F1 H1 Ù _ _ r1 h1=>by
   cases p with
   |bl k=>
    cases oO r1;cases k with
    |true=>exact⟨c,F1,O1,Ù,h1⟩
    |false=>exact h1 _ F1 H1 Ù Ď Ď r1
   |_=>exact h1.elim⟩
def v_or(ha:PE X a (tV (kk X cm) E ma))(hb:PE X (.BoolOp .Or (b::ü) pos) (tV (kk X cm) E mb)):PE X (.BoolOp .Or (a::b::ü) pos) (tV (kk X cm) E (Ss ma mb)):=PE.wk (PD ha hb) λY H Q ⟨c,F,O,rel,h⟩=>
 ⟨c,F,O,rel,h.bind fun p O1 v F1 H1 Ù _ _ r1 h1=>by
   cases p with
   |bl k=>
    cases oO r1;cases k with
    |false=>exact⟨c,F1,O1,Ù,h1⟩
    |true=>exact h1 _ F1 H1 Ù Ď Ď r1
   |_=>exact h1.elim⟩
def v_not(ha:PE X a (tV (kk X cm) E ma)):PE X (.UnaryOp .Not a pos) (tV (kk X cm) E (P2 ma)):=PE.wk (Lw ha) λY H Q ⟨c,F,O,rel,h⟩=>
 ⟨c,F,O,rel,h.bind fun p O1 v F1 H1 Ù _ _ r1 h1=>by
   cases p with
   |bl k=>cases oO r1;exact h1 _ F1 H1 Ù Ď Ď Ć.bl
   |_=>exact h1.elim⟩
@[simp] def eK{α:Type}(t:M Bool)(ma mb:M α)(O:ć):ĳ α:= (t O).bind λb O1=>if b=true then ma O1 else mb O1
def UG{α:Type}{R:RR α V}{c':Æ}{ma mb:M α}(hc:PT X c' (tB (kk X cm) E ta))(ha:PE X a (tG (kk X cm) E R ma))(hb:PE X b (tG (kk X cm) E R mb)):PE X (.IfExp c' a b pos) (tG (kk X cm) E R (eK ta ma mb)):=PE.wk (Cg hc ha hb) λY H Q ⟨c,F,O,rel,h⟩=>
 ⟨c,F,O,rel,h.bind fun p O1 v F1 H1 Ù _ _ r1 h1=>by
   have e:p=v:=r1;subst e;cases p with
   |true=>exact⟨c,F1,O1,Ù,h1⟩
   |false=>exact⟨c,F1,O1,Ù,h1⟩⟩
@[simp] def á(O:ć):ĳ (List PV):= .ok [] O
@[simp] def Å(ma:M PV)(mr:M (List PV))(O:ć):ĳ (List PV):= (ma O).bind λp O1=>(mr O1).bind λps O2=>.ok (p::ps) O2
variable{mr:M (List PV)}
def ë:PA X [] (tL (kk X cm) E á):=PA.wk aN λY H Q ⟨c,F,O,rel,h⟩=>h [] F H rel Ď Ď Û.nil
def Ç(ha:PE X e (tV (kk X cm) E ma))(hr:PA X es (tL (kk X cm) E mr))(hs:Ö (e::es) X.env=(false,eval e X.env)::Ö es X.env:=by exact ώ rfl):PA X (e::es) (tL (kk X cm) E (Å ma mr)):=PA.wk (Ϥ ha hr hs) λY H Q ⟨c,F,O,rel,h⟩=>
 ⟨c,F,O,rel,h.bind λp O1 v F1 H1 Ù _ _ r1 h1=>⟨c,F1,O1,Ù,h1.bind λps O2 vs F2 H2 Ę sF sH r2 h2=>h2 _ F2 H2 Ę Ď Ď (Û.cons (Ć.same sF p v r1) r2)⟩⟩
def ê:PA X [] (Fs (kk X cm) E á):=PA.wk aN λY H Q ⟨c,F,O,rel,h⟩=>h [] F H rel Ď Ď .nil
def Ü(ha:PE X e (tR (kk X cm) E ma))(hr:PA X es (Fs (kk X cm) E mr))(hs:Ö (e::es) X.env=(false,eval e X.env)::Ö es X.env:=by exact ώ rfl):PA X (e::es) (Fs (kk X cm) E (Å ma mr)):=PA.wk (Ϥ ha hr hs) λY H Q ⟨c,F,O,rel,h⟩=>
 ⟨c,F,O,rel,h.bind λp O1 v F1 H1 Ù _ _ r1 h1=>⟨c,F1,O1,Ù,h1.bind λps O2 vs F2 H2 Ę sF sH r2 h2=>h2 _ F2 H2 Ę Ď Ď (.cons (rR.mono r1 sF sH) r2)⟩⟩
@[simp] def ó(O:ć):ĳ (List Slot):= .ok [] O
@[simp] def Ă(ma:M PV)(mr:M (List Slot))(O:ć):ĳ (List Slot):= (ma O).bind λp O1=>(mr O1).bind λas O2=>.ok (.sh p::as) O2
noncomputable def bL:Slot->Option Slot
 | .sh p=>some (.sh p)
 | .ow ps=>some (.bw ps)
 | .bw ps=>some (.bw ps)
 | .bn qs rows=>some (.sh (.lst (.lst qs::rows)))
 | .dw eR=>some (.dw eR)
 |_=>none
@[simp] def ä(i:Nat)(mr:M (List Slot))(O:ć):ĳ (List Slot):= match(O[i]?).bind bL with
  |none=>.bad
  |some _=>(mr O).bind λas O2=>match(O2[i]?).bind bL with
   |some s=>.ok (s::as) O2
   |none=>.bad
variable{ms:M (List Slot)}
def ð:PA X [] (tA (kk X cm) E ó):=PA.wk aN λY H Q ⟨c,F,O,rel,h⟩=>h [] F H rel Ď Ď .nil
def ø(ha:PE X e (tV (kk X cm) E ma))(hr:PA X es (tA (kk X cm) E ms))(hs:Ö (e::es) X.env=(false,eval e X.env)::Ö es X.env:=by exact ώ rfl):PA X (e::es) (tA (kk X cm) E (Ă ma ms)):=PA.wk (Ϥ ha hr hs) λY H Q ⟨c,F,O,rel,h⟩=>
 ⟨c,F,O,rel,h.bind λp O1 v F1 H1 Ù _ _ r1 h1=>⟨c,F1,O1,Ù,h1.bind λas O2 vs F2 H2 Ę sF sH r2 h2=>h2 _ F2 H2 Ę Ď Ď (.cons (show aW _ _ _ (.sh p) v from Ć.same sF p v r1) r2)⟩⟩
def nR{K:KK}{c:Ctx}{F H:Hp}{Y:Ą}{O:ć}{i:Nat}{s:Slot}(rel:ę K c F H Y O)(h:(O[i]?).bind bL=some s):∃v,Y[i]?=some (some v)/\aW K F H s v:=by
 cases e:O[i]? with
 |none=>rw[e] at h;cases h
 |some sl=>
  rw[e] at h;have h':bL sl=some s:=h;cases sl with
  |sh p=>cases h';obtain⟨v,h1,h2⟩:=rel.slot i _ e;exact⟨v,ŏ h1,h2⟩
  |ow ps=>cases h';obtain⟨a,vs,h1,h2,h3,h4,h5,_⟩:=rel.ow e;exact⟨.ref a,h1,a,vs,rfl,h2,h3,h5⟩
  |bw ps=>cases h';obtain⟨a,vs,h1,h2,h3⟩:=rel.slot i _ e;exact⟨.ref a,ŏ h1,a,vs,rfl,(rel.lent a _ h2).1,(rel.lent a _ h2).2,h3⟩
  |no=>cases h'
  |rc C ns ps=>cases h'
  |ot ps qs rs=>cases h'
  |ol ql=>cases h'
  |fr ql=>cases h'
  |bn qs rows=>cases h';obtain⟨v,h1,h2⟩:=rel.slot i _ e;exact⟨v,ŏ h1,h2.rep⟩
  |dw eR=>cases h';obtain⟨a,ts,h1,h2,h3⟩:=rel.slot i _ e;exact⟨.ref a,ŏ h1,a,ts,rfl,(rel.lent a _ h2).1,(rel.lent a _ h2).2,jl h3 λt d _ ⟨xs,b,vs,k1,k2,k3,k4⟩=>⟨xs,b,vs,k1,k2,rel.lent b _ k3,k4⟩⟩
def Gd(i:Nat){x:Str}{px:Pos}(hN:X.N[i]?=some x:=by rfl)(hv:Bi X.env.scope x:=by first|exact ĕ rfl|exact ĉ (ĕ rfl)|exact ĉ (ĉ rfl))(hd:(x== ("__debug__" :Str))=false:=by decide)
 (gE:(x== ("__classdict__" :Str))=false:=by decide)(hr:PA X es (tA (kk X cm) E ms))(hs:Ö (.Name x px::es) X.env=(false,eval (.Name x px) X.env)::Ö es X.env:=by exact ώ rfl):PA X (.Name x px::es) (tA (kk X cm) E (ä i ms)):=
 PA.wk (Ϥ (gL hN hv hd gE) hr hs) fun Y H Q ⟨c,F,O,rel,h⟩=>by
   unfold ä at h;cases e:(O[i]?).bind bL with
   |none=>rw[e] at h;exact h.elim
   |some s0=>
    rw[e] at h;obtain⟨v,hv,_⟩:=nR rel e;refine⟨v,hv,c,F,O,rel,ϔ.bind h λas O2 vs F2 H2 Ę sF sH r2 h2=>?_⟩;cases e2:(O2[i]?).bind bL with
    |none=>simp only[e2] at h2;exact h2.elim
    |some s=>simp only[e2] at h2;obtain⟨v',Hh,r1⟩:=nR Ę e2;rw[hv] at Hh;cases Hh;exact h2 _ F2 H2 Ę Ď Ď (.cons r1 r2)
@[simp] def dI(mr:M (List PV))(O:ć):ĳ PV:= (mr O).bind λps O1=>if ps.length<=16777216 then .ok (.tup ps) O1 else .bad
@[simp] def ŧ(mr:M (List PV))(O:ć):ĳ RV:= (mr O).bind λps O1=>if ps.length<=16777216 then .ok (.ow ps) O1 else .bad
def č:sizeLine=16777216:=ϛ
def aO{x1}(h:PA X es (tL (kk X cm) E mr)):PE X (.Tuple es x1 pos) (tV (kk X cm) E (dI mr)):=PE.wk (CA h) λY H Q ⟨c,F,O,rel,h⟩=>
 ⟨c,F,O,rel,h.bind fun ps O1 vs F1 H1 Ù _ _ r1 h1=>by
   split at h1
   ·rename_i hz;refine⟨by rw[<-Û.length r1,č];exact hz,λp hp=>h1 _ _ _ (Ù.alloc hp) (Õ.upd (Ù.sub.free hp)) (Õ.upd hp) ?_⟩;show Ć _ _ _ _;unfold Ć;exact⟨p,vs,rfl,eQ.of ã,Û.same (Õ.upd (Ù.sub.free hp)) ps vs r1⟩
   ·exact h1.elim⟩
def dg{K:KK}{c:Ctx}{F H:Hp}{Y:Ą}{O:ć}{ps:List PV}{vs:List V}{a:À}(rel:ę K c F H Y O)(ha:H a=none)(r:Û K F ps vs):ę K c F (upd H a (.lst vs)) Y O/\Fj K c Y O F (upd H a (.lst vs)) ps (.ref a):=
 ⟨rel.made ha,a,vs,rfl,ã,rel.sub.free ha,rel.base.free ha,rel.fresh ha,r⟩
def ĩ(h:PA X es (tL (kk X cm) E mr)):PE X (.List es pos) (tO (kk X cm) E (ŧ mr)):=PE.wk (uB h) λY H Q ⟨c,F,O,rel,h⟩=>
 ⟨c,F,O,rel,h.bind fun ps O1 vs F1 H1 Ù _ _ r1 h1=>by
   split at h1
   ·rename_i hz;refine⟨by rw[<-Û.length r1,č];exact hz,λp hp=>?_⟩;obtain⟨q1,q2⟩:=dg Ù hp r1;exact h1 _ _ _ q1 Ď (Õ.upd hp) q2
   ·exact h1.elim⟩
@[simp] def aP(f:List PV->Option PV)(mr:M (List PV))(O:ć):ĳ PV:= (mr O).bind λps O1=>ĳ.Aq (f ps) O1
@[simp] def uL(f:List PV->Option RV)(mr:M (List PV))(O:ć):ĳ RV:= (mr O).bind λps O1=>ĳ.Aq (f ps) O1
def dh(K:KK)(r:List V->Hp->VK->Prop)(f:List PV->Option PV):Prop:=∀{c:Ctx} {F H:Hp} {Y:Ą} {O:ć} {ps:List PV} {pv:PV} {vs:List V} {Q:VK},ę K c F H Y O->LV K c Y O F H ps vs->f ps=some pv->
 (∀z F' H',ę K c F' H' Y O->Õ F F'->Õ H H'->Ć K F' pv z->Q z H')->r vs H Q
def C5(K:KK)(r:List V->Hp->VK->Prop)(f:List PV->Option RV):Prop:=∀{c:Ctx} {F H:Hp} {Y:Ą} {O:ć} {ps:List PV} {pv:RV} {vs:List V} {Q:VK},ę K c F H Y O->LV K c Y O F H ps vs->f ps=some pv->
 (∀z F' H',ę K c F' H' Y O->Õ F F'->Õ H H'->rO K c Y O F' H' pv z->Q z H')->r vs H Q
def P4{r:List V->Hp->VK->Prop}{f:List PV->Option PV}(hf:dh (kk X cm) r f){Y:Ą}{H:Hp}{Q:VK}(h:tV (kk X cm) E (aP f mr) Y H Q):So r (Fs (kk X cm) E mr) Y H Q:=by
 obtain⟨c,F,O,rel,h⟩:=h;refine⟨c,F,O,rel,h.bind λp O1 v F1 H1 Ù _ _ r1 h1=>?_⟩;cases e:f p with
 |none=>rw[e] at h1;exact h1.elim
 |some pv=>rw[e] at h1;exact hf Ù r1 e λz F' H' Ś s1 s2 q'=>h1 z F' H' Ś s1 s2 q'
def UH{r:List V->Hp->VK->Prop}{f:List PV->Option RV}(hf:C5 (kk X cm) r f){Y:Ą}{H:Hp}{Q:VK}(h:tO (kk X cm) E (uL f mr) Y H Q):So r (Fs (kk X cm) E mr) Y H Q:=by
 obtain⟨c,F,O,rel,h⟩:=h;refine⟨c,F,O,rel,h.bind λp O1 v F1 H1 Ù _ _ r1 h1=>?_⟩;cases e:f p with
 |none=>rw[e] at h1;exact h1.elim
 |some pv=>rw[e] at h1;exact hf Ù r1 e λz F' H' Ś s1 s2 q'=>h1 z F' H' Ś s1 s2 q'
end
open M3
@[simp] def ge(O:ć):ĳ Fl:= .ok .nx O
@[simp] def ą(a b:M Fl)(O:ć):ĳ Fl:= (a O).bind fun f O1=>match f with
  | .nx=>b O1
  |f=>.ok f O1
@[simp] def Ń(i:Nat)(m:M RV)(O:ć):ĳ Fl:= (m O).bind λr O1=>.ok .nx (O1.set i r.slot)
@[simp] def Ħ(m:M RV)(O:ć):ĳ Fl:= (m O).bind λr O1=>.ok (.rt r) O1
@[simp] def C6(m:M PV)(O:ć):ĳ Fl:= (m O).bind λ_ O1=>.ok .nx O1
section
variable{X:Cx}{cm:String->À}{E:Ą->XK}{a b e:Æ}{st:Ò}{ü:List Ò}{es:List Æ}{pos:Pos}{m1 m2:M Fl}{mo:M RV}{mv:M PV}
def Ĥ:ay X [] (tS (kk X cm) E ge):=ay.wk uv λD Y H ⟨c,F,O,rel,h⟩=>h Y F H rel (Õ.refl F)
def Ĝ(h:PS X st (tS (kk X cm) E m1)):ay X [st] (tS (kk X cm) E m1):=fX h
def Ge{c:Ctx}{F:Hp}{D:Ends}{r:ĳ Fl}(h:Œ (kk X cm) E c F D (r.bind λf O1=>match f with| .nx=>m2 O1|f=>.ok f O1)):Œ (kk X cm) E c F {D with nx:=tS (kk X cm) E m2 D} r:=by
 cases r with
 |ok f O1=>
  cases f with
  |nx=>exact λY' F' H' Ś s=>⟨c,F',O1,Ś,Œ.mono h s⟩
  |bk=>exact h
  |ct=>exact h
  |rt v=>exact h
 |exc x O1=>exact h
 |bad=>exact h
def å(h1:PS X st (tS (kk X cm) E m1))(h2:ay X ü (tS (kk X cm) E m2)):ay X (st::ü) (tS (kk X cm) E (ą m1 m2)):=ay.wk (db h1 h2) λD Y H ⟨c,F,O,rel,h⟩=>⟨c,F,O,rel,Ge h⟩
def ę.LX{K:KK}{c:Ctx}{F H:Hp}{Y:Ą}{O:ć}{i:Nat}{t:Bool}{ps qs rows:List PV}{v:V}(r:ę K c F H Y O)(q:jA K c.B F t ps qs rows v):ę K c F H (Y.set i (some v)) (O.set i (RV.bn t ps qs rows).slot):=by
 cases t with
 |true=>exact r.put (s:=.sh (Sr true ps qs rows)) rfl ⟨v,rfl,jA.rep q⟩
 |false=>
  have e:ps=[]:=by
   obtain⟨_,_,_,_,_,_,_,_,_,_,_,z⟩:=q;rcases z with⟨_,z,_⟩|⟨z,_⟩
   ·exact z
   ·cases z
  subst e;exact r.put (s:=.bn qs rows) rfl ⟨v,rfl,q⟩
def P5{i:Nat}{x:Str}{bW:Pos}(hN:X.N.Nodup)(hi:X.N[i]?=some x)(hx:Loc X.env.scope x)(he:PE X e (tO (kk X cm) E mo))(hs:ŗ e (some (.Name x bW)) pos.line X.env=ç false:=by rfl)(hf:X.fn x=true\/X.env.scope.names.lookup x=some .local:=by first|exact .inl rfl|exact .inr rfl|assumption) :
 PS X (.Assign [.Name x bW] e pos) (tS (kk X cm) E (Ń i mo)):=PS.wk (uy hN hi hx he hs hf) λD Y H ⟨c,F,O,rel,h⟩=>⟨c,F,O,rel,Œ.bind h λr O1 v F1 H1 Ù s1 q h1=>by
 cases r with
 |sh p=>exact h1 _ F1 H1 (Ù.put rfl ⟨v,rfl,q⟩) Ď
 |ow ps=>obtain⟨a,vs,rfl,q1,q2,q3,q4,q5⟩:=q;exact h1 _ F1 H1 (Ù.Bv ⟨a,vs,rfl,q1,q2,q3,q5⟩ λ_ z=>V.ref.inj z▸q4) Ď
 |ot ps qs rs=>obtain⟨p,a,xs,vs,ys,rfl,q0,qx,q1,q2,q3,q4,q5,q6⟩:=q;exact h1 _ F1 H1 (Ù.Bv (s:=.ot ps qs rs) ⟨p,a,xs,vs,ys,rfl,q0,qx,q1,q2,q3,q5,q6⟩ λ_ z=>kK (ps:=ps) (qs:=qs) (rs:=rs) z ⟨p,xs,ys,rfl,q0,qx.length.symm⟩▸q4) Ď
 |bn t ps qs rows=>exact h1 _ F1 H1 (Ù.LX q) Ď⟩
def P6(he:PE X e (tO (kk X cm) E mo)):PS X (.Return (some e) pos) (tS (kk X cm) E (Ħ mo)):=PS.wk (K4 he) λD Y H ⟨c,F,O,rel,h⟩=>⟨c,F,O,rel,Œ.bind h λr O1 v F1 H1 Ù s1 q h1=>h1 v Y F1 H1 Ù Ď q⟩
def C7(he:PE X e (tV (kk X cm) E mv))(hs:ŗ e none pos.line X.env=ç false:=by rfl):PS X (.Expr e pos) (tS (kk X cm) E (C6 mv)):=PS.wk (ť he hs) λD Y H ⟨c,F,O,rel,h⟩=>⟨c,F,O,rel,Œ.bind h λr O1 v F1 H1 Ù s1 q h1=>h1 Y F1 H1 Ù Ď⟩
def Ϗ{t:M Bool}{ss RX:List Ò}(hc:PT X a (tB (kk X cm) E t))(ha:ay X ss (tS (kk X cm) E m1))(hb:ay X RX (tS (kk X cm) E m2)):PS X (.If a ss RX pos) (tS (kk X cm) E (eK t m1 m2)):=PS.wk (Ch hc ha hb) λD Y H ⟨c,F,O,rel,h⟩=>⟨c,F,O,rel,Œ.bind h λr O1 v F1 H1 Ù s1 q h1=>by
 have e:r=v:=q;subst e;cases r with
 |true=>exact⟨c,F1,O1,Ù,h1⟩
 |false=>exact⟨c,F1,O1,Ù,h1⟩⟩
abbrev Tg:=PV->ć->Option ć
abbrev B8:=List PV->ć->Option ć
def LY(K:KK)(c:Ctx)(F H:Hp)(Q:Ą->Hp->Prop):Option ć->Prop
 |some O'=>∀Y',ę K c F H Y' O'->Q Y' H
 |none=>False
def tT(K:KK)(g:Tg):TG:=λv Y H Q=>∃c F O p,ę K c F H Y O/\Ć K F p v/\LY K c F H Q (g p O)
def P7(K:KK)(g:B8):Ci:=λv Y H Q=>∃c F O p,ę K c F H Y O/\Û K F p v/\LY K c F H Q (g p O)
def gN(i:Nat):Tg:=λp O=>some (O.set i (.sh p))
def gu:B8:=λps O=>match ps with
 | []=>some O
 |_=>none
def Ĳ(g:Tg)(gs:B8):B8:=λps O=>match ps with
 |p::ps=>(g p O).bind λO1=>gs ps O1
 | []=>none
def gT(n:Nat)(gs:B8):Tg:=λp O=>match p with
 | .tup ps=>if ps.length=n then gs ps O else none
 |_=>none
def PG.UI{tg:Æ}{t t':TG}(h:PG X tg t)(i:∀v Y H Q,t' v Y H Q->t v Y H Q):PG X tg t':=λÃ s Y H v u Q I r q=>h Ã s Y H v u Q I r (i v Y H Q q)
def xG.wk{tg:List Æ}{t t':Ci}(h:xG X tg t)(i:∀v Y H Q,t' v Y H Q->t v Y H Q):xG X tg t':=λÃ s Y H v u Q I r q=>h Ã s Y H v u Q I r (i v Y H Q q)
def C8{i:Nat}{x:Str}(hN:X.N.Nodup)(hi:X.N[i]?=some x)(hx:Loc X.env.scope x)(hf:X.fn x=true\/X.env.scope.names.lookup x=some .local:=by first|exact .inl rfl|exact .inr rfl|assumption):PG X (.Name x pos) (tT (kk X cm) (gN i)):=
 PG.UI (iQ hN hi hx hf) λv Y H Q ⟨c,F,O,p,rel,rp,h⟩=>h _ (rel.put rfl ⟨v,rfl,rp⟩)
def lF:xG X [] (P7 (kk X cm) gu):=xG.wk uw λv Y H Q ⟨c,F,O,p,rel,rp,h⟩=>by
 cases p with
 |nil=>
  have e:v=[]:=by have:=rp;unfold Û at this;exact this
  exact⟨e,h Y rel⟩
 |cons _ _=>exact h.elim
def ϋ{es:List Æ}{g:Tg}{gs:B8}(h1:PG X e (tT (kk X cm) g))(h2:xG X es (P7 (kk X cm) gs))(hs:(Ŵ (e::es) X.env).map (·.2)=cD e X.env::(Ŵ es X.env).map (·.2):=by rfl):xG X (e::es) (P7 (kk X cm) (Ĳ g gs)):=
 xG.wk (eU h1 h2 hs) λv Y H Q ⟨c,F,O,p,rel,rp,h⟩=>by
  cases p with
  |nil=>exact h.elim
  |cons p ps=>
   unfold Û at rp;obtain⟨x,r,rfl,r1,r2⟩:=rp;refine⟨x,r,rfl,c,F,O,p,rel,r1,?_⟩;unfold Ĳ at h;dsimp only at h;cases eg:g p O with
   |none=>rw[eg] at h;exact h.elim
   |some O1=>rw[eg] at h;exact λY' Ś=>⟨c,F,O1,ps,Ś,r2,h⟩
def C9{es:List Æ}{k:Nat}{gs:B8}{n:Nat}(hc:X.calm=true)(h:xG X es (P7 (kk X cm) gs))(hn:(Ŵ es X.env).length=n:=by rfl)(vU:(Ŵ es X.env).findIdx? (·.1)=none:=by rfl):PG X (.Tuple es k pos) (tT (kk X cm) (gT n gs)):=
 PG.UI (ux hc h hn vU) fun v Y H Q ⟨c,F,O,p,rel,rp,h⟩=>by
   cases p with
   |tup ps=>
    unfold Ć at rp;obtain⟨a,xs,h1,h2,h3⟩:=rp;unfold gT at h;dsimp only at h;split at h
    ·rename_i hl;exact⟨a,xs,h1,Õ.tup rel.sub h2,by rw[<-h3.length];exact hl,c,F,O,ps,rel,h3,h⟩
    ·exact h.elim
   |_=>exact h.elim
@[simp] def Gf(g:Tg)(m:M PV)(O:ć):ĳ Fl:= (m O).bind fun p O1=>match g p O1 with
  |some O2=>.ok .nx O2
  |none=>.bad
def Db{tg:Æ}{g:Tg}(he:PE X e (tV (kk X cm) E mv))(hg:PG X tg (tT (kk X cm) g))(hs:swapsWithSole [tg] e pos.line X.env=ç false:=by rfl)(hw:swappedStores [tg] e X.env=ç none:=by rfl)
 (h1:(Ŵ [tg] X.env).map (·.2)=[cD tg X.env]:=by rfl):PS X (.Assign [tg] e pos) (tS (kk X cm) E (Gf g mv)):=PS.wk (K5 he hg hs hw h1) λD Y H ⟨c,F,O,rel,h⟩=>⟨c,F,O,rel,Œ.bind h λr O1 v F1 H1 Ù s1 q h1=>by
 refine⟨c,F1,O1,r,Ù,q,?_⟩;cases eg:g r O1 with
 |none=>rw[eg] at h1;exact h1.elim
 |some O2=>rw[eg] at h1;exact λY' Ś=>h1 Y' F1 H1 Ś Ď⟩
@[simp] def qw(i:Nat)(m:M PV)(O:ć):ĳ Fl:= match O[i]? with
  |some (.ow _)=>(m O).bind λp O1=>match O1[i]? with
   |some (.ow ps)=>if ps.length<16777216 then .ok .nx (O1.set i (.ow (ps ++ [p]))) else .bad
   |_=>.bad
  |_=>.bad
def d_{i:Nat}{D:Ends}{Y:Ą}{H:Hp}(h:tS (kk X cm) E (qw i mv) D Y H):on (OR X.K "list" kG (gF i) (tL (kk X cm) E (Å mv á))) D Y H:=by
 obtain⟨c,F,O,rel,h⟩:=h;unfold qw at h;cases e1:O[i]? with
 |none=>rw[e1] at h;exact h.elim
 |some sl=>
  rw[e1] at h;cases sl with
  |ow XD=>
   obtain⟨a,XE,z1,z2,z3,z4,z5,z6⟩:=rel.ow e1;refine⟨.ref a,z1,.inl ⟨rfl,_,ϒ.of z2⟩,c,F,O,rel,?_⟩;dsimp only at h;unfold Å;cases em:mv O with
   |bad=>rw[em] at h;exact h
   |exc x O1=>rw[em] at h;exact λC d F' H' Ś s1 q=>h Y C d F' H' Ś s1 q
   |ok p O1=>
    rw[em] at h;intro us F1 H1 Ù s1 s2 r1;have jc:Û (kk X cm) F1 [p] us:=r1;cases jc.pr with
    |cons rp t=>
     rename_i v jh;cases t;cases e2:O1[i]? with
     |none=>simp only[ĳ.bK,e2] at h;exact h.elim
     |some FA=>
      simp only[ĳ.bK,e2] at h;cases FA with
      |ow ps=>
       obtain⟨a2,vs,w1,w2,w3,w4,w5,w6⟩:=Ù.ow e2;rw[z1] at w1;cases w1;dsimp only at h;split at h
       ·rename_i hz;refine⟨a,vs,v,rfl,rfl,w2,by rw[<-w5.length,č];exact hz,h Y F1 _ (Ù.write w6 z1 ⟨a,vs ++ [v],rfl,ã,w3,w4,Û.append w5 (Û.cons rp Û.nil)⟩ λ_ z=>(V.ref.inj z).symm) s1⟩
       ·exact h.elim
      |_=>exact h.elim
  |_=>exact h.elim
noncomputable def Ġ(mc:M Bool)(mb:M Fl):Nat->ć->ĳ Fl
 |0,_=>.bad
 |n+1,O=>(mc O).bind λb O1=>if b=true then(mb O1).bind λf O2=>match f with
  | .nx=>Ġ mc mb n O2
  | .ct=>Ġ mc mb n O2
  | .bk=>.ok .nx O2
  | .rt r=>.ok (.rt r) O2 else .ok .nx O1
theorem Ϫ{mc:M Bool}{mb:M Fl}(n:Nat)(O:ć):Ġ mc mb (n+1) O=(mc O).bind λb O1=>if b=true then(mb O1).bind λf O2=>match f with
 | .nx=>Ġ mc mb n O2
 | .ct=>Ġ mc mb n O2
 | .bk=>.ok .nx O2
 | .rt r=>.ok (.rt r) O2 else .ok .nx O1:=rfl
open Classical in
noncomputable def aA(mc:M Bool)(mb:M Fl):M Fl:=λO=>if h:∃n,Ġ mc mb n O≠ .bad then Ġ mc mb (zh h) O else .bad
theorem gY{mc:M Bool}{mb:M Fl}:∀(n:Nat) (O:ć),Ġ mc mb n O≠ .bad->Ġ mc mb (n+1) O=Ġ mc mb n O
 |0,O,h=>absurd rfl h
 |n+1,O,h=>by
  rw[Ϫ] at h;rw[Ϫ (n+1),Ϫ n];cases e:mc O with
  |bad=>rfl
  |exc x O1=>rfl
  |ok b O1=>
   rw[e] at h;simp only[ĳ.bK] at h ⊢;cases b with
   |false=>rfl
   |true=>
    simp only[if_true] at h ⊢;cases e2:mb O1 with
    |bad=>rfl
    |exc x O2=>rfl
    |ok f O2=>
     rw[e2] at h;simp only[ĳ.bK] at h ⊢;cases f with
     |nx=>exact gY n O2 h
     |ct=>exact gY n O2 h
     |bk=>rfl
     |rt r=>rfl
def rG{mc:M Bool}{mb:M Fl}{n m:Nat}{O:ć}(h:Ġ mc mb n O≠ .bad)(hm:n<=m):Ġ mc mb m O=Ġ mc mb n O:= by
 induction hm with
 |refl=>rfl
 |step _ ih=>rw[gY _ _ (by rw[ih];exact h),ih]
def Ϲ{mc:M Bool}{mb:M Fl}{O:ć}(n:Nat)(h:Ġ mc mb n O≠ .bad):aA mc mb O=Ġ mc mb n O:= by
 unfold aA;have hx:∃n,Ġ mc mb n O≠ .bad:=⟨n,h⟩;rw[dif_pos hx];have hc:=Classical.choose_spec hx;rcases Nat.le_total n (zh hx) with hle|hle
 ·exact rG h hle
 ·exact(rG hc hle).symm
theorem gZ{mc:M Bool}{mb:M Fl}{O:ć}:aA mc mb O=(mc O).bind λb O1=>if b=true then(mb O1).bind λf O2=>match f with
 | .nx=>aA mc mb O2
 | .ct=>aA mc mb O2
 | .bk=>.ok .nx O2
 | .rt r=>.ok (.rt r) O2 else .ok .nx O1:=by
 have go:∀O2,aA mc mb O2=.bad\/∃n,aA mc mb O2=Ġ mc mb n O2/\Ġ mc mb n O2≠ .bad:=λO2=>by
  by_cases hx:∃n,Ġ mc mb n O2≠ .bad
  ·obtain⟨n,h⟩:=hx;exact .inr ⟨n,Ϲ n h,h⟩
  ·left;unfold aA;rw[dif_neg hx]
 have UJ:∀O2,aA mc mb O2=.bad->∀n,Ġ mc mb n O2=.bad:=λO2 h n=>by refine sy λz=>?_;rw[Ϲ n z] at h;exact z h
 have jP:∀n,Ġ mc mb (n+1) O≠ .bad->aA mc mb O=Ġ mc mb (n+1) O:= λn h=>Ϲ _ h;cases e:mc O with
 |bad=>rcases go O with h|⟨n,h1,h2⟩
       ·rw[h];rfl
       ·cases n with
        |zero=>exact absurd rfl h2
        |succ n=>rw[Ϫ,e] at h2;exact absurd rfl h2
 |exc x O1=>
  have h:Ġ mc mb 1 O=.exc x O1:=by rw[Ϫ,e];rfl
  rw[Ϲ 1 (by rw[h];intro z;cases z),h];rfl
 |ok b O1=>
  simp only[ĳ.bK];cases b with
  |false=>
   have h:Ġ mc mb 1 O=.ok .nx O1:=by rw[Ϫ,e];rfl
   rw[Ϲ 1 (by rw[h];intro z;cases z),h];rfl
  |true=>
   simp only[if_true];have one:∀n,Ġ mc mb (n+1) O=(mb O1).bind λf O2=>match f with
    | .nx=>Ġ mc mb n O2
    | .ct=>Ġ mc mb n O2
    | .bk=>.ok .nx O2
    | .rt r=>.ok (.rt r) O2:=λn=>by rw[Ϫ,e];rfl
   cases e2:mb O1 with
   |bad=>
    rcases go O with h|⟨n,h1,h2⟩
    ·rw[h];rfl
    ·cases n with
     |zero=>exact absurd rfl h2
     |succ n=>rw[one,e2] at h2;exact absurd rfl h2
   |exc x O2=>
    have h:Ġ mc mb 1 O=.exc x O2:=by rw[one,e2];rfl
    rw[Ϲ 1 (by rw[h];intro z;cases z),h];rfl
   |ok f O2=>
    have turn:(∀n,Ġ mc mb (n+1) O=Ġ mc mb n O2)->aA mc mb O=aA mc mb O2:=λhn=>by
     rcases go O2 with h|⟨n,h1,h2⟩
     ·rcases go O with h'|⟨n,h1,h2⟩
      ·rw[h,h']
      ·cases n with
       |zero=>exact absurd rfl h2
       |succ n=>rw[hn,UJ O2 h n] at h2;exact absurd rfl h2
     ·rw[h1,<-hn n];exact jP n (by rw[hn n];exact h2)
    cases f with
    |nx=>exact turn λn=>by rw[one,e2];rfl
    |ct=>exact turn λn=>by rw[one,e2];rfl
    |bk=>
     have h:Ġ mc mb 1 O=.ok .nx O2:=by rw[one,e2];rfl
     rw[Ϲ 1 (by rw[h];intro z;cases z),h];rfl
    |rt r=>
     have h:Ġ mc mb 1 O=.ok (.rt r) O2:=by rw[one,e2];rfl
     rw[Ϲ 1 (by rw[h];intro z;cases z),h];rfl
def Gg{c:Æ}{body:List Ò}{mc:M Bool}{mb:M Fl}(hp:ko (Ì X.prog X.w) X.A X.env X.xe)(hc:PT X c (tB (kk X cm) E mc))(hb:ay X body (tS (kk X cm) E mb)):PS X (.While c body [] pos) (tS (kk X cm) E (aA mc mb)):=PS.wk (Ck hp hc hb) λD Y H ⟨c,F,O,rel,h⟩=>by
 obtain⟨n,hn⟩:∃n,Œ (kk X cm) E c F D (Ġ mc mb n O):=by
  by_cases hx:∃n,Ġ mc mb n O≠ .bad
  ·obtain⟨n,hn⟩:=hx;rw[Ϲ n hn] at h;exact⟨n,h⟩
  ·unfold aA at h;rw[dif_neg hx] at h;exact h.elim
 refine⟨λm Y' H'=>∃F2 O2,ę (kk X cm) c F2 H' Y' O2/\Õ F F2/\Œ (kk X cm) E c F2 D (Ġ mc mb m O2),⟨n,F,O,rel,Õ.refl _,hn⟩,?_⟩;rintro m Y1 H1 ⟨F1,O1,Ù,s1,h1⟩;cases m with
 |zero=>exact h1.elim
 |succ m=>
  rw[Ϫ] at h1;refine⟨c,F1,O1,Ù,Œ.bind h1 λk O2 v F2 H2 Ę s2 q h2=>?_⟩;have e:k=v:=q;subst e;cases k with
  |false=>rw[if_neg ϖ];rw[if_neg ϖ] at h2;exact h2 Y1 F2 H2 Ę Ď
  |true=>
   rw[if_pos rfl];rw[if_pos rfl] at h2;refine⟨_,λY' H' z=>z,c,F2,O2,Ę,?_⟩;have OF:∀{O3:ć},Œ (kk X cm) E c F2 D (Ġ mc mb m O3)->∀Y' F' H',ę (kk X cm) c F' H' Y' O3->Õ F2 F'->∃m',m'<m+1/\∃F2 O2,ę (kk X cm) c F2 H' Y' O2/\Õ F F2/\Œ (kk X cm) E c F2 D (Ġ mc mb m' O2):=
    fun{O3} h3 Y' F' H' Ś s'=>⟨m,sN m,F',O3,Ś,(s1.trans s2).trans s',Œ.mono h3 s'⟩
   cases e2:mb O2 with
   |bad=>rw[e2] at h2;exact h2
   |exc x O3=>rw[e2] at h2;exact h2
   |ok f O3=>
    rw[e2] at h2;cases f with
    |nx=>exact OF h2
    |ct=>exact OF h2
    |bk=>exact h2
    |rt r=>exact h2
def xZ(K:KK)(Lh F:Hp)(J:It)(ò:List PV):Prop:=∀(c:Ctx) (i:Nat) (F2 H:Hp) (Y:Ą) (O:ć),ę K c F2 H Y O->Õ F F2->Õ Lh H->
 (∀p,ò[i]?=some p->J.go i H/\∀x H',J.Pk i H x H'->∃F3,ę K c F3 H' Y O/\Õ F2 F3/\Õ H H'/\Ć K F3 p x)/\(i=ò.length->J.stop i H)
def XF(K:KK):RR (List PV) It:=λc _ _ F _ ò J=>xZ K c.L F J ò
abbrev tI(K:KK)(E:Ą->XK)(m:M (List PV)):TI:=tG K E (XF K) m
noncomputable def aC(g:Tg)(mb:M Fl):List PV->M Fl
 | [],O=>.ok .nx O
 |p::ps,O=>match g p O with
  |none=>.bad
  |some O1=>(mb O1).bind λf O2=>match f with
   | .nx=>aC g mb ps O2
   | .ct=>aC g mb ps O2
   | .bk=>.ok .nx O2
   | .rt r=>.ok (.rt r) O2
@[simp] def qy(mi:M (List PV))(g:Tg)(mb:M Fl)(O:ć):ĳ Fl:= (mi O).bind λò O1=>aC g mb ò O1
def kO{iter tg:Æ}{body:List Ò}{mi:M (List PV)}{g:Tg}{mb:M Fl}(hp:ko (Ì X.prog X.w) X.A X.env X.xe)(hc:X.calm=true)(hi:PI X tg iter (tI (kk X cm) E mi))(hg:PG X tg (tT (kk X cm) g))(hb:ay X body (tS (kk X cm) E mb))
 (hs:∀x,bA iter X.env x=ç x:=by intro _;rfl):PS X (.For tg iter body [] pos) (tS (kk X cm) E (qy mi g mb)):=PS.wk (Co hp hc hi hg hb hs) λD Y H ⟨c,F,O,rel,h⟩=>⟨c,F,O,rel,Œ.bind h λò O1 J F1 H1 Ù s1 OG h1=>by
 refine⟨λi m Y' H'=>∃F2 O2,i<=ò.length/\m=ò.length-i/\ę (kk X cm) c F2 H' Y' O2/\Õ F1 F2/\Œ (kk X cm) E c F2 D (aC g mb (ò.drop i) O2),⟨_,F1,O1,ϳ _,rfl,Ù,Õ.refl _,h1⟩,?_⟩;rintro i m Y2 H2 ⟨F2,O2,hle,rfl,Ę,s2,h2⟩;obtain⟨go,stop⟩:=OG c i F2 H2 Y2 O2 Ę s2 λb u e=>(Ę.lent b u e).1;by_cases lP:i<ò.length
 ·obtain⟨g1,g2⟩:=go ò[i] (ž lP);rw[dN lP] at h2;unfold aC at h2;refine .inr ⟨g1,_,λY' H' z=>z,λx H3 hy=>?_⟩;obtain⟨F3,dJ,s3,_,rp⟩:=g2 x H3 hy;refine⟨c,F3,O2,ò[i],dJ,rp,?_⟩;cases eg:g ò[i] O2 with
  |none=>rw[eg] at h2;exact h2.elim
  |some O3=>
   rw[eg] at h2;dsimp only at h2;intro Y4 qv;refine⟨c,F3,O3,qv,?_⟩;have OF:∀{O4:ć},Œ (kk X cm) E c F2 D (aC g mb (ò.drop (i+1)) O4)->∀Y' F' H',ę (kk X cm) c F' H' Y' O4->Õ F3 F'->∃m',m'<ò.length-i/\∃F2 O2,i+1<=ò.length/\m'=ò.length-(i+1)/\ę (kk X cm) c F2 H' Y' O2/\Õ F1 F2/\Œ (kk X cm) E c F2 D (aC g mb (ò.drop (i+1)) O2):=
    fun{O4} h3 Y' F' H' Ś s'=>⟨ò.length-(i+1),by lia,F',O4,lP,rfl,Ś,(s2.trans s3).trans s',Œ.mono h3 (s3.trans s')⟩
   have OB:=Œ.mono h2 s3;cases e2:mb O3 with
   |bad=>rw[e2] at h2;exact h2
   |exc x O4=>rw[e2] at OB;exact OB
   |ok f O4=>
    rw[e2] at h2 OB;cases f with
    |nx=>exact OF h2
    |ct=>exact OF h2
    |bk=>exact OB
    |rt r=>exact OB
 ·have e:i=ò.length:=by lia
  refine .inl ⟨stop e,?_⟩;rw[cy (by lia)] at h2;unfold aC at h2;exact h2 Y2 F2 H2 Ę Ď⟩
end
inductive FR where
 |ret (r:RV)|exc (x:PX)|bad
abbrev MF:=List Slot->FR
noncomputable def FR.of:ĳ Fl->FR
 | .ok (.rt r) _=>.ret r
 | .ok .nx _=>.ret (.sh .non)
 | .exc x _=>.exc x
 |_=>.bad
def ś(n k:Nat)(mb:M Fl):MF:=λas=>if as.length=n then FR.of (mb (đ k as)) else .bad
def rF(K:KK)(H F' H':Hp):RV->V->Prop
 | .sh p,v=>Ć K F' p v
 | .ow ps,v=>∃a vs,v=.ref a/\H' a=some (.lst vs)/\F' a=none/\H a=none/\Û K F' ps vs
 | .ot ps qs rs,v=>∃p a xs vs ys,v=.ref p/\F' p=some (.tup (xs ++ .ref a::ys))/\Û K F' ps xs/\H' a=some (.lst vs)/\F' a=none/\H a=none/\Û K F' qs vs/\Û K F' rs ys
 | .bn t ps qs rows,v=>jA K H F' t ps qs rows v
def UK(K:KK)(E:XK)(F H:Hp)(Q:VK):FR->Prop
 | .ret r=>∀v F' H',Gr F H F' H'->rF K H F' H' r v->Q v H'
 | .exc x=>∀C d F' H',Gr F H F' H'->wr K F' x C d->E C d H'
 | .bad=>False
def bM(K:KK)(n:Nat)(mf:MF):Sp:=λvs H Q E=>∃F as,as.length=n/\Õ F H/\Paired (aW K F H) as vs/\UK K E F H Q (mf as)
def ϥ(CX:ji)(X:Cx)(E:Ą->XK):Prop:=∀(Ã:List (À×Obj)) (Y:Ą) (H:Hp) (s:Â) (e:Á) (s':Â),Inv X Ã Y H s->CX X.stack H s (E Y) e s'->X.xe e s'
section
variable{P:Þ}{w:Ø}{K:É}{cm:String->À}{mg:Str->Option Á}{base:Ð}{CX:ji}
def fnP{x ý:Str}{st:Ò}{f:À}{fd:Ė}{N ps:List Str}{k:Nat}{mb:M Fl}(F:B6 K x ý st f fd)(S:æ N ps (Ó st))
 (dF:∀(ĺ:Á) (A:à) (outer:List Env) (s:Â) (H:Hp) (E:XK),ϊ k (A.deeper (ú ý (Ó st) s.heap.objs.size f ĺ))→
   ay (ŭ CX P w K mg base N ý (Ó st) f ĺ A outer s H E) (Ŧ st) (tS ⟨K,cm⟩ (λ_=>E) mb)):Ě P w K mg base CX (k+1) f fd ps (bM ⟨K,cm⟩ ps.length (ś ps.length N.length mb)):=by
 obtain⟨oc,od,kV,mW,pm,an,ĺ,ct,qS,rfl,lk,gE⟩:=F.ex;refine Ac lk gE S (λvs H Q E ⟨F,KH,h1,_,h2,_⟩=>by rw[<-Paired.length h2];exact h1) λA outer s H vs Q E hr Ba=>?_;obtain⟨F,KH,h1,h2,h3,h4⟩:=Ba;refine⟨_,dF ĺ A outer s H E hr,bo F H,F,đ N.length KH,ę.start h2 h3,?_⟩;unfold ś at h4;rw[if_pos h1] at h4;cases e:mb (đ N.length KH) with
 |bad=>rw[e] at h4;exact h4
 |exc x O'=>rw[e] at h4;exact λY' C d F' H' rel s1 q=>h4 C d F' H' rel.gr q
 |ok fl O'=>
  rw[e] at h4;cases fl with
  |nx=>exact λY' F' H' rel s1=>h4 .non F' H' rel.gr (Ć.non (K:=⟨K,cm⟩) (F:=F'))
  |bk=>exact h4.elim
  |ct=>exact h4.elim
  |rt r=>
   intro v Y' F' H' rel s1 q;refine h4 v F' H' rel.gr ?_;cases r with
   |sh p=>exact q
   |ow qs=>obtain⟨a,jh,e1,e2,e3,e4,_,e5⟩:=q;exact⟨a,jh,e1,e2,e3,e4,e5⟩
   |ot qs ts rs=>obtain⟨p,a,xs,jh,ys,e1,e0,ex,e2,e3,e4,_,e5⟩:=q;exact⟨p,a,xs,jh,ys,e1,e0,ex,e2,e3,e4,e5⟩
   |bn t ps qs rows=>exact q
def fnQ{x ý:Str}{st:Ò}{f:À}{fd:Ė}{N ps:List Str}{k n j:Nat}{mb:M Fl}{mf:MF}(F:B6 K x ý st f fd)(S:æ N ps (Ó st))(hn:ps.length=n)(hj:N.length=j)(hf:mf=ś n j mb)
 (dF:∀(ĺ:Á) (A:à) (outer:List Env) (s:Â) (H:Hp) (E:XK),ϊ k (A.deeper (ú ý (Ó st) s.heap.objs.size f ĺ))→
   ay (ŭ CX P w K mg base N ý (Ó st) f ĺ A outer s H E) (Ŧ st) (tS ⟨K,cm⟩ (λ_=>E) mb)):Ě P w K mg base CX (k+1) f fd ps (bM ⟨K,cm⟩ n mf):=by
 subst hn hj hf;exact fnP F S dF
end
@[simp] def ā(mf:MF)(mr:M (List Slot))(O:ć):ĳ RV:= (mr O).bind fun ps O1=>match mf ps with
  | .ret r=>.ok r O1
  | .exc x=>.exc x O1
  | .bad=>.bad
section
variable{X:Cx}{cm:String->À}{E:Ą->XK}{CX:ji}{k n:Nat}{f:À}{fd:Ė}{ps:List Str}{mf:MF}{mr:M (List Slot)}{x:Str}{p pos:Pos}{e:Æ}{es:List Æ}
def nS{sp:Sp}{Ã:List (À×Obj)}{Y:Ą}{H:Hp}{s:Â}{Q:VK}{us:List Á}{vs:List V}(F:Ě X.prog X.w X.K X.mg X.base CX k f fd ps sp)(hr:ϊ k X.A)(hb:Binds X.K fd ps [])(hx:ϥ CX X E)
 (I:Inv X Ã Y H s)(r:ĭ vs us)(h:sp vs H Q (E Y)):Î (Ì X.prog X.w) X.A (call (.ref f) us) (EP X Ã Y Q) X.xe s:=by
 have hl:(us ++ []).length=ps.length:=by rw[cu,<-r.length];exact F.len _ _ _ _ h
 have Fk:=hb s us I.da hl;rw[cu] at Fk;refine cK (dS (F.run X.A X.stack s H ⟨us,[]⟩ us vs Q (E Y) hr I.env0 Fk r h) λr s' hq=>?_);cases r with
 |error e=>exact hx Ã Y H s e s' I hq
 |ok fl=>
  cases fl with
  |ret u=>exact I.after hq
  |next=>exact Ļ hq
  |brk=>exact Ļ hq
  |cont=>exact Ļ hq
def oP{c:Ctx}{F1 H1:Hp}{Y:Ą}{O1:ć}{Q:VK}{ps:List Slot}{vs:List V}(hlen:(∃r,mf ps=r/\∀z,r=z->z≠ .bad)->ps.length=n)(Ù:ę (kk X cm) c F1 H1 Y O1)(r1:Paired (aW (kk X cm) F1 H1) ps vs)
 (h:ϔ (kk X cm) E (rO (kk X cm)) c F1 H1 Y Q (match mf ps with| .ret r=>.ok r O1| .exc x=>.exc x O1| .bad=>.bad)):bM (kk X cm) n mf vs H1 Q (E Y):=by
 refine⟨F1,ps,?_,Ù.sub,r1,?_⟩
 ·refine hlen ⟨_,rfl,λz hz hb=>?_⟩;rw[hz,hb] at h;exact h
 ·cases em:mf ps with
  |bad=>rw[em] at h;exact h
  |exc x=>rw[em] at h;exact λC d F' H' g rx=>h C d F' H' (Ù.call g) g.f rx
  |ret r=>
   rw[em] at h;intro v F' H' g rf;refine h v F' H' (Ù.call g) g.f g.h ?_;cases r with
   |sh p=>exact rf
   |ow qs=>obtain⟨a,jh,e1,e2,e3,e4,e5⟩:=rf;exact⟨a,jh,e1,e2,e3,Ù.base.free e4,Ù.gU g.f (Ù.fresh e4),e5⟩
   |ot qs ts rs=>obtain⟨p,a,xs,jh,ys,e1,e0,ex,e2,e3,e4,e5⟩:=rf;exact⟨p,a,xs,jh,ys,e1,e0,ex,e2,e3,Ù.base.free e4,Ù.gU g.f (Ù.fresh e4),e5⟩
   |bn t ps qs rows=>exact jA.base rf Ù.base
def aQ{n k:Nat}{mb:M Fl}{ps:List Slot}(h:∃r,ś n k mb ps=r/\∀z,r=z->z≠ .bad):ps.length=n:=by
 obtain⟨r,h1,h2⟩:=h;unfold ś at h1;by_cases hl:ps.length=n
 ·exact hl
 ·rw[if_neg hl] at h1;exact absurd h1.symm (λz=>h2 .bad (by rw[<-h1]) rfl)
def LZ(F:Ě X.prog X.w X.K X.mg X.base CX k f fd ps (bM (kk X cm) n mf))(hlen:∀{ps:List Slot},(∃r,mf ps=r/\∀z,r=z->z≠ .bad)->ps.length=n)(hr:ϊ k X.A)(hg:Gl X x)(hm:X.mg x=some (.ref f))(hk:Ţ X.K (.ref f)=true)(hb:Binds X.K fd ps [])(hx:ϥ CX X E)
 (ha:PA X (e::es) (tA (kk X cm) E mr))(lq:(x== ("__debug__" :Str))=false:=by decide)(he:Ö (e::es) X.env=(false,eval e X.env)::Ö es X.env:=by exact ώ rfl)(hpl:(ĝ pos (Ö es X.env)).any (·.1)=false:=by rfl) :
 PE X (.Call (.Name x p) (e::es) [] pos) (tO (kk X cm) E (ā mf mr)):=by
 intro Ã s Y H Q I h;obtain⟨c,F,O,rel,h⟩:=h;refine cI (bI I hg hm ?_ lq);refine kD (h₀:= X.base) I.ok.mod.Hw hk (ŝ (ha pos Ã s Y H (λvs H1=>bM (kk X cm) n mf vs H1 Q (E Y)) I ⟨c,F,O,rel,h.bind λKH O1 vs F1 H1 Ù _ _ r1 h1=>oP hlen Ù r1 h1⟩) λus s1 ⟨vs,H1,I1,r,q⟩=>⟨I1.da,?_⟩) he hpl;exact nS (by assumption) hr hb hx I1 r q
def Aw(F:Ě X.prog X.w X.K X.mg X.base CX k f fd ps (bM (kk X cm) n mf))(hlen:∀{ps:List Slot},(∃r,mf ps=r/\∀z,r=z->z≠ .bad)->ps.length=n)(hr:ϊ k X.A)(hg:Gl X x)(hm:X.mg x=some (.ref f))(hk:Ţ X.K (.ref f)=true)(hb:Binds X.K fd ps [])(hx:ϥ CX X E)
 (lq:(x== ("__debug__" :Str))=false:=by decide):PE X (.Call (.Name x p) [] [] pos) (tO (kk X cm) E (ā mf ó)):=by
 intro Ã s Y H Q I h;obtain⟨c,F',O,rel,h⟩:=h;refine cI (bI I hg hm ?_ lq);exact zS I.da hk (nS (us:=[]) F hr hb hx I .nil (oP hlen rel .nil h))
end
@[simp] def bd(m:M PV)(O:ć):ĳ (List PV):= (m O).bind fun p O1=>match p with
  | .lst ps=>.ok ps O1
  | .tup ps=>.ok ps O1
  | .str z=>.ok (z.cps.toList.map λc=>.str ⟨#[c]⟩) O1
  |_=>.bad
section
variable{X:Cx}{cm:String->À}{E:Ą->XK}{tg:Æ}
def UL(K:É)(tl:TE):TI:=λY H R=>tl Y H λx H1=>(∃a,x=.ref a/\(∃xs,ϒ K H1 a xs)/\R (Pm K a) H1)\/(∃a,x=.ref a/\(∃xs,eQ K H1 a xs)/\R (Xs K a) H1)\/∃z,x=.str z/\R (Its z) H1
def x_{l:Æ}{tl:TE}(hl:PE X l tl):PI X tg l (UL X.K tl):=by
 intro Ã s Y H R I h;refine ŝ (hl Ã s Y H _ I h) λv s1 ⟨x,H1,I1,r1,q1⟩=>?_;rcases q1 with⟨a,e,⟨xs,hq⟩,q⟩|⟨a,e,⟨xs,hq⟩,q⟩|⟨z,e,q⟩
 ·subst e;cases r1;obtain⟨ě,rv,p,hz⟩:=I1.list hq;refine iE p.isList ?_;refine⟨s1.heap.objs.size,[s1.heap.objs.size],_,_,H1,rfl,I1.kept (t':=s1.toks) λb o e=>ö _ e,Bk a _,⟨_,Ŀ _ rfl,rfl,rfl⟩,λb hb=>?_,q⟩;have e:b=s1.heap.objs.size:=by simpa using hb
  subst e;exact I1.Cm (î _) (I1.hok.fresh (î _))
 ·subst e;cases r1;obtain⟨ě,rv,p,hz⟩:=I1.tuple hq;refine wpAny_pyIter_tuple (show s1.heap.IsTuple a ě.toArray from p) ?_;refine⟨s1.heap.objs.size,[s1.heap.objs.size],_,_,H1,rfl,I1.kept (t':=s1.toks) λb o e=>ö _ e,xK a _,⟨_,Ŀ _ rfl,rfl,rfl⟩,λb hb=>?_,q⟩;have e:b=s1.heap.objs.size:=by simpa using hb
  subst e;exact I1.Cm (î _) (I1.hok.fresh (î _))
 ·subst e;obtain⟨t,rfl⟩:=r1;have jP:∀ty,(∀A:à,A.handled=none->Walks X.prog X.w A s1.heap.objs.size [s1.heap.objs.size] [s1.heap.objs.size] z.cps.size (SignAt z) (λi h=>h.IsStrIter s1.heap.objs.size ty z t i))->
   (∀(A:à) (i:Nat) (s:Â) (Q:Á->Â->Prop) (E:Á->Â->Prop),s.heap.IsStrIter s1.heap.objs.size ty z t i->Q (.ref s1.heap.objs.size) s->Î (Ì X.prog X.w) A (pyIter (.ref s1.heap.objs.size)) Q E s)->
   (["enumerate","zip","dict_itemiterator","dict_reverseitemiterator","odict_iterator","itertools.zip_longest","itertools.pairwise"].contains ty=false)->
   TK X Ã Y tg R (.ref s1.heap.objs.size) {s1 with heap:=s1.heap.push {cls:=.type ty,data:=.fields #[.str z t,.int 0 0]}}:=λty hW hS ik=>by
   refine⟨s1.heap.objs.size,[s1.heap.objs.size],_,_,H1,rfl,I1.kept (t':=s1.toks) λb o e=>ö _ e,Bt _ z t ty hW hS ik,⟨_,Ŀ _ rfl,rfl,rfl⟩,λb hb=>?_,q⟩;have e:b=s1.heap.objs.size:=by simpa using hb
   subst e;exact I1.Cm (î _) (I1.hok.fresh (î _))
  cases ha:z.cps.all (·< 128) with
  |true=>exact wpAny_pyIter_ascii ha (jP _ (λA hA=>Walks.strAscii hA _ z t) (λA i s Q E st q=>wpAny_pyIter_striter_ascii st q) (by decide))
  |false=>exact wpAny_pyIter_wide ha (jP _ (λA hA=>Walks.strWide hA _ z t) (λA i s Q E st q=>wpAny_pyIter_striter_wide st q) (by decide))
def lX{l:Æ}{m:M PV}(hl:PE X l (tV (kk X cm) E m)):PI X tg l (tI (kk X cm) E (bd m)):=λÃ s Y H R I h=>x_ hl Ã s Y H R I (by
 obtain⟨c,F,O,rel,h⟩:=h;refine⟨c,F,O,rel,h.bind λp O1 v F1 H1 Ù s1 s2 q h1=>?_⟩;cases p with
 |lst ps=>have q':Ć (kk X cm) F1 (.lst ps) v:=q;unfold Ć at q';obtain⟨a,vs,rfl,e1,e2⟩:=q';refine .inl ⟨a,rfl,⟨vs,Ù.sub.seq e1⟩,h1 _ F1 H1 Ù Ď Ď ?_⟩;intro c' i F2 H2 Y2 O2 Ę sF _;have hq:ϒ X.K H2 a vs:=(sF.trans Ę.sub).seq e1;refine⟨λp hp=>?_,λhi=>⟨vs,hq,by rw[hi,e2.length];exact î _⟩⟩;obtain⟨u,hu,ru⟩:=de e2.pr hp;refine⟨⟨vs,u,hq,hu⟩,λx H' ⟨hH,hx⟩=>?_⟩;subst hH;have:vs[i]?=some x:=hx vs hq;rw[hu] at this;cases this;exact⟨F2,Ę,Õ.refl _,Õ.refl _,Ć.same sF p u ru⟩
 |tup ps=>have q':Ć (kk X cm) F1 (.tup ps) v:=q;unfold Ć at q';obtain⟨a,vs,rfl,e1,e2⟩:=q';refine .inr (.inl ⟨a,rfl,⟨vs,Õ.tup Ù.sub e1⟩,h1 _ F1 H1 Ù Ď Ď ?_⟩);intro c' i F2 H2 Y2 O2 Ę sF _;have hq:eQ X.K H2 a vs:=Õ.tup (sF.trans Ę.sub) e1;refine⟨λp hp=>?_,λhi=>⟨vs,hq,by rw[hi,e2.length];exact î _⟩⟩;obtain⟨u,hu,ru⟩:=de e2.pr hp;refine⟨⟨vs,u,hq,hu⟩,λx H' ⟨hH,hx⟩=>?_⟩;subst hH;have:vs[i]?=some x:=hx vs hq;rw[hu] at this;cases this;exact⟨F2,Ę,Õ.refl _,Õ.refl _,Ć.same sF p u ru⟩
 |str z=>
  have q':v=.str z:=by have q':Ć (kk X cm) F1 (.str z) v:=q;unfold Ć at q';exact q'
  subst q';refine .inr (.inr ⟨z,rfl,h1 _ F1 H1 Ù Ď Ď ?_⟩);intro c' i F2 H2 Y2 O2 Ę sF _;refine⟨λp hp=>?_,λhi=>by rw[hi,ď];show _=_;simp⟩;rw[Ņ] at hp;cases ez:z.cps.toList[i]? with
  |none=>rw[ez] at hp;cases hp
  |some cc=>rw[ez] at hp;cases hp;refine⟨by have:=(fh.mp ez).1;show i<z.cps.size;simpa using this,λx H' ⟨hH,c2,hc,hx⟩=>?_⟩;subst hH hx;rw[ez] at hc;cases hc;exact⟨F2,Ę,Õ.refl _,Õ.refl _,Ć.str⟩
 |_=>exact h1.elim)
noncomputable def ac(i:Nat):M (List PV):=λO=>match O[i]? with
 |some (.bw ps)=>.ok ps O
 |some (.sh (.lst ps))=>.ok ps O
 |some (.sh (.tup ps))=>.ok ps O
 |some (.sh (.str z))=>.ok (z.cps.toList.map λc=>.str ⟨#[c]⟩) O
 |some (.ow ps)=>.ok ps (O.set i (.sh (.lst ps)))
 |_=>.bad
def di(i:Nat){x:Str}{px:Pos}(hN:X.N[i]?=some x:=by rfl)(hv:Bi X.env.scope x:=by first|exact ĕ rfl|exact ĉ (ĕ rfl)|exact ĉ (ĉ rfl))(hd:(x== ("__debug__" :Str))=false:=by decide)
 (gE:(x== ("__classdict__" :Str))=false:=by decide):PI X tg (.Name x px) (tI (kk X cm) E (ac i)):=λÃ s Y H R I h=>by
 obtain⟨c,F,O,rel,h⟩:=h;cases e:O[i]? with
 |none=>unfold ac at h;rw[e] at h;exact h.elim
 |some sl=>
  have Gh:ϔ (kk X cm) E (XF (kk X cm)) c F H Y R (bd (ì i) O)->Î (Ì X.prog X.w) X.A (eval (.Name x px) X.env) (λv s1=>Î (Ì X.prog X.w) X.A (pyIter v) (TK X Ã Y tg R) X.xe s1) X.xe s:=λh'=>
   lX (v_var i hN hv hd gE) Ã s Y H R I ⟨c,F,O,rel,h'⟩
  unfold ac at h;rw[e] at h;cases sl with
  |no=>exact h.elim
  |rc C ns ps=>exact h.elim
  |ot ps qs rs=>exact h.elim
  |ol ql=>exact h.elim
  |fr ql=>exact h.elim
  |bn qs rows=>exact h.elim
  |dw eR=>exact h.elim
  |ow ps=>exact Gh (by unfold bd ì;rw[e];exact h)
  |sh p=>
   cases p with
   |lst ps=>exact Gh (by unfold bd ì;rw[e];exact h)
   |tup ps=>exact Gh (by unfold bd ì;rw[e];exact h)
   |str z=>exact Gh (by unfold bd ì;rw[e];exact h)
   |_=>exact h.elim
  |bw ps=>obtain⟨a,vs,h1,h2,h3⟩:=rel.slot i _ e;refine x_ (gL hN hv hd gE) Ã s Y H R I ⟨.ref a,ŏ h1,.inl ⟨a,rfl,⟨vs,ϒ.of (rel.lent a _ h2).1⟩,h _ F H rel Ď Ď ?_⟩⟩;intro c' j F2 H2 Y2 O2 Ę sF sL;have hq:ϒ X.K H2 a vs:=ϒ.of (sL a _ h2);refine⟨λp hp=>?_,λhi=>⟨vs,hq,by rw[hi,h3.length];exact î _⟩⟩;obtain⟨u,hu,ru⟩:=de h3.pr hp;refine⟨⟨vs,u,hq,hu⟩,λx H' ⟨hH,hx⟩=>?_⟩;subst hH;have:vs[j]?=some x:=hx vs hq;rw[hu] at this;cases this;exact⟨F2,Ę,Õ.refl _,Õ.refl _,Ć.same sF p u ru⟩
noncomputable def g_(lo:Int)(n:Nat)(c:Int):List PV:=(ġ n).map λ(i:Nat)=>.int (lo+i*c)
def oQ(i:Int):Bool:=decide (i.natAbs<1152921504606846976)
def b_:List PV->Option (List PV)
 | [.int j]=>if oQ j=true then some (g_ 0 j.toNat 1) else none
 |_=>none
@[simp] def hG(f:List PV->Option (List PV))(mr:M (List PV))(O:ć):ĳ (List PV):= (mr O).bind λps O1=>ĳ.Aq (f ps) O1
def ya{lo c:Int}{n i:Nat}{p:PV}(h:(g_ lo n c)[i]?=some p):i<n/\p=.int (lo+i*c):=by
 unfold g_ at h;by_cases hn:i<n
 ·rw[Ņ,List.getElem?_range hn] at h;exact⟨hn,(Š h).symm⟩
 ·rw[List.getElem?_eq_none (by simpa using hn)] at h;cases h
def yb{lo c:Int}{n:Nat}:(g_ lo n c).length=n:=by simp[g_]
def L_{K:KK}{Lh F:Hp}(lo:Int)(n:Nat):xZ K Lh F (Sn lo n) (g_ lo n 1):=λc i F2 H Y O rel sF _=>
 ⟨fun p hp=>by obtain⟨h1,rfl⟩:=ya hp;refine⟨h1,λx H' ⟨e1,e2⟩=>?_⟩;subst e1 e2;exact⟨F2,rel,Õ.refl _,Õ.refl _,by rw[Int.mul_one];exact Ć.int⟩,λhi=>by rw[yb] at hi;subst hi;exact î _⟩
def Bw{i:Int}(h:oQ i=true): -(2 ^ 60)<=i/\i<2 ^ 60:=by unfold oQ at h;rw[decide_eq_true_eq] at h;lia
variable{a:Æ}{p pos:Pos}{mr:M (List PV)}
def Dc{K:KK}{F:Hp}{ps:List PV}{vs:List V}(h:Û K F ps vs):(∀i r,ps=.int i::r->∃r',vs=.int i::r'/\Û K F r r')/\(ps=[]->vs=[]):=by
 refine⟨λi r e=>?_,λe=>?_⟩
 ·subst e;unfold Û at h;obtain⟨x,r',h1,h2,h3⟩:=h;unfold Ć at h2;exact⟨r',by rw[h1,h2],h3⟩
 ·subst e;unfold Û at h;exact h
def dk(hg:Gl X "range")(hm:X.mg "range" =none)(ha:PA X [a] (tL (kk X cm) E mr))(hs:Ö [a] X.env=[(false,eval a X.env)]:=by exact ώ rfl):PI X tg (.Call (.Name "range" p) [a] [] pos) (tI (kk X cm) E (hG b_ mr)):=
 λÃ s Y H R I h=>Bl hg hm ha hs Ã s Y H R I (by
  obtain⟨c,F,O,rel,h⟩:=h;refine⟨c,F,O,rel,h.bind λps O1 vs F1 H1 Ù s1 s2 q h1=>?_⟩;have q':Û (kk X cm) F1 ps vs:=q;unfold b_ at h1;split at h1
  ·rename_i j;split at h1
   ·rename_i hj;obtain⟨r',e1,e2⟩:=(Dc q').1 _ _ rfl;cases(Dc e2).2 rfl;obtain⟨k1,k2⟩:=Bw hj;exact⟨j,e1,by lia,by lia,h1 _ F1 H1 Ù Ď Ď (L_ 0 j.toNat)⟩
   ·exact h1.elim
  ·exact h1.elim)
end
noncomputable def yc:Slot->Slot
 | .sh p=>.sh p
 | .ow ps=>.bw ps
 | .bw ps=>.bw ps
 |_=>.no
def kP(js:List Nat)(nl:Nat)(O:ć):ć:=js.map (λ(j:Nat)=>yc ((O[j]?).getD .no))++Ê nl .no
noncomputable def Ũ(g:Tg)(mt:M Bool)(me:M PV):List PV->ć->List PV->Option (List PV)
 | [],_,acc=>some acc
 |p::ps,O,acc=>match g p O with
  |none=>none
  |some O1=>match mt O1 with
   | .ok true O2=>match me O2 with
     | .ok q O3=>if acc.length<16777216 then Ũ g mt me ps O3 (acc ++ [q]) else none
     |_=>none
   | .ok false O2=>Ũ g mt me ps O2 acc
   |_=>none
@[simp] def ϻ(js:List Nat)(nl:Nat)(mi:M (List PV))(g:Tg)(mt:M Bool)(me:M PV)(O:ć):ĳ RV:= (mi O).bind fun ò O1=>match Ũ g mt me ò (kP js nl O1) [] with
  |some ps=>.ok (.ow ps) O1
  |none=>.bad
abbrev EF:Ą->XK:=λ_ _ _ _=>False
@[simp] def ũ(O:ć):ĳ Bool:= .ok true O
section
variable{K:KK}{c:Ctx}{F H:Hp}{Y:Ą}{O:ć}
def qz(F H H1:Hp):Ctx:=⟨H1,F,(bo F H).L,λ_ _ _=>True⟩
def ę.cap(js:List Nat)(nl:Nat)(rel:ę K c F H Y O){D:À}{o:HO}(hD:H D=none):ę K (qz F H (upd H D o)) F (upd H D o) (gR js nl Y) (kP js nl O) where
 sub:=rel.sub.trans (Õ.upd hD)
 base:=Õ.refl _
 f0:=Õ.refl _
 bS:=λ_ _ z=>z
 lent:=λa u e=>⟨Õ.upd hD a u (ϓ e).1,(ϓ e).2⟩
 lb:=fun a e=>by
   cases q:(qz F H (upd H D o)).L a with
   |none=>rfl
   |some u=>have e':upd H D o a=none:=e;rw[Õ.upd hD a u (ϓ q).1] at e';cases e'
 len:=by simp[gR,kP]
 slot:= λi s e=>by
  unfold kP at e;by_cases hi:i<js.length
  ·rw[aG (by simpa using hi),Ņ] at e;cases ej:js[i]? with
   |none=>rw[ej] at e;cases e
   |some j=>
    rw[ej] at e;have e':yc ((O[j]?).getD .no)=s:=Š e;subst e';have hx:((gR js nl Y)[i]?).getD none=(Y[j]?).getD none:=by unfold gR;rw[aG (by simpa using hi),Ņ,ej];rfl
    rw[hx];cases er:O[j]? with
    |none=>trivial
    |some sl=>
     have q:=rel.slot j sl er;cases sl with
     |no=>trivial
     |sh p=>exact q
     |ow ps=>obtain⟨a,vs,h1,h2,h3,h4,h5⟩:=q;refine⟨a,vs,h1,?_,h5⟩;show(match F a with|none=>H a|some _=>none)=_;rw[h3];exact h2
     |bw ps=>obtain⟨a,vs,h1,h2,h3⟩:=q;obtain⟨l1,l2⟩:=rel.lent a _ h2;refine⟨a,vs,h1,?_,h3⟩;show(match F a with|none=>H a|some _=>none)=_;rw[l2];exact l1
     |rc C ns ps=>trivial
     |ot ps qs rs=>trivial
     |ol ql=>trivial
     |fr ql=>trivial
     |bn qs rows=>trivial
     |dw eR=>trivial
  ·rw[fk (by simpa using hi),fq] at e;split at e
   ·cases e;trivial
   ·cases e
 sep:=λi j a h1 _=>by
  exfalso;obtain⟨s,y,h1,_,h2⟩:=h1;have h2:=gb h2;unfold kP at h1;by_cases hi:i<js.length
  ·rw[aG (by simpa using hi),Ņ] at h1;cases ej:js[i]? with
   |none=>rw[ej] at h1;cases h1
   |some j=>rw[ej] at h1;have e':yc ((O[j]?).getD .no)=s:=Š h1;subst e';cases q:(O[j]?).getD .no<;>rw[q] at h2<;>cases h2
  ·rw[fk (by simpa using hi),fq] at h1;split at h1
   ·cases h1;cases h2
   ·cases h1
def ę.rebase{H1 F1:Hp}{D:À}{ys zs:List V}(hD:H1 D=none)(hF:F1 D=none)(rel:ę K (qz F1 H1 (upd H1 D (.lst ys))) F H Y O):ę K (qz F1 H1 (upd H1 D (.lst zs))) F (upd H D (.lst zs)) Y O:= by
 have fD:F D=none:=rel.bS D (by show upd H1 D _ D≠none;rw[ã];intro z;cases z) hF;have lD:∀b u,(qz F1 H1 (upd H1 D (.lst ys))).L b=some u->b≠D:=λb u e z=>by have q:=(ϓ (F:=F1) (H:=H1) (a:=b) (u:=u) e).1;rw[z,hD] at q;cases q
 have ne:∀b,(qz F1 H1 (upd H1 D (.lst ys))).B b=none->b≠D:=λb z q=>by subst q;have z':upd H1 b (.lst ys) b=none:=z;rw[ã] at z';cases z'
 have back:∀b,b≠D->(qz F1 H1 (upd H1 D (.lst ys))).B b=none->(qz F1 H1 (upd H1 D (.lst zs))).B b=none:=λb hb z=>by have z':upd H1 D (.lst ys) b=none:=z;show upd H1 D (.lst zs) b=none;rw[Ú hb] at z' ⊢;exact z'
 refine⟨λb u e=>?_,λb u e=>?_,rel.f0,λb h1 h2=>?_,λb u e=>?_,λb e=>?_,rel.len,λi s e=>?_,rel.sep⟩
 ·have hb:b≠D:=λz=>by rw[z,fD] at e;cases e
  rw[Ú hb];exact rel.sub b u e
 ·by_cases hb:b=D
  ·subst hb;have e':upd H1 b (.lst zs) b=some u:=e;rw[ã] at e' ⊢;exact e'
  ·have e':upd H1 D (.lst zs) b=some u:=e;rw[Ú hb] at e' ⊢;exact rel.base b u (by show upd H1 D _ b=some u;rw[Ú hb];exact e')
 ·refine rel.bS b (λz=>h1 ?_) h2;exact back b (ne b z) z
 ·rw[Ú (lD b u e)];exact rel.lent b u e
 ·refine rel.lb b ?_;have z':upd H1 D (.lst zs) b=none:=e;have hb:b≠D:=λq=>by rw[q,ã] at z';cases z'
  show upd H1 D (.lst ys) b=none;rw[Ú hb] at z' ⊢;exact z'
 ·have q:=rel.slot i s e;cases s with
  |no=>trivial
  |sh p=>exact q
  |bw ps=>exact q
  |ow ps=>obtain⟨a,vs,q1,q2,q3,q4,q5⟩:=q;have hb:=ne a q4;exact⟨a,vs,q1,by rw[Ú hb];exact q2,q3,back a hb q4,q5⟩
  |rc C ns ps=>obtain⟨a,dx,fs,q1,q2,q3,q4,q5⟩:=q;have hb:=ne a q4;exact⟨a,dx,fs,q1,by rw[Ú hb];exact q2,q3,back a hb q4,q5⟩
  |ot ps qs rs=>obtain⟨p,a,xs,vs,ys,q1,q0,qx,q2,q3,q4,q5⟩:=q;have hb:=ne a q4;exact⟨p,a,xs,vs,ys,q1,q0,qx,by rw[Ú hb];exact q2,q3,back a hb q4,q5⟩
  |ol ql=>obtain⟨p,as,q1,q0,qn,qp⟩:=q;refine⟨p,as,q1,q0,qn,jl qp λa ps _ ⟨vs,q2,q3,q4,q5⟩=>?_⟩;have hb:=ne a q4;exact⟨vs,by rw[Ú hb];exact q2,q3,back a hb q4,q5⟩
  |fr ql=>obtain⟨p,as,q1,q2,q3,q4,qn,qp⟩:=q;have hb:=ne p q4;exact⟨p,as,q1,by rw[Ú hb];exact q2,q3,back p hb q4,qn,jl qp λa ps _ ⟨vs,k1,k2,k3⟩=>⟨vs,k1,back a (ne a k2) k2,k3⟩⟩
  |dw eR=>exact q
  |bn qs rows=>obtain⟨v,q1,a,b,ys,vs,h1,h2,h3,h4,h5⟩:=q;exact⟨v,q1,a,b,ys,vs,h1,h2,back a (ne a h3) h3,back b (ne b h4) h4,h5⟩
end
section
variable{X:Cx}{cm:String->À}{E:Ą->XK}{elt tg iter:Æ}{ifs:List Æ}{scope:õ}{pos:Pos}{mi:M (List PV)}{g:Tg}{mt:M Bool}{me:M PV}
def ϫ:Bs X [] (tB (kk X cm) E ũ):=λÃ s Y H Q I h=>FZ Ã s Y H Q I (by
 obtain⟨c,F,O,rel,h⟩:=h;exact h true F H rel Ď Ď rfl)
def L5{a:Æ}(h:PT X a (tB (kk X cm) E mt)):Bs X [a] (tB (kk X cm) E mt):=F_ h
def Dd(K:KK):RR (List PV) It:=λ_ _ _ F H ò J=>xZ K (bo F H).L F J ò
def De{K:KK}{c:Ctx}{F H:Hp}{Y:Ą}{O:ć}(rel:ę K c F H Y O){b:À}{u:HO}(e:c.L b=some u):(bo F H).L b=some u:=by obtain⟨l1,l2⟩:=rel.lent b u e;show(match F b with|none=>H b|some _=>none)=some u;rw[l2];exact l1
def HI(h:PI X tg iter (tI (kk X cm) E mi)):PI X tg iter (tG (kk X cm) E (Dd (kk X cm)) mi):=λÃ s Y H R I ⟨c,F,O,rel,q⟩=>h Ã s Y H R I ⟨c,F,O,rel,ϔ.bind (R':=Dd (kk X cm)) (f:=λp O=>.ok p O) (by revert q;cases mi O <;> exact id) λp O1 v F1 H1 Ù s1 s2 q h1=>h1 v F1 H1 Ù Ď Ď λc' i F2 H2 Y2 O2 Ę sF sL=>q c' i F2 H2 Y2 O2 Ę sF λb u e=>sL b u (De Ù e)⟩
def wt{js:List Nat}{nl:Nat}{Y:Ą}{H:Hp}{Q:VK}(h:tO (kk X cm) E (ϻ js nl mi g mt me) Y H Q):Aj js nl (tG (kk X cm) E (Dd (kk X cm)) mi) (tT (kk X cm) g) (tB (kk X cm) EF mt) (tV (kk X cm) EF me) Y H Q:=by
 obtain⟨c,F,O,rel,h⟩:=h;refine⟨c,F,O,rel,h.bind λò O1 J F1 H1 Ù s1 s2 OG h1=>?_⟩;intro D hD;have hF:F1 D=none:=Ù.sub.free hD;cases ec:Ũ g mt me ò (kP js nl O1) [] with
 |none=>rw[ec] at h1;exact h1.elim
 |some res=>
  rw[ec] at h1;refine⟨λi m Y' H'=>∃F' O' ys acc,i<=ò.length/\m=ò.length-i/\ę (kk X cm) (qz F1 H1 (upd H1 D (.lst ys))) F' H' Y' O'/\Û (kk X cm) F' acc ys/\Ũ g mt me (ò.drop i) O' acc=some res,
   ⟨_,F1,_,[],[],ϳ _,rfl,?_,Û.nil,ec⟩,?_⟩
  ·exact Ù.cap js nl hD
  ·rintro i m Y2 H2 ⟨F2,O2,ys,acc,hle,rfl,Ę,ra,h2⟩;have OH:Õ F1 F2:=Ę.f0;obtain⟨go,stop⟩:=OG _ i F2 H2 Y2 O2 Ę OH λb u e=>(Ę.lent b u e).1;have WZ:H2 D=some (.lst ys):=Ę.base D _ (show upd H1 D _ D=_ from ã);have fD:F2 D=none:=Ę.bS D (by show upd H1 D _ D≠none;rw[ã];intro z;cases z) hF;by_cases lP:i<ò.length
   ·obtain⟨g1,g2⟩:=go ò[i] (ž lP);rw[dN lP] at h2;unfold Ũ at h2;refine .inr ⟨g1,_,λY' H' z=>z,λx H3 hy=>?_⟩;obtain⟨F3,dJ,s3,UM,rp⟩:=g2 x H3 hy;refine⟨_,F3,O2,ò[i],dJ,rp,?_⟩;cases eg:g ò[i] O2 with
    |none=>rw[eg] at h2;cases h2
    |some O3=>
     rw[eg] at h2;dsimp only at h2;intro Y4 qv;refine⟨_,F3,O3,qv,?_⟩;cases em:mt O3 with
     |bad=>rw[em] at h2;cases h2
     |exc x O4=>rw[em] at h2;cases h2
     |ok b O4=>
      rw[em] at h2;intro b' F5 H5 qA s5 s5' eb;have W_:b=b':=eb;subst W_;cases b with
      |false=>rw[if_neg ϖ];dsimp only at h2;exact⟨ò.length-(i+1),by lia,F5,O4,ys,acc,lP,rfl,qA,Û.same (s3.trans s5) acc ys ra,h2⟩
      |true=>
       rw[if_pos rfl];dsimp only at h2;refine⟨_,F5,O4,qA,?_⟩;cases ee:me O4 with
       |bad=>rw[ee] at h2;cases h2
       |exc x O5=>rw[ee] at h2;cases h2
       |ok q O5=>
        rw[ee] at h2;dsimp only at h2;intro y F6 H6 ye s6 s6' rq;split at h2
        ·rename_i hz;have P8:=Û.same ((s3.trans s5).trans s6) acc ys ra;refine⟨ys,ye.base D _ (show upd H1 D _ D=_ from ã),by rw[<-P8.length,č];exact hz,?_⟩;exact⟨ò.length-(i+1),by lia,F6,O5,ys ++ [y],acc ++ [q],lP,rfl,ye.rebase hD hF,Û.append P8 (Û.cons rq Û.nil),h2⟩
        ·cases h2
   ·have e:i=ò.length:=by lia
    refine .inl ⟨stop e,?_⟩;rw[cy (by lia)] at h2;unfold Ũ at h2;cases h2;have gr:Gr F1 H1 F2 H2:=⟨λb u e=>Ę.base b u (by show upd H1 D _ b=_;rw[Ú (é e hD)];exact e),OH,Ę.sub,λb hb hf=>Ę.bS b (by
     show upd H1 D _ b≠none;by_cases RY:b=D
     ·rw[RY,ã];intro z;cases z
     ·rw[Ú RY];exact hb) hf⟩
    have L6:=Ù.call gr;exact h1 _ F2 H2 L6 OH gr.h ⟨D,ys,rfl,WZ,fD,Ù.base.free hD,Ù.gU gr.f (Ù.fresh hD),ra⟩
def Gi(N':List Str)(js:List Nat)(nl:Nat)(sc:õ)(Bc:X.env.scope=sc)(hcalm:X.calm=true)
 (hi:PI X.Ŭ tg iter (tG (kk X cm) E (Dd (kk X cm)) mi))(hg:∀cl C s H fp,PG (dH X.Ŭ N' scope cl C s H fp) tg (tT (kk X cm) g))(ht:∀cl C s H fp,Bs (dH X.Ŭ N' scope cl C s H fp) ifs (tB (kk X cm) EF mt))(he:∀cl C s H fp,PE (dH X.Ŭ N' scope cl C s H fp) elt (tV (kk X cm) EF me))
 (hcap:jj X.Ŭ sc scope N' js)(hlen:js.length+nl=N'.length:=by rfl)
 (hk:scope.kind=.function:=by rfl)(hcell:∀y∈scope.names,y.2=.cell->scope.names.lookup y.1=some .cell:=by decide +kernel)(hnames:∀y∈scope.names,y.2=.local->scope.names.lookup y.1=some .local:=by decide +kernel)
 (hfree:∀y∈scope.names,y.2=.free->(sc.names.lookup y.1=some .cell\/sc.names.lookup y.1=some .free):=by decide +kernel)
 (hs:∀x,bA iter X.env x=ç x:=by intro _;rfl) :
 PE X (.ListComp elt [⟨tg,iter,ifs,0⟩] scope pos) (tO (kk X cm) E (ϻ js nl mi g mt me)):=
 PE.wk (PE.Ŭ (Ak N' js nl sc Bc hcalm hi hg ht he hcap hlen hk hcell hnames hfree hs)) λ_ _ _ h=>wt h
end
open M4
noncomputable abbrev Fm(x:Int):Nat:=ny x
section
variable{X:Cx}{cm:String->À}{K:KK}
def HJ(K:É):R2:=λx y H Q=>∃l b xs zs,x=.ref l/\y=.ref b/\ϒ K H l xs/\ϒ K H b zs/\xs.length+zs.length<=sizeLine/\∀p,H p=none->Q (.ref p) (upd H p (.lst (xs++zs)))
def Gj:aD X (ŋ .Add) (HJ X.K):=by
 intro Ã s Y H x y v u Q I rx ry h;obtain⟨l,b,xs,zs,rfl,rfl,hH,hB,hz,q⟩:=h;cases rx;cases ry;obtain⟨ě,r,pl,z⟩:=I.list hH;obtain⟨lr,r2,UN,z2⟩:=I.list hB;obtain⟨⟨c1,d1,t1,UO⟩,n,e,hc,hd,hs⟩:=pl;obtain⟨⟨c2,d2,t2,FA⟩,n2,e2,RZ,KI,Fe⟩:=UN;simp only at hc hd hs RZ KI Fe;subst hc hd hs RZ KI Fe;have hl:=r.length;have Fg:=r2.length;have ea:ě.toArray++lr.toArray=(ě++lr).toArray:=by simp
 refine concat_meets ⟨_,e,rfl⟩ ⟨_,e2,rfl⟩ noFill_list_add seq_list_add PySem.F.slot_list_add PySem.F.entry_list_add (PySem.F.args_list_add_2 _ _) (list_addW l b ě.toArray lr.toArray n n2 none none UO FA (by simp only[ļ];lia)) ⟨e,e2,?_⟩;rw[ea];exact⟨.ref _,_,I.Pz (t':=s.toks) (r.append r2) (by rw[Ī];lia),rfl,q _ I.fresh⟩
def HK(K:É):R2:=λx y H Q=>∃l b xs zs,x=.ref l/\y=.ref b/\eQ K H l xs/\eQ K H b zs/\xs≠[]/\zs≠[]/\xs.length+zs.length<=sizeLine/\∀p,H p=none->Q (.ref p) (upd H p (.tup (xs++zs)))
def Gk:aD X (ŋ .Add) (HK X.K):=by
 intro Ã s Y H x y v u Q I rx ry h;obtain⟨l,b,xs,zs,rfl,rfl,hH,hB,nx,nz,hz,q⟩:=h;cases rx;cases ry;obtain⟨ě,r,pl,z⟩:=I.tuple hH;obtain⟨lr,r2,UN,z2⟩:=I.tuple hB;obtain⟨⟨c1,d1,t1,UO⟩,e,hc,n,hd⟩:=pl;obtain⟨⟨c2,d2,t2,FA⟩,e2,RZ,n2,KI⟩:=UN;simp only at hc hd RZ KI;subst hc hd RZ KI;have hl:=r.length;have Fg:=r2.length;have ne1:ě≠[]:=λz=>by rw[z] at hl;exact nx (ip.mp hl)
 have ne2:lr≠[]:=λz=>by rw[z] at Fg;exact nz (ip.mp Fg)
 have ea:ě.toArray++lr.toArray=(ě++lr).toArray:=by simp
 refine concat_meets ⟨_,e,rfl⟩ ⟨_,e2,rfl⟩ noFill_tuple_add seq_tuple_add PySem.F.slot_tuple_add PySem.F.entry_tuple_add (PySem.F.args_tuple_add_2 _ _) (tuple_addW2 l b ě.toArray lr.toArray n n2 d1 d2 UO FA (by simpa using ne1) (by simpa using ne2) (by simp only[ļ];lia)) ⟨e,e2,?_⟩;rw[ea];exact⟨.ref _,_,I.laid (o:=.tup (xs++zs)) (t':=s.toks) (λ_ _ q=>ö _ q) (î _) ⟨by rw[Ī];lia,(ě++lr),r.append r2,⟨_,Ŀ _ rfl,rfl,_,rfl⟩⟩,rfl,q _ I.fresh⟩
noncomputable def ô:PV->PV->Option RV
 | .int i,.int j=>some (.sh (.int (i+j)))
 | .str i,.str j=>if i.length+j.length<=16777216 then some (.sh (.str (i++j))) else none
 | .lst ps,.lst qs=>if ps.length+qs.length<=16777216 then some (.ow (ps++qs)) else none
 | .tup (p::ps),.tup (q::qs)=>if(p::ps).length+(q::qs).length<=16777216 then some (.sh (.tup ((p::ps)++(q::qs)))) else none
 |_,_=>none
def HL(K:É):R2:=λx y H Q=>PF x y H Q\/(HJ K x y H Q\/HK K x y H Q)
def L7:aD X (ŋ .Add) (HL X.K):=Lx.or (Gj.or Gk)
def L8:UD K (HL K.K) ô:=by
 intro c F H Y O p q pv v u Q rel r1 r2 e k;unfold ô at e;split at e
 ·cases e;cases r1.int;cases r2.int;exact .inl (k _ F H rel Ď Ď (Ć.int (K:=K) (F:=F)))
 ·split at e
  ·rename_i hz;cases e;cases r1.str;cases r2.str;exact .inl ⟨by rw[č];exact hz,k _ F H rel Ď Ď (Ć.str (K:=K) (F:=F))⟩
  ·cases e
 ·split at e
  ·rename_i hz;cases e;obtain⟨a,xs,rfl,h1,h2⟩:=r1.lst rel.sub;obtain⟨b,ys,rfl,h3,h4⟩:=r2.lst rel.sub;refine .inr (.inl ⟨a,b,xs,ys,rfl,rfl,h1,h3,by rw[<-h2.length,<-h4.length,č];exact hz,λd hd=>?_⟩);obtain⟨q1,q2⟩:=dg rel hd (Û.append h2 h4);exact k _ F _ q1 Ď (Õ.upd hd) q2
  ·cases e
 ·split at e
  ·rename_i hz;cases e;obtain⟨a,xs,rfl,h1,h2⟩:=r1.tup rel.sub;obtain⟨b,ys,rfl,h3,h4⟩:=r2.tup rel.sub;have l1:=h2.length;have l2:=h4.length;refine .inr (.inr ⟨a,b,xs,ys,rfl,rfl,h1,h3,(λz=>by rw[z] at l1;cases l1),(λz=>by rw[z] at l2;cases l2),by rw[<-l1,<-l2,č];exact hz,λl hl=>k _ _ _ (rel.alloc hl) (Õ.upd (rel.sub.free hl)) (Õ.upd hl) ?_⟩);show Ć K _ _ _;unfold Ć;exact⟨l,xs++ys,rfl,eQ.of ã,Û.same (Õ.upd (rel.sub.free hl)) _ _ (Û.append h2 h4)⟩
  ·cases e
 ·cases e
noncomputable def Bn(g:Int->Int->Int):PV->PV->Option PV
 | .int i,.int j=>some (.int (g i j))
 |_,_=>none
noncomputable def Fq(C:Int->Int->Bool)(g:Int->Int->Int):PV->PV->Option PV
 | .int i,.int j=>if C i j=true then some (.int (g i j)) else none
 |_,_=>none
noncomputable def P9(g:Int->Int->Bool):PV->PV->Option PV
 | .int i,.int j=>some (.bl (g i j))
 |_,_=>none
def Qa{g:Int->Int->Int}:kM K (CM λi j=>.int (g i j)) (Bn g):=by
 intro c F H Y O p q pv v u Q rel r1 r2 e k;unfold Bn at e;split at e
 ·cases e;cases r1.int;cases r2.int;exact k _ F H rel Ď Ď Ć.int
 ·cases e
def L9{g:Int->Int->Bool}:kM K (CM λi j=>.bl (g i j)) (P9 g):=by
 intro c F H Y O p q pv v u Q rel r1 r2 e k;unfold P9 at e;split at e
 ·cases e;cases r1.int;cases r2.int;exact k _ F H rel Ď Ď Ć.bl
 ·cases e
def Ma{C:Int->Int->Bool}{C':Int->Int->Prop}{g:Int->Int->Int}(hC:∀i j,C i j=true->C' i j):kM K (mI C' λi j=>.int (g i j)) (Fq C g):=by
 intro c F H Y O p q pv v u Q rel r1 r2 e k;unfold Fq at e;split at e
 ·split at e
  ·rename_i hc;cases e;cases r1.int;cases r2.int;exact⟨hC _ _ hc,k _ F H rel Ď Ď Ć.int⟩
  ·cases e
 ·cases e
def aY:=Bn λi j=>i-j
def Mb:kM K (CM λi j=>.int (i-j)) aY:=Qa
def oR(_ j:Int):Bool:=decide (j≠0) && decide (Fm j<=8000)
def jm:=Fq oR λi j=>i.fdiv j
def Mc:kM K (mI Br λi j=>.int (i.fdiv j)) jm:=Ma λi j h=>by unfold oR at h;simpa[Br] using h
def Ax(_ j:Int):Bool:=decide (j≠0)
def ğ:=Fq Ax λi j=>i.fmod j
def Md:kM K (mI (λ_ j=>j≠0) λi j=>.int (i.fmod j)) ğ:=Ma λi j h=>by unfold Ax at h;simpa using h
def wu(i j:Int):Bool:=decide (0<=j) && decide (j.natAbs<=1000000) && decide (i.natAbs<18446744073709551616)
def wv:=Fq wu λi j=>i ^ j.toNat
def Dg:kM K (mI La λi j=>.int (i ^ j.toNat)) wv:=Ma λi j h=>by unfold wu at h;simp only[ē,decide_eq_true_eq] at h;exact⟨h.1.1,by lia,by have:=h.2;simpa using this⟩
def yf:=P9 λi j=>decide (i<j)
def gG:=P9 λi j=>decide (i<=j)
def Dh:=P9 λi j=>decide (j<i)
def ww:kM K (CM λi j=>.bl (decide (i<j))) yf:=L9
def ca:kM K (CM λi j=>.bl (decide (i<=j))) gG:=L9
def Di:kM K (CM λi j=>.bl (decide (j<i))) Dh:=L9
def Ϭ(i j:Int):Bool:=decide (i.natAbs<18446744073709551616) || decide (j.natAbs<18446744073709551616) || (decide (Fm i<=1048576) && decide (Fm j<=1048576))
def Dj{i j:Int}(h:Ϭ i j=true):rn i j:=by
 unfold Ϭ at h;simp only[sw,ē,decide_eq_true_eq] at h;rcases h with(h|h)|h
 ·exact .inl (.inl ⟨by lia,by lia⟩)
 ·exact .inl (.inr ⟨by lia,by lia⟩)
 ·exact .inr h
def Ş:PV->PV->Option PV
 | .int i,.int j=>if Ϭ i j=true then some (.int (i*j)) else none
 | .str z,.int n=>if 0<=n/\n<=1000/\z.length<=1000 then some (.str (S (Ê n.toNat z.cps.toList).flatten)) else none
 |_,_=>none
def Me:kM K CZ Ş:=by
 intro c F H Y O p q pv v u Q rel r1 r2 e k;unfold Ş at e;split at e
 ·split at e
  ·rename_i hc;cases e;cases r1.int;cases r2.int;exact⟨Dj hc,k _ F H rel Ď Ď Ć.int⟩
  ·cases e
 ·split at e
  ·rename_i hc;cases e;cases r1.str;cases r2.int;exact⟨hc,k _ F H rel Ď Ď Ć.str⟩
  ·cases e
 ·cases e
@[simp] def Dk(mr:M (List PV))(mk:M PV)(O:ć):ĳ RV:= (mr O).bind fun ps O1=>if ps.length≤16777216 then(mk O1).bind fun q O2=>match q with
  | .int k=>if -(2 ^ 60)<=k/\k<2 ^ 60/\ps.length*k.toNat<=16777216 then .ok (.ow (Ê k.toNat ps).flatten) O2 else .bad
  |_=>.bad else .bad
theorem Ay{α β:Type}{G:α->β->Prop}{l:List α}{m:List β}(h:Paired G l m):∀k:Nat,Paired G (Ê k l).flatten (Ê k m).flatten
 |0=>.nil
 |k+1=>by rw[aj,aj,cx,cx];exact oH h (Ay h k)
variable{E:Ą->XK}{a b e:Æ}{es:List Æ}{pos:Pos}{ma mb:M PV}{mr:M (List PV)}
def HM{p2:Pos}(ha:PA X es (tL (kk X cm) E mr))(hb:PE X b (tR (kk X cm) E mb)):PE X (.BinOp (.List es p2) .Mult b pos) (tO (kk X cm) E (Dk mr mb)):=PE.wk (Cp Lr (uB ha) hb) λY H Q ⟨c,F,O,rel,h⟩=>
 ⟨c,F,O,rel,h.bind fun ps O1 vs F1 H1 Ù _ _ r1 h1=>by
   split at h1
   ·rename_i hz;refine⟨by rw[<-Û.length r1,č];exact hz,λd hd=>?_⟩;refine⟨c,F1,O1,Ù.made hd,ϔ.bind (ϔ.mono h1 Ď (Õ.upd hd)) λq O2 u F2 H2 Ę sF sH r2 h2=>?_⟩;cases q with
    |int k=>
     dsimp only at h2;cases r2.int;split at h2
     ·rename_i hk;have hl:=Û.length r1;refine⟨d,k,vs,rfl,rfl,sH _ _ ã,by lia,by lia,by rw[<-hl,č];exact hk.2.2,λd2 KI=>?_⟩;obtain⟨q1,q2⟩:=dg Ę KI (Û.of (Ay (Û.same sF ps vs r1).pr k.toNat));exact h2 _ F2 _ q1 Ď (Õ.upd KI) q2
     ·exact h2.elim
    |_=>exact h2.elim
   ·exact h1.elim⟩
def Az:PV->Option PV
 | .int i=>some (.int (-i))
 |_=>none
def Mf:XC K (mU λi=>.int (-i)) Az:=by
 intro c F H Y O p pv v Q rel r1 e k;unfold Az at e;split at e
 ·cases e;cases r1.int;exact k _ F H rel Ď Ď Ć.int
 ·cases e
mutual
def bT:PV->PV->Bool
 | .non,.non=>true
 | .bl a,.bl b=>a== b
 | .bl a,.int j=>(if a then 1 else 0)== j
 | .int i,.bl b=>i== (if b then 1 else 0)
 | .int i,.int j=>i== j
 | .str x,.str y=>x== y
 | .lst xs,.lst ys=>lG xs ys
 | .tup xs,.tup ys=>lG xs ys
 |_,_=>false
def lG:List PV->List PV->Bool
 | [],[]=>true
 |x::xs,y::ys=>bT x y && lG xs ys
 |_,_=>false
end
mutual
def Ž:PV->Bool
 | .non| .bl _| .int _=>true
 | .str x=>Ĩ x
 | .lst xs=>aE xs
 | .tup xs=>aE xs
 |_=>false
def aE:List PV->Bool
 | []=>true
 |x::xs=>Ž x && aE xs
end
mutual
def qT:PV->Nat
 | .lst xs=>jB xs+1
 | .tup xs=>jB xs+1
 |_=>0
def jB:List PV->Nat
 | []=>0
 |x::xs=>max (qT x) (jB xs)
end
mutual
def eS:PV->Ϟ
 | .non=>.none
 | .bl b=>.bool b
 | .int i=>.int i
 | .str x=>.str x
 | .lst xs=>.list (eY xs)
 | .tup xs=>.tuple (eY xs)
 |_=>.none
def eY:List PV->List Ϟ
 | []=>[]
 |x::xs=>eS x::eY xs
end
mutual
theorem gf:∀p:PV,Ž p=true->(eS p).canLay0=true
 | .non,_=>rfl
 | .bl _,_=>rfl
 | .int _,_=>rfl
 | .str x,h=>by unfold Ž at h;unfold eS tF;exact h
 | .lst xs,h=>by unfold Ž at h;unfold eS tF;exact hJ xs h
 | .tup xs,h=>by unfold Ž at h;unfold eS tF;exact hJ xs h
 | .ins _ _ _,h=>by simp[Ž] at h
 | .xc _ _ _,h=>by simp[Ž] at h
 | .ty _,h=>by simp[Ž] at h
 | .cls _,h=>by simp[Ž] at h
theorem hJ:∀ps:List PV,aE ps=true->fP (eY ps)=true
 | [],_=>rfl
 |p::ps,h=>by unfold aE at h;rw[ē] at h;unfold eY fP;rw[gf p h.1,hJ ps h.2];rfl
end
mutual
theorem gh:∀p:PV,(eS p).depth=qT p
 | .non=>rfl
 | .bl _=>rfl
 | .int _=>rfl
 | .str x=>rfl
 | .lst xs=>by unfold eS PyData.depth qT;rw[oS xs]
 | .tup xs=>by unfold eS PyData.depth qT;rw[oS xs]
 | .ins _ _ _=>rfl
 | .xc _ _ _=>rfl
 | .ty _=>rfl
 | .cls _=>rfl
theorem oS:∀ps:List PV,PyData.depthAll (eY ps)=jB ps
 | []=>rfl
 |p::ps=>by unfold eY PyData.depthAll jB;rw[gh p,oS ps]
end
mutual
theorem uM:∀p q:PV,Ž p=true->Ž q=true->ī (eS p) (eS q)=bT p q
 | .lst xs,.lst ys,h1,h2=>by unfold Ž at h1 h2;unfold eS bT ī;exact uN xs ys h1 h2
 | .tup xs,.tup ys,h1,h2=>by unfold Ž at h1 h2;unfold eS bT ī;exact uN xs ys h1 h2
 | .ins _ _ _,_,h,_=>by simp[Ž] at h
 | .xc _ _ _,_,h,_=>by simp[Ž] at h
 | .ty _,_,h,_=>by simp[Ž] at h
 | .cls _,_,h,_=>by simp[Ž] at h
 | .non,q,_,h=>by cases q<;>first|rfl|(simp[Ž] at h)|(simp[eS,bT,ī])
 | .bl _,q,_,h=>by cases q<;>first|rfl|(simp[Ž] at h)|(simp[eS,bT,ī])
 | .int _,q,_,h=>by cases q<;>first|rfl|(simp[Ž] at h)|(simp[eS,bT,ī])
 | .str _,q,_,h=>by cases q<;>first|rfl|(simp[Ž] at h;done)|(simp[eS,bT,ī])
 | .lst _,.non,_,_=>by simp[eS,bT,ī]
 | .lst _,.bl _,_,_=>by simp[eS,bT,ī]
 | .lst _,.int _,_,_=>by simp[eS,bT,ī]
 | .lst _,.str _,_,_=>by simp[eS,bT,ī]
 | .lst _,.tup _,_,_=>by simp[eS,bT,ī]
 | .lst _,.ins _ _ _,_,h=>by simp[Ž] at h
 | .lst _,.xc _ _ _,_,h=>by simp[Ž] at h
 | .lst _,.ty _,_,h=>by simp[Ž] at h
 | .lst _,.cls _,_,h=>by simp[Ž] at h
 | .tup _,.non,_,_=>by simp[eS,bT,ī]
 | .tup _,.bl _,_,_=>by simp[eS,bT,ī]
 | .tup _,.int _,_,_=>by simp[eS,bT,ī]
 | .tup _,.str _,_,_=>by simp[eS,bT,ī]
 | .tup _,.lst _,_,_=>by simp[eS,bT,ī]
 | .tup _,.ins _ _ _,_,h=>by simp[Ž] at h
 | .tup _,.xc _ _ _,_,h=>by simp[Ž] at h
 | .tup _,.ty _,_,h=>by simp[Ž] at h
 | .tup _,.cls _,_,h=>by simp[Ž] at h
theorem uN:∀ps qs:List PV,aE ps=true->aE qs=true->kA (eY ps) (eY qs)=lG ps qs
 | [],[],_,_=>by simp[eY,lG,kA]
 | [],_::_,_,_=>by simp[eY,lG,kA]
 |_::_,[],_,_=>by simp[eY,lG,kA]
 |p::ps,q::qs,h1,h2=>by unfold aE at h1 h2;rw[ē] at h1 h2;unfold eY lG kA;rw[uM p q h1.1 h2.1,uN ps qs h1.2 h2.2]
end
mutual
theorem Dl{F:Hp}:∀(p:PV) (v:V),Ž p=true->Ć K F p v->Rp K.K F (eS p) v
 | .non,_,_,r=>by unfold Ć at r;unfold eS Rp;exact r
 | .bl _,_,_,r=>by unfold Ć at r;unfold eS Rp;exact r
 | .int _,_,_,r=>by unfold Ć at r;unfold eS Rp;exact r
 | .str _,_,_,r=>by unfold Ć at r;unfold eS Rp;exact r
 | .lst xs,_,h,r=>by unfold Ž at h;unfold Ć at r;unfold eS Rp;obtain⟨a,vs,h1,h2,h3⟩:=r;exact⟨a,vs,h1,h2,iS xs vs h h3⟩
 | .tup xs,_,h,r=>by unfold Ž at h;unfold Ć at r;unfold eS Rp;obtain⟨a,vs,h1,h2,h3⟩:=r;exact⟨a,vs,h1,h2,iS xs vs h h3⟩
 | .ins _ _ _,_,h,_=>by simp[Ž] at h
 | .xc _ _ _,_,h,_=>by simp[Ž] at h
 | .ty _,_,h,_=>by simp[Ž] at h
 | .cls _,_,h,_=>by simp[Ž] at h
theorem iS{F:Hp}:∀(ps:List PV) (vs:List V),aE ps=true->Û K F ps vs->lE K.K F (eY ps) vs
 | [],_,_,r=>by unfold Û at r;unfold eY lE;exact r
 |p::ps,_,h,r=>by unfold aE at h;rw[ē] at h;unfold Û at r;unfold eY lE;obtain⟨x,t,h1,h2,h3⟩:=r;exact⟨x,t,h1,Dl p x h.1 h2,iS ps t h.2 h3⟩
end
def iU{c:Ctx}{F H:Hp}{Y:Ą}{O:ć}{p:PV}{v:V}(s:Õ F H)(h:Ž p=true)(r:rR K c Y O F H p v):Rp K.K H (eS p) v:=by
 rcases r with r|r
 ·exact Rp.same s _ _ (Dl p v h r)
 ·cases p with
  |lst ps=>obtain⟨a,vs,rfl,h3,h4⟩:=r;unfold Ž at h;unfold eS Rp;exact⟨a,vs,rfl,ϒ.of h3,lE.same s _ _ (iS ps vs h h4)⟩
  |ins C ns ps=>simp[Ž] at h
  |_=>exact r.elim
noncomputable def qB(p q:PV):Bool:=Ž p && Ž q && decide (min (qT p) (qT q)<=60)
def ń(p q:PV):Option PV:=if qB p q=true then some (.bl (bT p q)) else none
def jC(p q:PV):Option PV:=if qB p q=true then some (.bl (!bT p q)) else none
def HN:kM K (FY K.K false) ń:=by
 intro c F H Y O p q pv v u Q rel r1 r2 e k;unfold ń at e;split at e
 ·rename_i hz;cases e;unfold qB at hz;simp only[ē,decide_eq_true_eq] at hz;refine⟨eS p,eS q,iU rel.sub hz.1.1 r1,iU rel.sub hz.1.2 r2,gf p hz.1.1,gf q hz.1.2,by rw[gh,gh];exact hz.2,?_⟩;rw[uM p q hz.1.1 hz.1.2];exact k _ F H rel Ď Ď Ć.bl
 ·cases e
def HP:kM K (FY K.K true) jC:=by
 intro c F H Y O p q pv v u Q rel r1 r2 e k;unfold jC at e;split at e
 ·rename_i hz;cases e;unfold qB at hz;simp only[ē,decide_eq_true_eq] at hz;refine⟨eS p,eS q,iU rel.sub hz.1.1 r1,iU rel.sub hz.1.2 r2,gf p hz.1.1,gf q hz.1.2,by rw[gh,gh];exact hz.2,?_⟩;rw[uM p q hz.1.1 hz.1.2];exact k _ F H rel Ď Ď Ć.bl
 ·cases e
def Ft:PV->Bool
 | .non=>true
 |_=>false
def yg(p q:PV):Option PV:=match q with
 | .non=>some (.bl (Ft p))
 |_=>none
def Gm{c:Ctx}{F H:Hp}{Y:Ą}{O:ć}{p:PV}{v:V}(r:rR K c Y O F H p v):decide (v=.non)=Ft p:=by
 rcases r with r|r
 ·cases p<;>unfold Ć at r<;>first
   |(subst r;rfl)
   |(obtain⟨a,xs,rfl,_⟩:=r;rfl)
   |(obtain⟨a,xs,ys,rfl,_⟩:=r;rfl)
 ·cases p with
  |lst ps=>obtain⟨a,vs,rfl,_⟩:=r;rfl
  |ins C ns ps=>obtain⟨a,dx,fs,rfl,_⟩:=r;rfl
  |_=>exact r.elim
def AA:kM K (λx y H Q=>y=.non/\Q (.bl (decide (x=.non))) H) yg:=by
 intro c F H Y O p q pv v u Q rel r1 r2 e k;unfold yg at e;split at e
 ·cases e;refine⟨r2.non,?_⟩;rw[Gm r1];exact k _ F H rel Ď Ď Ć.bl
 ·cases e
def ė:PV->PV->Option PV
 | .lst ps,.int i=>oA ps i
 | .tup ps,.int i=>oA ps i
 | .str z,.int i=>if z.length<=16777216 then(oA z.cps.toList i).map λc=>.str ⟨#[c]⟩ else none
 |_,_=>none
def AB{F:Hp}{ps:List PV}{vs:List V}{i:Int}{p:PV}(r:Û K F ps vs)(h:oA ps i=some p):∃v,oA vs i=some v/\Ć K F p v:=by
 unfold oA at h ⊢;rw[r.length] at h;cases e:HB vs.length i with
 |none=>rw[e] at h;cases h
 |some j=>rw[e] at h;obtain⟨v,h1,h2⟩:=de r.pr h;exact⟨v,h1,h2⟩
def Qb:kM K (XB K.K) ė:=by
 intro c F H Y O p q pv v u Q rel r1 r2 e k;unfold ė at e;split at e
 ·obtain⟨a,vs,rfl,h1,h2⟩:=r1.lst rel.sub;cases r2.int;obtain⟨x,h3,h4⟩:=AB h2 e;exact⟨vs,x,.inl h1,h3,k _ F H rel Ď Ď h4⟩
 ·obtain⟨a,vs,rfl,h1,h2⟩:=r1.tup rel.sub;cases r2.int;obtain⟨x,h3,h4⟩:=AB h2 e;exact⟨vs,x,.inr h1,h3,k _ F H rel Ď Ď h4⟩
 ·split at e
  ·rename_i z i hz;cases r1.str;cases r2.int;cases ea:oA z.cps.toList i with
   |none=>rw[ea] at e;cases e
   |some cc=>rw[ea] at e;cases e;exact⟨cc,by rw[č];exact hz,ea,k _ F H rel Ď Ď Ć.str⟩
  ·cases e
 ·cases e
@[simp] def hU(O:ć):ĳ (Option Int):= .ok none O
noncomputable def mP(m:M PV):M (Option Int):=λO=>(m O).bind λp O1=>match p with
 | .int i=>.ok (some i) O1
 |_=>.bad
abbrev tP(K:KK)(E:Ą->XK)(m:M (Option Int)):TO:=tG K E rI m
def be:PO X none (tP (kk X cm) E hU):=λÃ s Y H Q I h=>FN Ã s Y H Q I (by
 obtain⟨c,F,O,rel,h⟩:=h;exact h none F H rel Ď Ď rfl)
def ό(ha:PE X e (tV (kk X cm) E ma)):PO X (some e) (tP (kk X cm) E (mP ma)):=λÃ s Y H Q I h=>CP ha Ã s Y H Q I (by
 obtain⟨c,F,O,rel,h⟩:=h;refine⟨c,F,O,rel,h.bind λp O1 v F1 H1 Ù _ _ r1 h1=>?_⟩;cases p with
 |int i=>
  have e:v=.int i:=by have jc:Ć (kk X cm) F1 (.int i) v:=r1;unfold Ć at jc;exact jc
  subst e;exact h1 (some i) F1 H1 Ù Ď Ď rfl
 |_=>exact h1.elim)
def dL{α:Type}(xs:List α)(lo hi:Option Int):List α:= (xs.drop (HT.iR xs.length 0 lo)).take (HT.iR xs.length xs.length hi-HT.iR xs.length 0 lo)
def Su(p:PV)(lo hi:Option Int):Option RV:=match p with
 | .lst ps=>some (.ow (dL ps lo hi))
 | .str z=>if z.length<=16777216 then some (.sh (.str (S (dL z.cps.toList lo hi)))) else none
 |_=>none
@[simp] def rH(ma:M PV)(ml mh:M (Option Int))(O:ć):ĳ RV:= (ma O).bind λp O1=>(ml O1).bind λlo O2=>(mh O2).bind λhi O3=>ĳ.Aq (Su p lo hi) O3
def ŵ{ml mh:M (Option Int)}{lo hi:Option Æ}{p2:Pos}(ha:PE X a (tR (kk X cm) E ma))(hl:PO X lo (tP (kk X cm) E ml))(hh:PO X hi (tP (kk X cm) E mh)):PE X (.Subscript a (.Slice lo hi none p2) pos) (tO (kk X cm) E (rH ma ml mh)):=
 PE.wk (CC slm ha hl hh) fun Y H Q ⟨c,F,O,rel,h⟩=>⟨c,F,O,rel,h.bind fun p O1 v F1 H1 Ù _ _ r1 h1=>⟨c,F1,O1,Ù,h1.bind fun lo O2 lo' F2 H2 Ę sF sH r2 h2=>⟨c,F2,O2,Ę,h2.bind fun hi O3 R_ F3 H3 dJ Sv UM r3 h3=>by
   have e2:lo=lo':=r2;have e3:hi=R_:=r3;subst e2 e3;have jc:rR (kk X cm) c Y O3 F3 H3 p v:=r1.mono (sF.trans Sv) (sH.trans UM);cases p with
   |lst ps=>
    obtain⟨a,vs,rfl,q1,q2⟩:=jc.lst dJ.sub;refine⟨vs,q1,λd hd=>?_⟩;have e:Û (kk X cm) F3 (dL ps lo hi) (wl vs lo hi):=by unfold dL wl;rw[q2.length];exact Û.of (An _ (Ao _ q2.pr))
    obtain⟨z1,z2⟩:=dg dJ hd e;exact h3 _ F3 _ z1 Ď (Õ.upd hd) z2
   |str z=>
    cases jc.str;unfold Su at h3;dsimp only at h3;split at h3
    ·rename_i hz;exact⟨by rw[č];exact hz,h3 _ F3 H3 dJ Ď Ď (Ć.str (K:=kk X cm) (F:=F3))⟩
    ·exact h3.elim
   |_=>exact h3.elim⟩⟩⟩
def vY{c:Ctx}{F H:Hp}{Y:Ą}{O:ć}{p:PV}{vs:List V}(h:LV K c Y O F H [p] vs):∃v,vs=[v]/\rR K c Y O F H p v:=by
 cases h with
 |cons r t=>cases t;exact⟨_,rfl,r⟩
def OW{c:Ctx}{F H:Hp}{Y:Ą}{O:ć}{p q:PV}{vs:List V}(h:LV K c Y O F H [p,q] vs):∃v u,vs=[v,u]/\rR K c Y O F H p v/\rR K c Y O F H q u:=by
 cases h with
 |cons r t=>
  cases t with
  |cons r' t=>cases t;exact⟨_,_,rfl,r,r'⟩
noncomputable def aU:List PV->Option PV
 | [.lst ps]=>some (.int ps.length)
 | [.tup ps]=>some (.int ps.length)
 | [.str z]=>if z.length<=16777216 then some (.int z.length) else none
 |_=>none
def Ů:dh K (LC K.K) aU:=by
 intro c F H Y O ps pv vs Q rel r e k;unfold aU at e;split at e
 ·cases e;obtain⟨v,rfl,r1⟩:=vY r;obtain⟨a,xs,rfl,h1,h2⟩:=r1.lst rel.sub;refine⟨xs,.inl h1,?_⟩;rw[<-h2.length];exact k _ F H rel Ď Ď Ć.int
 ·cases e;obtain⟨v,rfl,r1⟩:=vY r;obtain⟨a,xs,rfl,h1,h2⟩:=r1.tup rel.sub;refine⟨xs,.inr h1,?_⟩;rw[<-h2.length];exact k _ F H rel Ď Ď Ć.int
 ·split at e
  ·rename_i hz;cases e;obtain⟨v,rfl,r1⟩:=vY r;cases r1.str;exact⟨by rw[č];exact hz,k _ F H rel Ď Ď Ć.int⟩
  ·cases e
 ·cases e
noncomputable def Bx:List PV->Option PV
 | [.int i]=>some (.int (if i<0 then -i else i))
 |_=>none
def yh:dh K OA Bx:=by
 intro c F H Y O ps pv vs Q rel r e k;unfold Bx at e;split at e
 ·cases e;obtain⟨v,rfl,r1⟩:=vY r;cases r1.int;exact k _ F H rel Ď Ď Ć.int
 ·cases e
noncomputable def hV:List PV->Option RV
 | [.lst ps]=>some (.ow ps)
 | [.tup ps]=>some (.ow ps)
 |_=>none
def AC(K:É):List V->Hp->VK->Prop:=λxs H Q=>∃p ys,xs=[.ref p]/\(ϒ K H p ys\/eQ K H p ys)/\∀l,H l=none->Q (.ref l) (upd H l (.lst ys))
def cS:Ŝ X (.type "list") (AC X.K):=uF
def cT:C5 K (AC K.K) hV:=by
 intro c F H Y O ps pv vs Q rel r e k;unfold hV at e;split at e
 ·cases e;obtain⟨v,rfl,r1⟩:=vY r;obtain⟨a,xs,rfl,h1,h2⟩:=r1.lst rel.sub;refine⟨a,xs,rfl,.inl h1,λl hl=>?_⟩;obtain⟨q1,q2⟩:=dg rel hl h2;exact k _ F _ q1 Ď (Õ.upd hl) q2
 ·cases e;obtain⟨v,rfl,r1⟩:=vY r;obtain⟨a,xs,rfl,h1,h2⟩:=r1.tup rel.sub;refine⟨a,xs,rfl,.inr h1,λl hl=>?_⟩;obtain⟨q1,q2⟩:=dg rel hl h2;exact k _ F _ q1 Ď (Õ.upd hl) q2
 ·cases e
noncomputable def qC:PV->String->Option Bool
 | .int _,"int" =>some true
 | .int _,"bool" =>some false
 | .int _,"str" =>some false
 | .int _,"tuple" =>some false
 | .int _,"list" =>some false
 | .bl _,"int" =>some true
 | .bl _,"bool" =>some true
 | .lst _,"list" =>some true
 | .lst _,"tuple" =>some false
 | .lst _,"int" =>some false
 | .lst _,"str" =>some false
 | .tup _,"tuple" =>some true
 | .tup _,"list" =>some false
 | .tup _,"int" =>some false
 | .tup _,"str" =>some false
 | .str _,"str" =>some true
 | .str _,"int" =>some false
 | .str _,"list" =>some false
 | .str _,"tuple" =>some false
 | .non,"int" =>some false
 | .non,"str" =>some false
 | .non,"tuple" =>some false
 | .non,"list" =>some false
 |_,_=>none
end
theorem wx{K:KK}{F:Hp}:∀ns:List Int,Û K F (ns.map .int) (ns.map V.int)
 | []=>Û.nil
 |n::ns=>Û.cons Ć.int (wx ns)
def Qc(K:É):Sp:=λvs H Q _=>∃(sa:À) (ns:List Int),vs=[.ref sa]/\ϒ K H sa (ns.map V.int)/\ns.length<=63/\∀v H',v=.bl true->Q v H'
section
variable{X:Cx}{K:KK}
def Sw(K:É)(H:Hp)(x:V)(t:Á):Prop:=match x with
 | .non=>t=.type "NoneType"
 | .bl _=>t=.type "bool"
 | .int _=>t=.type "int"
 | .str _=>t=.type "str"
 | .ref a=>(t=.type "list" /\∃xs,ϒ K H a xs)\/(t=.type "tuple" /\∃xs,eQ K H a xs)\/lA K H (.ref a) t
 |_=>False
def AD(K:É):List V->Hp->VK->Prop:=λxs H Q=>match xs with
 | [x,.ty n]=>∃t b,Sw K H x t/\ŀ K t (.type n)=some b/\Q (.bl b) H
 | [x,.ref C]=>∃t b,Sw K H x t/\ŀ K t (.ref C)=some b/\Q (.bl b) H
 |_=>False
def AE{Ã:List (À×Obj)}{Y:Ą}{H:Hp}{s:Â}{A:à}{E:Á->Â->Prop}{Q:Á->Â->Prop}{c:Á}{b:Bool}{x:V}{u t:Á}(I:Inv X Ã Y H s)(rx:RelV x u)(ty:Sw X.K H x t)(e:ŀ X.K t c=some b)(h:∀tk,Q (.bool b) {s with toks:=tk}) :
 Î (Ì X.prog X.w) A (call (.builtin "isinstance") [u,c]) Q E s:=by
 cases x with
 |non=>cases(show t=_ from ty);exact eV I rx .non e h
 |bl y=>cases(show t=_ from ty);exact eV I rx (.bl y) e h
 |int y=>cases(show t=_ from ty);exact eV I rx (.int y) e h
 |str y=>cases(show t=_ from ty);exact eV I rx (.str y) e h
 |ref a=>
  cases(show u=ă a from rx);rcases ty with⟨rfl,xs,hS⟩|⟨rfl,xs,hS⟩|ty
  ·obtain⟨ě,r,⟨o,n,h1,h2,_⟩,_⟩:=I.list hS;exact ϡ ug I.da ⟨o,h1,h2⟩ e (λz=>nomatch z) h
  ·obtain⟨ě,r,⟨o,h1,h2,_⟩,_⟩:=I.tuple hS;exact ϡ zP I.da ⟨o,h1,h2⟩ e (λz=>nomatch z) h
  ·exact eV I rx ty e h
 |_=>exact ty.elim
def Mg:Ŝ X (.builtin "isinstance") (AD X.K):=by
 intro Ã s Y H xs us Q I r h;unfold AD at h;split at h
 ·obtain⟨t,b,h1,h2,h3⟩:=h;obtain⟨u,w',rfl,r1,r2⟩:=vals2 r;cases r2;exact AE I r1 h1 h2 λtk=>⟨.bl b,H,I.tok _,rfl,h3⟩
 ·obtain⟨t,b,h1,h2,h3⟩:=h;obtain⟨u,w',rfl,r1,r2⟩:=vals2 r;cases r2;exact AE I r1 h1 h2 λtk=>⟨.bl b,H,I.tok _,rfl,h3⟩
 ·exact h.elim
noncomputable def XG:PV->String
 | .non=> "NoneType"
 | .bl _=> "bool"
 | .int _=> "int"
 | .str _=> "str"
 | .lst _=> "list"
 | .tup _=> "tuple"
 |_=> ""
def Do{F:É}{p:PV}{n:String}{b:Bool}(h:qC p n=some b):ŀ F (.type (XG p)) (.type n)=some b:=by
 unfold qC at h;split at h<;>first
  |(cases h;first|rfl|decide +kernel|kernel_rfl)
  |cases h
def Gn{c:Ctx}{F H:Hp}{Y:Ą}{O:ć}{p:PV}{v:V}(s:Õ F H)(r:rR K c Y O F H p v)(h:∃n b,qC p n=some b):Sw K.K H v (.type (XG p)):=by
 obtain⟨n,b,h⟩:=h;cases p with
 |non=>cases r.non;rfl
 |bl _=>cases r.bl;rfl
 |int _=>cases r.int;rfl
 |str _=>cases r.str;rfl
 |lst ps=>obtain⟨a,vs,rfl,h1,h2⟩:=r.lst s;exact .inl ⟨rfl,vs,h1⟩
 |tup ps=>obtain⟨a,vs,rfl,h1,h2⟩:=r.tup s;exact .inr (.inl ⟨rfl,vs,h1⟩)
 |ins _ _ _=>simp[qC] at h
 |xc _ _ _=>simp[qC] at h
 |ty _=>simp[qC] at h
 |cls _=>simp[qC] at h
def Dp:List PV->Option PV
 | [p,.ty n]=>(qC p n).map .bl
 |_=>none
def Dq:dh K (AD K.K) Dp:=by
 intro c F H Y O ps pv vs Q rel r e k;unfold Dp at e;split at e
 ·rename_i p n;obtain⟨v,u,rfl,r1,r2⟩:=OW r;cases r2.ty;cases eb:qC p n with
  |none=>rw[eb] at e;cases e
  |some b=>rw[eb] at e;cases e;exact⟨_,b,Gn rel.sub r1 ⟨n,b,eb⟩,Do eb,k _ F H rel Ď Ď Ć.bl⟩
 ·cases e
noncomputable def oU:List PV->Option PV
 | [.lst ps]=>some (.tup ps)
 | [.tup ps]=>some (.tup ps)
 |_=>none
def Dr(K:É):List V->Hp->VK->Prop:=λxs H Q=>∃p ys,xs=[.ref p]/\((ϒ K H p ys/\∀l,H l=none->Q (.ref l) (upd H l (.tup ys)))\/(eQ K H p ys/\Q (.ref p) H))
def Ds:Ŝ X (.type "tuple") (Dr X.K):=qt
def Dt:dh K (Dr K.K) oU:=by
 intro c F H Y O ps pv vs Q rel r e k;unfold oU at e;split at e
 ·cases e;obtain⟨v,rfl,r1⟩:=vY r;obtain⟨a,xs,rfl,h1,h2⟩:=r1.lst rel.sub;refine⟨a,xs,rfl,.inl ⟨h1,λl hl=>k _ _ _ (rel.alloc hl) (Õ.upd (rel.sub.free hl)) (Õ.upd hl) ?_⟩⟩;unfold Ć;exact⟨l,xs,rfl,eQ.of ã,Û.same (Õ.upd (rel.sub.free hl)) _ _ h2⟩
 ·cases e;obtain⟨v,rfl,r1⟩:=vY r;have jc:=r1;obtain⟨a,xs,rfl,h1,h2⟩:=r1.tup rel.sub;refine⟨a,xs,rfl,.inr ⟨h1,k _ F H rel Ď Ď ?_⟩⟩;rcases jc with q|q
  ·exact q
  ·exact q.elim
 ·cases e
noncomputable def Ϩ:List PV->Option (List Bool)
 | []=>some []
 | .bl b::ps=>(Ϩ ps).map (b:: ·)
 |_::_=>none
theorem lH{F:Hp}:∀{ps:List PV} {vs:List V} {bs:List Bool},Û K F ps vs->Ϩ ps=some bs->vs=bs.map V.bl
 | [],vs,bs,r,h=>by cases h;have r':=r.pr;cases r';rfl
 |p::ps,vs,bs,r,h=>by
  cases p with
  |bl b=>
   unfold Ϩ at h;cases eb:Ϩ ps with
   |none=>rw[eb] at h;cases h
   |some cs=>
    rw[eb] at h;cases h;have r':=r.pr;cases r' with
    |cons r1 t=>rw[oO r1,lH (Û.of t) eb];rfl
  |_=>simp[Ϩ] at h
def oV:List PV->Option PV
 | [.lst ps]=>(Ϩ ps).map λbs=>.bl (bs.all id)
 |_=>none
def Go:List PV->Option PV
 | [.lst ps]=>(Ϩ ps).map λbs=>.bl (bs.any id)
 |_=>none
def oW:dh K (LJ K.K) oV:=by
 intro c F H Y O ps pv vs Q rel r e k;unfold oV at e;split at e
 ·rename_i ps;obtain⟨v,rfl,r1⟩:=vY r;obtain⟨a,xs,rfl,h1,h2⟩:=r1.lst rel.sub;cases eb:Ϩ ps with
  |none=>rw[eb] at e;cases e
  |some bs=>rw[eb] at e;cases e;refine⟨bs,by rw[<-lH h2 eb];exact h1,k _ F H rel Ď Ď Ć.bl⟩
 ·cases e
def Mh:dh K (LK K.K) Go:=by
 intro c F H Y O ps pv vs Q rel r e k;unfold Go at e;split at e
 ·rename_i ps;obtain⟨v,rfl,r1⟩:=vY r;obtain⟨a,xs,rfl,h1,h2⟩:=r1.lst rel.sub;cases eb:Ϩ ps with
  |none=>rw[eb] at e;cases e
  |some bs=>rw[eb] at e;cases e;refine⟨bs,by rw[<-lH h2 eb];exact h1,k _ F H rel Ď Ď Ć.bl⟩
 ·cases e
noncomputable def AF(_ j:Int):Bool:=decide (0<j) && decide (j.natAbs<1073741824)
def eh:List PV->Option PV
 | [.int i,.int j]=>if AF i j=true then some (.tup [.int (i / j),.int (i % j)]) else none
 |_=>none
def AG:List V->Hp->VK->Prop:=λxs H Q=>∃i j,xs=[.int i,.int j]/\Po i j/\∀p,H p=none->Q (.ref p) (upd H p (.tup [.int (i / j),.int (i % j)]))
def rJ:Ŝ X (.builtin "divmod") AG:=wg
def rK:dh K AG eh:=by
 intro c F H Y O ps pv vs Q rel r e k;unfold eh at e;split at e
 ·split at e
  ·rename_i i j hd;cases e;obtain⟨v,u,rfl,r1,r2⟩:=OW r;cases r1.int;cases r2.int;unfold AF at hd;simp only[ē,decide_eq_true_eq] at hd;refine⟨i,j,rfl,⟨hd.1,by lia⟩,λl hl=>k _ _ _ (rel.alloc hl) (Õ.upd (rel.sub.free hl)) (Õ.upd hl) ?_⟩;unfold Ć;exact⟨l,_,rfl,eQ.of ã,Û.cons Ć.int (Û.cons Ć.int Û.nil)⟩
  ·cases e
 ·cases e
end
section
variable{α:Type}{O:ć}{i j n k:Nat}{p:PV}{ps:List PV}{m ma mb:M PV}{b:M Fl}{g:Tg}{gs:B8}
@[simp] theorem UP:(RV.sh p).val=p:=rfl
@[simp] theorem UQ:(RV.ow ps).val=.lst ps:=rfl
@[simp] theorem UR:(RV.sh p).slot=.sh p:=rfl
@[simp] theorem US:(RV.ow ps).slot=.ow ps:=rfl
@[simp] theorem UT:gc ma mb O=(ma O).bind fun p O1=>match p with| .bl b=>if b=true then mb O1 else .ok (.bl false) O1|_=>.bad:=by
  unfold gc;congr
  funext p O1
  cases p with
  |bl b=>cases b<;>rfl
  |_=>rfl
@[simp] theorem XH:Ss ma mb O=(ma O).bind fun p O1=>match p with| .bl b=>if b=true then .ok (.bl true) O1 else mb O1|_=>.bad:=by
  unfold Ss;congr
  funext p O1
  cases p with
  |bl b=>cases b<;>rfl
  |_=>rfl
@[simp] theorem Qd:ì i O=(match O[i]? with|some (.sh p)=>.ok p O|some (.ow ps)=>.ok (.lst ps) (O.set i (.sh (.lst ps)))|some (.bn qs rows)=>.ok (.lst (.lst qs::rows)) O|_=>.bad):=rfl
@[simp] theorem XI:È i O=(match O[i]? with|some (.sh p)=>.ok p O|some (.ow ps)=>.ok (.lst ps) O|some (.bw ps)=>.ok (.lst ps) O|some (.rc C ns ps)=>.ok (.ins C ns ps) O|some (.bn qs rows)=>.ok (.lst (.lst qs::rows)) O|_=>.bad):=rfl
@[simp] theorem XJ:oM i O=(match O[i]? with|some (.sh p)=>.ok (.sh p) O|some (.ow ps)=>.ok (.ow ps) (O.set i .no)|_=>.bad):=rfl
@[simp] theorem XM:gN i p O=some (O.set i (.sh p)):=rfl
@[simp] theorem Qe:gu [] O=some O:= rfl
@[simp] theorem OX:Ĳ g gs (p::ps) O=(g p O).bind λO1=>gs ps O1:=rfl
@[simp] theorem XN:gT n gs (.tup ps) O=if ps.length=n then gs ps O else none:=rfl
@[simp] theorem Zac:mP m O=(m O).bind λp O1=>match p with| .int i=>.ok (some i) O1|_=>.bad:=rfl
@[simp] theorem UU{lo hi:Option Int}:Su (.lst ps) lo hi=some (.ow (dL ps lo hi)):=rfl
@[simp] theorem UV{XO:M Fl}{as:List Slot}:ś n k XO as=if as.length=n then FR.of (XO (đ k as)) else .bad:=rfl
@[simp] theorem UW{r:RV}:FR.of (.ok (.rt r) O)=.ret r:=rfl
@[simp] theorem UX:FR.of (.ok .nx O)=.ret (.sh .non):=rfl
@[simp] theorem UY{x:PX}:FR.of (.exc x O)=.exc x:=rfl
@[simp] theorem UZ:FR.of .bad=.bad:=rfl
@[simp] theorem Qf{as:List Slot}:đ k as=as++Ê (k-as.length) .no:=rfl
@[simp] theorem U_:bL (.sh p)=some (.sh p):=rfl
@[simp] theorem U0:bL (.ow ps)=some (.bw ps):=rfl
@[simp] theorem U1{qs rows:List PV}:bL (.bn qs rows)=some (.sh (.lst (.lst qs::rows))):=rfl
@[simp] theorem U2:bL (.bw ps)=some (.bw ps):=rfl
@[simp] theorem U3:yc (.sh p)=.sh p:=rfl
@[simp] theorem U4:yc (.ow ps)=.bw ps:=rfl
@[simp] theorem U5:yc (.bw ps)=.bw ps:=rfl
@[simp] theorem U6{js:List Nat}{nl:Nat}:kP js nl O=js.map (λ(j:Nat)=>yc ((O[j]?).getD .no))++Ê nl .no:=rfl
@[simp] theorem Mi:ac i O=(match O[i]? with
  |some (.bw ps)=>.ok ps O
  |some (.sh (.lst ps))=>.ok ps O
  |some (.sh (.tup ps))=>.ok ps O
  |some (.sh (.str z))=>.ok (z.cps.toList.map λc=>.str ⟨#[c]⟩) O
  |some (.ow ps)=>.ok ps (O.set i (.sh (.lst ps)))
  |_=>.bad):=rfl
@[simp] theorem Sx{x y:Int}:ô (.int x) (.int y)=some (.sh (.int (x+y))):=rfl
@[simp] theorem Sy{x y:Int}:aY (.int x) (.int y)=some (.int (x-y)):=rfl
@[simp] theorem Sz{x y:Int}:Ş (.int x) (.int y)=if Ϭ x y=true then some (.int (x*y)) else none:=rfl
@[simp] theorem SA{x y:Int}:jm (.int x) (.int y)=if oR x y=true then some (.int (x.fdiv y)) else none:=rfl
@[simp] theorem SD{x y:Int}:ğ (.int x) (.int y)=if Ax x y=true then some (.int (x.fmod y)) else none:=rfl
@[simp] theorem cU{x y:Int}:wv (.int x) (.int y)=if wu x y=true then some (.int (x ^ y.toNat)) else none:=rfl
@[simp] theorem SE{x:Int}:Az (.int x)=some (.int (-x)):=rfl
@[simp] theorem U7{x y:Int}:yf (.int x) (.int y)=some (.bl (decide (x<y))):=rfl
@[simp] theorem U8{x y:Int}:gG (.int x) (.int y)=some (.bl (decide (x<=y))):=rfl
@[simp] theorem U9{x y:Int}:Dh (.int x) (.int y)=some (.bl (decide (y<x))):=rfl
@[simp] theorem Va{x y:Int}:ń (.int x) (.int y)=some (.bl (decide (x=y))):=by
  have h:bT (.int x) (.int y)=decide (x=y):=by rw[bT.eq_def];rfl
  rw[<-h];rfl
@[simp] theorem Vb{x y:Int}:jC (.int x) (.int y)=some (.bl (!decide (x=y))):=by
  have h:bT (.int x) (.int y)=decide (x=y):=by rw[bT.eq_def];rfl
  rw[<-h];rfl
@[simp] theorem Vc{x y:Bool}:ń (.bl x) (.bl y)=some (.bl (x== y)):=rfl
@[simp] theorem Vd{x y:Bool}:jC (.bl x) (.bl y)=some (.bl (!(x== y))):=rfl
@[simp] theorem Ve{p:PV}:yg p .non=some (.bl (Ft p)):=rfl
@[simp] theorem Vf{x:Int}:ė (.lst ps) (.int x)=oA ps x:=rfl
@[simp] theorem Vg{x:Int}:ė (.tup ps) (.int x)=oA ps x:=rfl
@[simp] theorem SG:aU [.lst ps]=some (.int ps.length):=rfl
@[simp] theorem SH:aU [.tup ps]=some (.int ps.length):=rfl
@[simp] theorem Vh{x:Int}:Bx [.int x]=some (.int (if x<0 then -x else x)):=rfl
@[simp] theorem Qg:hV [.lst ps]=some (.ow ps):=rfl
@[simp] theorem Qh:hV [.tup ps]=some (.ow ps):=rfl
@[simp] theorem SI:oU [.lst ps]=some (.tup ps):=rfl
@[simp] theorem SJ:oU [.tup ps]=some (.tup ps):=rfl
@[simp] theorem Vi{t:String}:Dp [p,.ty t]=(qC p t).map .bl:=rfl
@[simp] theorem SK{x:Bool}:OV (.bl x)=some x:=rfl
@[simp] theorem SM{x:Int}:OV (.int x)=some (x != 0):=rfl
@[simp] theorem SO:OV (.lst ps)=some (!ps.isEmpty):=rfl
@[simp] theorem Du(xs:List α)(n:Nat):oA xs (n:Int)=xs[n]?:= by
  unfold oA HB;rw[if_pos (by lia)];by_cases h:n<xs.length
  ·rw[if_pos (by lia)];simp
  ·rw[if_neg (by lia)];simp;lia
@[simp] theorem SQ(xs:List α)(n:Nat):oA xs (no_index (Ŗ n):Int)=xs[(no_index (Ŗ n):Nat)]?:= Du xs n
@[simp] theorem OY{x y:Int}:Ax x y=decide (y≠0):=rfl
end
def eo{x y:Int}(h1: -(2 ^ 64)<x)(h2:x<2 ^ 64):Ϭ x y=true:=by unfold Ϭ;rw[decide_eq_true (by lia:x.natAbs<18446744073709551616)];rfl
def R0{x y:Int}(h1: -(2 ^ 64)<y)(h2:y<2 ^ 64):Ϭ x y=true:=by unfold Ϭ;rw[decide_eq_true (by lia:y.natAbs<18446744073709551616)];simp
def Qi{x y:Int}(h1:y≠0)(h2:Fm y<=8000):oR x y=true:=by unfold oR;simp[h1,h2]
section
variable{g:Tg}{mt:M Bool}{me:M PV}{O:ć}
theorem Ÿ{α:Type}(c f:α->PV)(I:ć->Prop):∀(xs:List α) (O:ć) (acc:List PV),I O->acc.length+xs.length<=16777216->
 (∀x∈xs,∀O,I O->∃O1 O2 O3,g (c x) O=some O1/\mt O1=.ok true O2/\me O2=.ok (f x) O3/\I O3)->Ũ g mt me (xs.map c) O acc=some (acc++xs.map f)
 | [],O,acc,_,_,_=>by simp[Ũ]
 |x::xs,O,acc,h,hz,hs=>by obtain⟨O1,O2,O3,h1,h2,h3,h4⟩:=hs x ű O h;rw[Ý,Ũ,h1];dsimp only;rw[h2];dsimp only;rw[h3];dsimp only;rw[if_pos (by simp at hz;lia),Ÿ c f I xs O3 (acc ++ [f x]) h4 (by simp at hz ⊢;lia) λy hy=>hs y (í _ hy)];simp
end
def aV(Q:String->Prop):List String->Prop
 | []=>True
 |c::cs=>Q c/\aV Q cs
theorem aV.get{Q:String->Prop}:∀{cs:List String} {C:String},aV Q cs->cs.contains C=true->Q C
 | [],_,_,h=>by simp at h
 |c::cs,C,⟨h1,h2⟩,h=>by
  by_cases e:C=c
  ·rw[e];exact h1
  ·refine h2.get ?_;rw[kc] at h;have:(C== c)=false:=by simpa using e
   rw[this,Bool.false_or] at h;exact h
section
variable{X:Cx}{cm:String->À}{K:KK}{E:Ą->XK}{a b e o:Æ}{pos jQ:Pos}{m mb:M PV}{f:Str}
theorem jD{F:Hp}:∀{fs:List (Str×V)} {ps:List PV} {p:PV},Û K F ps (fs.map (·.2))->((fs.map (·.1)).zip ps).lookup f=some p->∃v,fs.lookup f=some v/\Ć K F p v
 | [],ps,p,_,h=>by simp at h
 |(g,v)::fs,ps,p,r,h=>by
  have r':=r.pr;rw[Ý] at r';cases r' with
  |cons r1 t=>
   rename_i q qs;rw[Ý,List.zip_cons_cons,ņ] at h;rw[ņ];cases hg:f== g with
   |true=>simp only[hg] at h;cases h;exact⟨v,rfl,r1⟩
   |false=>simp only[hg] at h;exact jD (Û.of t) h
theorem rR.ins{c:Ctx}{F H:Hp}{Y:Ą}{O:ć}{C:String}{ns:List Str}{ps:List PV}{v:V}(s:Õ F H)(h:rR K c Y O F H (.ins C ns ps) v):∃a dx fs,v=.ref a/\H a=some (.ins (K.cm C) dx fs)/\fs.map (·.1)=ns/\Û K F ps (fs.map (·.2)):=by
 rcases h with h|h
 ·unfold Ć at h;obtain⟨a,dx,fs,h1,h2,h3,h4⟩:=h;exact⟨a,dx,fs,h1,s _ _ h2,h3,h4⟩
 ·exact h
noncomputable def dm(cs:List String)(f:Str):PV->Option PV
 | .ins C ns ps=>if cs.contains C=true then(ns.zip ps).lookup f else none
 |_=>none
def rM(cs:List String)(R1:aV (λC=>lw X.K (cm C)/\ċ X.K (cm C) f) cs)(he:PE X e (tR (kk X cm) E m))(hb:bB e f X.env (eval e X.env)=eval e X.env:=by rfl):PE X (.Attribute e f pos) (tV (kk X cm) E (B7 (dm cs f) m)):=
 PE.wk (Lj he hb) fun Y H Q ⟨c,F,O,rel,h⟩=>⟨c,F,O,rel,h.bind fun p O1 v F1 H1 Ù _ _ r1 h1=>by
   cases p with
   |ins C ns ps=>
    unfold dm at h1;dsimp only at h1;split at h1
    ·rename_i hc;obtain⟨a,dx,fs,rfl,q2,q3,q4⟩:=r1.ins Ù.sub;cases el:(ns.zip ps).lookup f with
     |none=>rw[el] at h1;exact h1.elim
     |some q=>rw[el] at h1;subst q3;obtain⟨v,e1,e2⟩:=jD q4 el;obtain⟨k1,k2⟩:=R1.get hc;exact⟨a,_,dx,fs,v,rfl,q2,k1,k2,e1,h1 v F1 H1 Ù Ď Ď e2⟩
    ·exact h1.elim
   |_=>exact h1.elim⟩
def Dv(X:Cx)(cm:String->À)(CX:ji)(k n:Nat)(m:Str)(C:String)(mf:MF):Prop:=lw X.K (cm C)/\∃f fd ps,qR X.K (cm C) m f/\Ě X.prog X.w X.K X.mg X.base CX k f fd ps (bM (kk X cm) n mf)/\Binds X.K fd ps []/\
 ∀{ps:List Slot},(∃r,mf ps=r/\∀z,r=z->z≠ .bad)->ps.length=n
def Dw(Q:String->MF->Prop):List (String×MF)->Prop
 | []=>True
 |(c,mf)::cs=>Q c mf/\Dw Q cs
theorem Dw.get{Q:String->MF->Prop}:∀{cs:List (String×MF)} {C:String} {mf:MF},Dw Q cs->cs.lookup C=some mf->Q C mf
 | [],_,_,_,h=>by simp at h
 |(c,g)::cs,C,mf,⟨h1,h2⟩,h=>by
  rw[ņ] at h;cases hc:C== c with
  |true=>
   rw[hc] at h;cases h;have:C=c:=by simpa using hc
   rw[this];exact h1
  |false=>rw[hc] at h;exact h2.get h
@[simp] def wz(m:Str)(jd:List (String×MF))(mo:M PV)(ms:M (List Slot))(O:ć):ĳ RV:= (mo O).bind fun p O1=>match p with
  | .ins C ns ps=>match jd.lookup C with
    |some mf=>if ns.contains m=true then .bad else(ms O1).bind λas O2=>match mf (.sh (.ins C ns ps)::as) with
     | .ret r=>.ok r O2
     | .exc x=>.exc x O2
     | .bad=>.bad
    |none=>.bad
  |_=>.bad
theorem lI{m:Str}:∀{fs:List (Str×V)},(fs.map (·.1)).contains m=false->fs.lookup m=none
 | [],_=>rfl
 |(g,v)::fs,h=>by rw[Ý,kc,Bool.or_eq_false_iff] at h;rw[ņ,h.1];exact lI h.2
variable{CX:ji}{k n:Nat}{Fu:Str}{jd:List (String×MF)}{ms:M (List Slot)}
def Dx{c:Ctx}{F H:Hp}{Y:Ą}{O:ć}{Q:VK}(rel:ę (kk X cm) c F H Y O)(h:ϔ (kk X cm) E (rO (kk X cm)) c F H Y Q (wz Fu jd m ms O))(Mj:Dw (λC mf=>Dv X cm CX k n Fu C mf) jd) :
 ϔ (kk X cm) E (rV (kk X cm)) c F H Y (λx H1=>∃a C dx fs g fd ps mf,x=.ref a/\H1 a=some (.ins C dx fs)/\lw X.K C/\qR X.K C Fu g/\fs.lookup Fu=none/\Ě X.prog X.w X.K X.mg X.base CX k g fd ps (bM (kk X cm) n mf)/\Binds X.K fd ps []/\
  tA (kk X cm) E ms Y H1 λvs H2=>bM (kk X cm) n mf (.ref a::vs) H2 Q (E Y)) (m O):=
 ϔ.bind h λp O1 v F1 H1 Ù _ _ r1 h1=>by
  cases p with
  |ins C ns ps=>
   dsimp only at h1;cases el:jd.lookup C with
   |none=>rw[el] at h1;exact h1.elim
   |some mf=>
    rw[el] at h1;dsimp only at h1;split at h1
    ·exact h1.elim
    ·rename_i hn;obtain⟨k1,f,fd,qs,k2,k3,k4,k5⟩:=Mj.get el;have jc:Ć (kk X cm) F1 (.ins C ns ps) v:=r1;have r2:=jc;unfold Ć at r2;obtain⟨a,dx,fs,rfl,q2,q3,q4⟩:=r2;refine⟨a,_,dx,fs,f,fd,qs,mf,rfl,Ù.sub _ _ q2,k1,k2,lI (by rw[q3];simpa using hn),k3,k4,c,F1,O1,Ù,ϔ.bind h1 λas O2 vs F2 H2 Ę sF sH r3 h3=>?_⟩;exact oP (vs:=.ref a::vs) k5 Ę (.cons (show aW _ _ _ (.sh _) _ from Ć.same sF _ _ jc) r3) h3
  |_=>exact h1.elim
def Gp{pl:Sem Bool}(Mj:Dw (λC mf=>Dv X cm CX k n Fu C mf) jd)(hr:ϊ k X.A)(hx:ϥ CX X E)(he:PE X o (tV (kk X cm) E m))
 (ht:eval (.Call (.Attribute o Fu jQ) [] [] pos) X.env=(do
   let ov <-eval o X.env
   iA jQ.atName
   let (f,first) <-holding [ov] (getMethod ov Fu pl)
   callWith pos f first (ĝ pos (Ö [] X.env)) (fH pos (fJ [] X.env))):=by rfl) :
 PE X (.Call (.Attribute o Fu jQ) [] [] pos) (tO (kk X cm) E (wz Fu jd m ó)):=by
 intro Ã s Y H Q I ⟨c,F,O,rel,h⟩;refine PySem.W.methodCall_KW (pl:=pl) (ŝ (he Ã s Y H _ I ⟨c,F,O,rel,Dx rel h Mj⟩) λu s1 ⟨x,H1,I1,rx,a,C,dx,fs,g,fd,ps,mf,ex,ea,cl,k2,l,k3,k4,q⟩=>?_) ht;subst ex;obtain rfl:u=ă a:=rx;refine xQ I1 ea cl k2 l ?_;obtain⟨c1,F1,O1,Ù,q⟩:=q;exact zS (first:=[.ref a]) I1.da k2.kp (nS (us:=[.ref a]) (vs:=[.ref a]) k3 hr k4 hx I1 (.cons rfl .nil) (q [] F1 H1 Ù Ď Ď .nil))
noncomputable def putN(f:Str):List Str->List Str
 | []=>[f]
 |g::r=>if g=f then g::r else g::putN f r
noncomputable def jE(f:Str)(p:PV):List Str->List PV->List PV
 | [],_=>[p]
 |g::r,q::qs=>if g=f then p::qs else q::jE f p r qs
 |_::_,[]=>[]
theorem uO{F:Hp}{p:PV}{y:V}(ry:Ć K F p y):∀{fs:List (Str×V)} {ps:List PV},Û K F ps (fs.map (·.2))->(af f y fs).map (·.1)=putN f (fs.map (·.1))/\Û K F (jE f p (fs.map (·.1)) ps) ((af f y fs).map (·.2))
 | [],ps,r=>⟨rfl,Û.cons ry Û.nil⟩
 |(g,v)::fs,ps,r=>by
  have r':=r.pr;rw[Ý] at r';cases r' with
  |cons r1 t=>
   rename_i q qs;unfold af;rw[Ý];unfold putN jE;by_cases hg:g=f
   ·rw[if_pos hg,if_pos hg,if_pos hg];exact⟨rfl,Û.cons ry (Û.of t)⟩
   ·rw[if_neg hg,if_neg hg,if_neg hg];obtain⟨h1,h2⟩:=uO ry (Û.of t);exact⟨by rw[Ý,h1],Û.cons r1 h2⟩
@[simp] def hX(i:Nat)(cs:List String)(f:Str)(mv:M PV)(O:ć):ĳ Fl:= (mv O).bind fun p O1=>match O1[i]? with
  |some (.rc C ns ps)=>if cs.contains C=true/\ns.length<1000 then .ok .nx (O1.set i (.rc C (putN f ns) (jE f p ns ps))) else .bad
  |_=>.bad
def aB{i:Nat}{x:Str}{px bW:Pos}(cs:List String)(R1:aV (λC=>lw X.K (cm C)/\ċ X.K (cm C) f) cs)(ho:PE X (.Name x px) (gF i))(he:PE X e (tV (kk X cm) E m))(hs:ŗ e (some (.Attribute (.Name x px) f bW)) pos.line X.env=ç false:=by rfl) :
 PS X (.Assign [.Attribute (.Name x px) f bW] e pos) (tS (kk X cm) E (hX i cs f m)):=PS.wk (Lk ho he hs) λD Y H ⟨c,F,O,rel,h⟩=>⟨c,F,O,rel,Œ.bind h λp O1 y F1 H1 Ù s1 ry h1=>by
 cases e1:O1[i]? with
 |none=>rw[e1] at h1;exact h1.elim
 |some sl=>
  rw[e1] at h1;cases sl with
  |rc C ns ps=>
   dsimp only at h1;split at h1
   ·rename_i hc;obtain⟨a,dx,fs,q1,q2,q3,q4,q5,q6,q7⟩:=Ù.slot i _ e1;subst q5;obtain⟨k1,k2⟩:=R1.get hc.1;refine⟨.ref a,ŏ q1,a,_,dx,fs,rfl,q2,k1,k2,by simpa using hc.2,?_⟩;obtain⟨z1,z2⟩:=uO (f:=f) (p:=p) ry q6;exact h1 Y F1 _ (Ù.write ⟨_,_,e1,ŏ q1,rfl⟩ (ŏ q1) ⟨a,dx,_,rfl,ã,q3,q4,z1,z2,q7⟩ λ_ z=>(V.ref.inj z).symm) Ď
   ·exact h1.elim
  |_=>exact h1.elim⟩
inductive IR where
 |ok (ns:List Str) (ps:List PV)|exc (x:PX)|bad
abbrev MI:=List Slot->IR
noncomputable def IR.of:ĳ Fl->IR
 | .ok .nx (.rc _ ns ps::_)=>.ok ns ps
 | .exc x _=>.exc x
 |_=>.bad
def cb(n k:Nat)(C:String)(mb:M Fl):MI:=λas=>if as.length+1=n then IR.of (mb (.rc C [] []::đ (k-1) as)) else .bad
structure SR(a:À)(F H F' H':Hp):Prop where
 h:∀b u,b≠a->H b=some u->H' b=some u
 f:Õ F F'
 sub:Õ F' H'
 out:∀b,b≠a->H b≠none->F b=none->F' b=none
def Vj(K:KK)(E:XK)(F H:Hp)(Q:VK)(a dx:À)(C:String):IR->Prop
 | .ok ns ps=>∀F' H' fs,SR a F H F' H'->H' a=some (.ins (K.cm C) dx fs)->F' a=none->fs.map (·.1)=ns->Û K F' ps (fs.map (·.2))->Q .non H'
 | .exc x=>∀C' d F' H',SR a F H F' H'->wr K F' x C' d->E C' d H'
 | .bad=>False
def DA(K:KK)(n:Nat)(C:String)(mi:MI):Sp:=λvs H Q E=>∃F a dx jh as,vs=.ref a::jh/\as.length+1=n/\H a=some (.ins (K.cm C) dx [])/\F a=none/\Õ F H/\Paired (aW K F H) as jh/\Vj K E F H Q a dx C (mi as)
def Gq(a dx:À)(C:String)(F H:Hp):Ctx:=⟨λb=>if b=a then none else H b,F,λb=>if b=a then none else(bo F H).L b,λa' dx' C'=>a'=a/\dx'=dx/\C'=C⟩
def ę.XQ{Y:Ą}{O:ć}{a dx:À}{C:String}{F H F' H':Hp}(r:ę K (Gq a dx C F H) F' H' Y O):SR a F H F' H':=
 ⟨λb u hb e=>r.base b u (by show(if b=a then none else H b)=_;rw[if_neg hb];exact e),r.f0,r.sub,λb hb h1 h2=>r.bS b (by show(if b=a then none else H b)≠none;rw[if_neg hb];exact h1) h2⟩
def ę.Ml{F H:Hp}{N:List Str}{as:List Slot}{vs:List V}{a dx:À}{C:String}(s:Õ F H)(ha:H a=some (.ins (K.cm C) dx []))(hF:F a=none)(h:Paired (aW K F H) as vs) :
 ę K (Gq a dx C F H) F H (L2.start N (.ref a::vs)) (.rc C [] []::đ (N.length-1) as):=by
 have r0:=ę.start (N:=N) (K:=K) s (as:=.sh (.int 0)::as) (vs:=.int 0::vs) (.cons (Ć.int (K:=K) (F:=F) (i:=0)) h);have est:L2.start N (.ref a::vs)=some (.ref a)::(L2.start N (.int 0::vs)).tail:=by unfold L2.start;simp
 have Vk:(L2.start N (V.int 0::vs)).tail.length=(đ (N.length-1) as).length:=by unfold L2.start đ;simp[Paired.length h];lia
 have tl:∀i:Nat,(L2.start N (.int 0::vs)).tail[i]?=(L2.start N (.int 0::vs))[i+1]?:= λi=>by simp
 have sp:∀i:Nat,(đ (N.length-1) as)[i]?=(đ N.length (.sh (.int 0)::as))[i+1]?:= λi=>by unfold đ;simp only[ſ,fA,þ];rw[show N.length-1-as.length=N.length-(as.length+1) by lia]
 have rN:∀(i:Nat) (s':Slot),(đ (N.length-1) as)[i]?=some s'->s'.own=false:=λi s' e=>by
  unfold đ at e;by_cases hi:i<as.length
  ·rw[aG hi] at e;obtain⟨v,_,h3⟩:=de h e;exact(aW.slot h3).2
  ·rw[fk (by lia),fq] at e;split at e
   ·cases e;rfl
   ·cases e
 rw[est];refine⟨s,λb u e=>?_,Õ.refl _,λ_ _ z=>z,λb u e=>?_,λb e=>?_,?_,λi s' e=>?_,λi j b h1 h2=>?_⟩
 ·have e':(if b=a then none else H b)=some u:=e;split at e'
  ·cases e'
  ·exact e'
 ·have e':(if b=a then none else(bo F H).L b)=some u:=e;split at e'
  ·cases e'
  ·exact ϓ e'
 ·show(if b=a then none else(bo F H).L b)=none;have e':(if b=a then none else H b)=none:=e;split
  ·rfl
  ·rename_i hb;rw[if_neg hb] at e';exact r0.lb b e'
 ·simp[Vk]
 ·cases i with
  |zero=>cases e;exact⟨a,dx,[],rfl,ha,hF,by show(if a=a then none else H a)=none;rw[if_pos rfl],rfl,Û.nil,rfl,rfl,rfl⟩
  |succ i=>
   have e':(đ (N.length-1) as)[i]?=some s':=by simpa using e
   have q:=r0.slot (i+1) s' (by rw[<-sp];exact e');rw[<-tl] at q;show ϩ K (Gq a dx C F H) F H (((some (V.ref a)::(L2.start N (.int 0::vs)).tail)[i+1]?).getD none) s';rw[fA];cases s' with
   |no=>trivial
   |sh p=>exact q
   |bw ps=>obtain⟨b,ws,q1,q2,q3⟩:=q;refine⟨b,ws,q1,?_,q3⟩;show(if b=a then none else(bo F H).L b)=_;rw[if_neg (λz=>by have:=(ϓ q2).1;rw[z,ha] at this;cases this)];exact q2
   |ow ps=>have:=rN i _ e';cases this
   |rc C ns ps=>have:=rN i _ e';cases this
   |ot ps qs rs=>have:=rN i _ e';cases this
   |ol ql=>have:=rN i _ e';cases this
   |fr ql=>have:=rN i _ e';cases this
   |dw eR=>
    obtain⟨b,ts,q1,q2,q3⟩:=q;have lt:∀{x:À} {u:HO},(bo F H).L x=some u->(∀o,u=.ins (K.cm C) dx o->False)->(if x=a then none else(bo F H).L x)=some u:=fun{x u} e1 e2=>by rw[if_neg (λz=>by have:=(ϓ e1).1;rw[z,ha] at this;cases this;exact e2 _ rfl)];exact e1
    exact⟨b,ts,q1,lt q2 (λ_ z=>by cases z),jl q3 λt d _ ⟨xs,y,vs,k1,k2,k3,k4⟩=>⟨xs,y,vs,k1,k2,lt k3 (λ_ z=>by cases z),k4⟩⟩
   |bn qs rows=>
    obtain⟨v,q1,q2⟩:=q;refine⟨v,q1,q2.base λb u z=>?_⟩;have z':(if b=a then none else H b)=some u:=z;split at z'
    ·cases z'
    ·exact z'
 ·have at0:∀{i},Ō F (some (.ref a)::(L2.start N (.int 0::vs)).tail) (Slot.rc C [] []::đ (N.length-1) as) i b→i=0:=fun{i} ⟨s',y,q1,_,q2⟩=>by
   have q2:=gb q2;cases i with
   |zero=>rfl
   |succ i=>have:=rN i s' (by simpa using q1);rw[this] at q2;cases q2
  rw[at0 h1,at0 h2]
end
section
variable{P:Þ}{w:Ø}{K:É}{cm:String->À}{mg:Str->Option Á}{base:Ð}{CX:ji}
def Mm{x ý:Str}{st:Ò}{f:À}{fd:Ė}{N ps:List Str}{k n j:Nat}{C:String}{mb:M Fl}{mi:MI}(F:B6 K x ý st f fd)(S:æ N ps (Ó st))(hn:ps.length=n)(hj:N.length=j)(hf:mi=cb n j C mb)
 (dF:∀(ĺ:Á) (A:à) (outer:List Env) (s:Â) (H:Hp) (E:XK),ϊ k (A.deeper (ú ý (Ó st) s.heap.objs.size f ĺ))→
   ay (ŭ CX P w K mg base N ý (Ó st) f ĺ A outer s H E) (Ŧ st) (tS ⟨K,cm⟩ (λ_=>E) mb)):Ě P w K mg base CX (k+1) f fd ps (DA ⟨K,cm⟩ n C mi):=by
 subst hn hj hf;obtain⟨oc,od,kV,mW,pm,an,ĺ,ct,qS,rfl,lk,gE⟩:=F.ex;refine Ac lk gE S (λvs H Q E ⟨F,a,dx,jh,as,h1,h2,_,_,_,h3,_⟩=>by rw[h1,þ,<-Paired.length h3];exact h2) λA outer s H vs Q E hr Ba=>?_;obtain⟨F,a,dx,jh,as,rfl,h2,h3,h4,h5,h6,h7⟩:=Ba;refine⟨_,dF ĺ A outer s H E hr,Gq a dx C F H,F,_,ę.Ml h5 h3 h4 h6,?_⟩;unfold cb at h7;rw[if_pos h2] at h7;cases e:mb (.rc C [] []::đ (N.length-1) as) with
 |bad=>rw[e] at h7;exact h7
 |exc x O'=>rw[e] at h7;exact λY' C' d F' H' rel s1 q=>h7 C' d F' H' rel.XQ q
 |ok fl O'=>
  rw[e] at h7;cases fl with
  |nx=>
   cases O' with
   |nil=>exact h7.elim
   |cons sl O'=>
    cases sl with
    |rc C' ns qs=>intro Y' F' H' rel s1;obtain⟨b,dy,fs,q1,q2,q3,q4,q5,q6,rfl,rfl,rfl⟩:=rel.slot 0 _ rfl;exact h7 F' H' fs rel.XQ q2 q3 q5 q6
    |_=>exact h7.elim
  |bk=>exact h7.elim
  |ct=>exact h7.elim
  |rt r=>exact h7.elim
end
@[simp] def ce(C:String)(mi:MI)(ms:M (List Slot))(O:ć):ĳ PV:= (ms O).bind fun as O1=>match mi as with
  | .ok ns ps=>.ok (.ins C ns ps) O1
  | .exc x=>.exc x O1
  | .bad=>.bad
section
variable{X:Cx}{cm:String->À}{E:Ą->XK}{e:Æ}{es:List Æ}{pos p:Pos}{CX:ji}{k n:Nat}{f:À}{fd:Ė}{ps:List Str}{C:String}{mi:MI}{ms:M (List Slot)}{x:Str}
def DB{c:Ctx}{F1 H1:Hp}{Y:Ą}{O1:ć}{Q:VK}{as:List Slot}{vs:List V}(hlen:(∃r,mi as=r/\∀z,r=z->z≠ .bad)->as.length+1=n)(Ù:ę (kk X cm) c F1 H1 Y O1)(r1:Paired (aW (kk X cm) F1 H1) as vs)
 (h:ϔ (kk X cm) E (rV (kk X cm)) c F1 H1 Y Q (match mi as with| .ok ns ps=>.ok (.ins C ns ps) O1| .exc x=>.exc x O1| .bad=>.bad)) :
 ∀x dx,H1 x=none->H1 dx=none->dx≠x->DA (kk X cm) n C mi (.ref x::vs) (upd (upd H1 dx (.own x)) x (.ins (cm C) dx [])) (λv H2=>v=.non/\Q (.ref x) H2) (E Y):=by
 intro x dx hx hdx qU;have up:∀b u,H1 b=some u->upd (upd H1 dx (.own x)) x (.ins (cm C) dx []) b=some u:=λb u e=>by rw[Ú (é e hx),Ú (é e hdx)];exact e
 have Gs:∀{F' H':Hp},SR x F1 (upd (upd H1 dx (.own x)) x (.ins (cm C) dx [])) F' H'->Gr F1 H1 F' H':=fun{F' H'} g=>
  ⟨fun b u e=>g.h b u (é e hx) (up b u e),g.f,g.sub,fun b hb hf=>by
    obtain⟨u,hu⟩:∃u,H1 b=some u:=by
     cases q:H1 b with
     |none=>exact absurd q hb
     |some u=>exact⟨u,rfl⟩
    exact g.out b (é hu hx) (by rw[up b u hu];intro z;cases z) hf⟩
 refine⟨F1,x,dx,vs,as,rfl,?_,ã,Ù.sub.free hx,λb u e=>up b u (Ù.sub b u e),?_,?_⟩
 ·refine hlen ⟨_,rfl,λz hz hb=>?_⟩;rw[hz,hb] at h;exact h
 ·refine Paired.mono (λs v hs=>?_) r1;cases s with
  |sh p=>exact hs
  |bw qs=>obtain⟨b,ws,q1,q2,q3,q4⟩:=hs;exact⟨b,ws,q1,up b _ q2,q3,q4⟩
  |dw eR=>obtain⟨b,ts,q1,q2,q3,q4⟩:=hs;exact⟨b,ts,q1,up b _ q2,q3,jl q4 λt d _ ⟨xs,y,ws,k1,k2,k3,k4⟩=>⟨xs,y,ws,k1,k2,⟨up y _ k3.1,k3.2⟩,k4⟩⟩
  |_=>exact hs.elim
 ·cases em:mi as with
  |bad=>rw[em] at h;exact h
  |exc y=>rw[em] at h;exact λC' d F' H' g rx=>h C' d F' H' (Ù.call (Gs g)) g.f rx
  |ok ns qs=>rw[em] at h;intro F' H' fs g OI W0 hn hr;have r2:=Ù.call (Gs g);have r3:=r2.freeze OI (Ù.base.free hx) W0 (Ù.gU (Gs g).f (Ù.fresh hx));refine⟨rfl,h _ _ H' r3 (g.f.trans (Õ.upd W0)) (Gs g).h ?_⟩;show Ć _ _ _ _;unfold Ć;exact⟨x,dx,fs,rfl,ã,hn,Û.same (Õ.upd W0) qs _ hr⟩
def By{Ã:List (À×Obj)}{Y:Ą}{H:Hp}{s:Â}{Q:VK}{us:List Á}{vs:List V}{sp:Sp}{C:À}(M:Mk X.K C f)(F:Ě X.prog X.w X.K X.mg X.base CX k f fd ps sp)(hr:ϊ (k+1) X.A)(hb:Binds X.K fd ps [])
 (hx:ϥ CX X E)(I:Inv X Ã Y H s)(r:ĭ vs us)
 (h:∀x dx,H x=none->H dx=none->dx≠x->sp (.ref x::vs) (upd (upd H dx (.own x)) x (.ins C dx [])) (λv H2=>v=.non/\Q (.ref x) H2) (E Y)) :
 Î (Ì X.prog X.w) X.A (call (.ref C) us) (EP X Ã Y Q) X.xe s:=by
 have hq:=h (s.heap.objs.size+1) s.heap.objs.size (I.hok.fresh (sP _)) (I.hok.fresh (î _)) (ħ (sN _));have I2:=Inv.made (C:=C) I;have r2:ĭ (V.ref (s.heap.objs.size+1)::vs) (ă (s.heap.objs.size+1)::us):=.cons rfl r;have hl:(ă (s.heap.objs.size+1)::us ++ []).length=ps.length:=by have e:=r2.length;rw[F.len _ _ _ _ hq] at e;rw[cu];exact e.symm
 have Fk:=hb {s with heap:=(s.heap.push bH).push (cP C s.heap.objs.size)} (ă (s.heap.objs.size+1)::us) I2.da hl;rw[cu] at Fk;refine cK (Cw (f:=f) I.da M.makes M.init (beq_iff_eq.mp M.fn) (dS (F.run _ X.stack _ _ ⟨ă (s.heap.objs.size+1)::us,[]⟩ _ _ _ (E Y) (hr.make C us []) (I2.env0.make C us []) Fk r2 hq) λr s' wb=>?_));cases r with
 |error e=>exact hx Ã Y _ _ e s' I2 wb
 |ok fl=>
  cases fl with
  |ret u=>obtain⟨v,H',I3,rv,ev,q3⟩:=I2.after wb;subst ev;exact⟨rv,⟨V.ref (s.heap.objs.size+1),H',I3,rfl,q3⟩⟩
  |next=>exact Ļ wb
  |brk=>exact Ļ wb
  |cont=>exact Ļ wb
def bf{n k:Nat}{C:String}{mb:M Fl}{as:List Slot}(h:∃r,cb n k C mb as=r/\∀z,r=z->z≠ .bad):as.length+1=n:=by
 obtain⟨r,h1,h2⟩:=h;unfold cb at h1;by_cases hl:as.length+1=n
 ·exact hl
 ·rw[if_neg hl] at h1;exact absurd h1.symm (λz=>h2 .bad (by rw[<-h1]) rfl)
def jF(M:Mk X.K (cm C) f)(F:Ě X.prog X.w X.K X.mg X.base CX k f fd ps (DA (kk X cm) n C mi))(hlen:∀{as:List Slot},(∃r,mi as=r/\∀z,r=z->z≠ .bad)->as.length+1=n)(hr:ϊ (k+1) X.A)(hg:Gl X x)(hm:X.mg x=some (.ref (cm C)))(hb:Binds X.K fd ps [])(hx:ϥ CX X E)
 (ha:PA X (e::es) (tA (kk X cm) E ms))(lq:(x== ("__debug__" :Str))=false:=by decide)(he:Ö (e::es) X.env=(false,eval e X.env)::Ö es X.env:=by exact ώ rfl)(hpl:(ĝ pos (Ö es X.env)).any (·.1)=false:=by rfl) :
 PE X (.Call (.Name x p) (e::es) [] pos) (tV (kk X cm) E (ce C mi ms)):=by
 intro Ã s Y H Q I ⟨c,F',O,rel,h⟩;refine cI (bI I hg hm ?_ lq);refine kD (h₀:= X.base) I.ok.mod.Hw M.kp (ŝ (ha pos Ã s Y H (λvs H1=>∀x dx,H1 x=none->H1 dx=none->dx≠x->DA (kk X cm) n C mi (.ref x::vs) (upd (upd H1 dx (.own x)) x (.ins (cm C) dx [])) (λv H2=>v=.non/\Q (.ref x) H2) (E Y)) I
  ⟨c,F',O,rel,ϔ.bind h λas O1 vs F1 H1 Ù _ _ r1 h1=>DB hlen Ù r1 h1⟩) λus s1 ⟨vs,H1,I1,r,q⟩=>⟨I1.da,?_⟩) he hpl
 exact By M F hr hb hx I1 r q
end
def DC(B:Ð)(e:À)(C:Á)(d:Option À)(fl:Á)(h:Ð):Prop:=
 ∃oe vs T oT ts,h.get? e=some oe/\(oe.cls=C/\oe.dict=d)/\oe.data=.fields vs/\vs[1]?=some (.ref T)/\B.get? T=none/\T≠e/\h.get? T=some oT/\oT.data=.fields ts/\ts[3]?=some fl/\(d=none->vs[2]?=some .none)
structure Moved(h h':Ð):Prop where
 up:h.UpToSlots h'
 there:∀b o,h.get? b=some o->∃o',h'.get? b=some o'
theorem Moved.trans{h h1 h2:Ð}(a:Moved h h1)(b:Moved h1 h2):Moved h h2:=⟨a.up.trans b.up,λc o e=>let ⟨o1,e1⟩:=a.there c o e;b.there c o1 e1⟩
def Bz(o:Obj)(f:Array Á->Array Á):(o.mapFields f).dict=o.dict:=by obtain⟨c,d,dt,sl⟩:=o;cases dt<;>rfl
section
variable{M:cC}{A:à}{E:Á->Â->Prop}{s:Â}{B:Ð}{env:Env}{outer:List Env}{L e:À}{Q:Unit->Â->Prop}
def Qj{oe:Obj}{vs:Array Á}{R3:Á}{OF:Bool}(zc:A.frames=some (env::outer))(hl:s.heap.FunFrames B (env::outer))(hf:env.frame=some L)
 (he:s.heap.get? e=some oe)(Hn:B.StaysIn s.heap)(R4:B.get? e=none)(hd:oe.data=.fields vs)(y_:1<vs.size)(h2:oe.dict=none->vs[2]?=some .none)
 (k:∀h',B.StaysIn h'->h'.FunFrames B (env::outer)->DC B e oe.cls oe.dict (ň L) h'->Moved s.heap h'->Q () {s with heap:=h'}) :
 Î M A (do
  let a <-frameOf env
  let pl <-entryPlaceOf L OF
  let b <-zE R3 a .none (ň L) .none pl
  setField (.ref e) 1 b) Q E s:=by
 have out:e∉(env::outer).filterMap (·.frame):=λz=>by obtain⟨_,o,ho,hn⟩:=hl.mem z;rw[he] at ho;cases ho;exact hn vs hd
 refine Ë (wpAny_frameOf_fun zc hl hf λg1 so=>?_);refine Ë (wpAny_entryPlaceOf λpl hpl=>?_);unfold zE newFields;refine Ë (sY ?_ (hpl.sizeOk5 _ _ _ _ _));have e1:g1.get? e=some oe:=(so.2.1 e out).trans he;have b1:B.StaysIn g1:=λb o q=>(so.2.1 b λz=>by rw[(hl.mem z).1] at q;cases q).trans (Hn b o q);generalize hnw:([R3,ă L,.none,ň L,.none]++(if pl.isEmpty then Ê 6 Value.none else pl))=nw;have n3:nw.toArray[3]?=some (ň L):=by rw[<-hnw];simp
 dsimp only;have e2:=ö (h:=g1) {cls:=.type "traceback",dict:=none,data:=.fields nw.toArray} e1;refine iF e2 hd y_ ?_;have ne:g1.objs.size≠e:=bt (ñ e1);have d3:=Ϸ hd (·.setIfInBounds 1 (ă g1.objs.size));have e3:=bE (Ϡ (·.setIfInBounds 1 (ă g1.objs.size))) e2 (cO d3);have kp:∀b o,b≠e->g1.get? b=some o->((g1.push {cls:=.type "traceback",dict:=none,data:=.fields nw.toArray}).update e (Ϡ (·.setIfInBounds 1 (ă g1.objs.size)))).get? b=some o:=λb o hb q=>by rw[cM _ _ (Đ hb)];exact ö _ q
 have t3:((g1.push {cls:=.type "traceback",dict:=none,data:=.fields nw.toArray}).update e (Ϡ (·.setIfInBounds 1 (ă g1.objs.size)))).get? g1.objs.size=some {cls:=.type "traceback",dict:=none,data:=.fields nw.toArray}:=by rw[cM _ _ (Đ ne)];exact Ŀ g1 rfl
 have nr:∀b o,s.heap.get? b=some o->(∀ws,o.data≠ .fields ws)->b≠e:=λb o q hn z=>by rw[z,he] at q;cases q;exact hn vs hd
 refine k _ (λb o q=>kp b o (λz=>by rw[z,R4] at q;cases q) (b1 b o q)) (hl.of_keeps λb o q hn=>?_) ?_ ⟨λb o q hn=>?_,λb o q=>?_⟩
 ·obtain⟨sl,z⟩:=so.2.2 b o q;exact⟨_,kp b _ (nr b o q hn) z,rfl⟩
 ·exact⟨_,_,g1.objs.size,_,_,e3,⟨Obj.cls_mapFields _ _,Bz _ _⟩,d3,by simp[y_],b1.fresh,ne,t3,rfl,n3,λz=>by rw[mX (by decide)];exact h2 z⟩
 ·obtain⟨sl,z⟩:=so.2.2 b o q;exact⟨sl,kp b _ (nr b o q hn) z⟩
 ·obtain⟨sl,z⟩:=so.2.2 b o q;by_cases hb:b=e
  ·rw[hb];exact⟨_,e3⟩
  ·exact⟨_,kp b _ hb z⟩
def AH{oe:Obj}{vs:Array Á}(zc:A.frames=some (env::outer))(hl:s.heap.FunFrames B (env::outer))(hf:env.frame=some L)(he:s.heap.get? e=some oe)(Hn:B.StaysIn s.heap)(R4:B.get? e=none)
 (hd:oe.data=.fields vs)(h1:vs[1]?=some .none)(h2:oe.dict=none->vs[2]?=some .none)(k:∀h',B.StaysIn h'->h'.FunFrames B (env::outer)->DC B e oe.cls oe.dict (ň L) h'->Moved s.heap h'->Q () {s with heap:=h'}) :
 Î M A (aI (.ref e) env) Q E s:=by
 unfold aI;simp only[hf];refine Ë (Ř he hd h1 ?_);rw[if_neg (by decide)];exact Qj zc hl hf he Hn R4 hd (jX.mp h1).1 h2 k
def DE{C:Á}{d:Option À}(zc:A.frames=some (env::outer))(hl:s.heap.FunFrames B (env::outer))(hf:env.frame=some L)(ht:DC B e C d .none s.heap)(Hn:B.StaysIn s.heap)(R4:B.get? e=none)
 (k:∀h',B.StaysIn h'->h'.FunFrames B (env::outer)->DC B e C d (ň L) h'->Moved s.heap h'->Q () {s with heap:=h'}):Î M A (aI (.ref e) env) Q E s:=by
 obtain⟨oe,vs,T,oT,ts,he,⟨rfl,rfl⟩,hd,h1,hT,KJ,xI,wc,h3,h4⟩:=ht;unfold aI;simp only[hf];refine Ë (Ř he hd h1 ?_);rw[if_pos (show(ă T != Value.none)=true by simp)];refine Ë (Ř xI wc h3 ?_);rw[if_neg (show ¬((Value.none== ň L)=true) by simp[ň])];refine Ë (iF xI wc (jX.mp h3).1 ?_);have xB:∀b,b≠T->(s.heap.update T (Ϡ (·.setIfInBounds 3 Value.none))).get? b=s.heap.get? b:=λb hb=>cM _ _ (Đ hb);have nr:∀b o,s.heap.get? b=some o->(∀ws,o.data≠ .fields ws)->b≠T:=λb o q hn z=>by rw[z,xI] at q;cases q;exact hn ts wc
 refine Qj zc (hl.of_keeps λb o q hn=>⟨o,(xB b (nr b o q hn)).trans q,rfl⟩) hf ((xB e (Đ KJ)).trans he) (λb o q=>(xB b λz=>by rw[z,hT] at q;cases q).trans (Hn b o q)) R4 hd (jX.mp h1).1 h4
  λh' x1 x2 x3 x4=>k h' x1 x2 x3 (Moved.trans ⟨λb o q hn=>⟨o.slots,(xB b (nr b o q hn)).trans q⟩,λb o q=>?_⟩ x4)
 by_cases hb:b=T
 ·rw[hb];exact⟨_,bE _ xI (cO (Ϸ wc _))⟩
 ·exact⟨o,(xB b hb).trans q⟩
def iV{C fl:Á}{d:Option À}{l:List Env}(Hn:B.StaysIn s.heap)(hl:s.heap.FunFrames B l)(ht:DC B e C d fl s.heap)
 (k:∀h',B.StaysIn h'->h'.FunFrames B l->DC B e C d .none h'->Moved s.heap h'->Q () {s with heap:=h'}):Î M A (kt (.ref e) none) Q E s:=by
 obtain⟨oe,vs,T,oT,ts,he,hc,hd,h1,hT,KJ,xI,wc,h3,h4⟩:=ht;have z3:3<ts.size:=(jX.mp h3).1;have xB:∀b,b≠T->(s.heap.update T (Ϡ (·.setIfInBounds 3 ((none:Option À).elim Value.none λf=>ň f)))).get? b=s.heap.get? b:=λb hb=>cM _ _ (Đ hb);have nr:∀b o,s.heap.get? b=some o->(∀ws,o.data≠ .fields ws)->b≠T:=λb o q hn z=>by rw[z,xI] at q;cases q;exact hn ts wc
 unfold kt;refine Ë (Ř he hd h1 ?_);rw[if_pos (show(ă T != Value.none)=true by simp)];refine iF xI wc z3 (k _ (λb o q=>(xB b λz=>by rw[z,hT] at q;cases q).trans (Hn b o q)) (hl.of_keeps λb o q hn=>⟨o,(xB b (nr b o q hn)).trans q,rfl⟩) ?_ ⟨λb o q hn=>⟨o.slots,(xB b (nr b o q hn)).trans q⟩,λb o q=>?_⟩)
 rotate_left
 ·by_cases hb:b=T
  ·rw[hb];exact⟨_,bE _ xI (cO (Ϸ wc _))⟩
  ·exact⟨o,(xB b hb).trans q⟩
 exact⟨oe,vs,T,_,_,(xB e (Đ KJ)).trans he,hc,hd,h1,hT,KJ,bE _ xI (cO (Ϸ wc _)),Ϸ wc _,by simp[z3],h4⟩
def Gu{C fl:Á}{d:Option À}{l:List Env}(Hn:B.StaysIn s.heap)(hl:s.heap.FunFrames B l)(ht:DC B e C d fl s.heap)
 (k:∀h',B.StaysIn h'->h'.FunFrames B l->DC B e C d (ň L) h'->Moved s.heap h'->Q () {s with heap:=h'}):Î M A (kt (.ref e) (some L)) Q E s:=by
 obtain⟨oe,vs,T,oT,ts,he,hc,hd,h1,hT,KJ,xI,wc,h3,h4⟩:=ht;have z3:3<ts.size:=(jX.mp h3).1;have xB:∀b,b≠T->(s.heap.update T (Ϡ (·.setIfInBounds 3 ((some L:Option À).elim Value.none λf=>ň f)))).get? b=s.heap.get? b:=λb hb=>cM _ _ (Đ hb);have nr:∀b o,s.heap.get? b=some o->(∀ws,o.data≠ .fields ws)->b≠T:=λb o q hn z=>by rw[z,xI] at q;cases q;exact hn ts wc
 unfold kt;refine Ë (Ř he hd h1 ?_);rw[if_pos (show(ă T != Value.none)=true by simp)];refine iF xI wc z3 (k _ (λb o q=>(xB b λz=>by rw[z,hT] at q;cases q).trans (Hn b o q)) (hl.of_keeps λb o q hn=>⟨o,(xB b (nr b o q hn)).trans q,rfl⟩) ?_ ⟨λb o q hn=>⟨o.slots,(xB b (nr b o q hn)).trans q⟩,λb o q=>?_⟩)
 rotate_left
 ·by_cases hb:b=T
  ·rw[hb];exact⟨_,bE _ xI (cO (Ϸ wc _))⟩
  ·exact⟨o,(xB b hb).trans q⟩
 exact⟨oe,vs,T,_,_,(xB e (Đ KJ)).trans he,hc,hd,h1,hT,KJ,bE _ xI (cO (Ϸ wc _)),Ϸ wc _,by simp[z3],h4⟩
def DF{C:Á}{d:Option À}(hf:env.frame=some L)(ht:DC B e C d (ň L) s.heap)(h:Q () s):Î M A (aI (.ref e) env) Q E s:=by obtain⟨oe,vs,T,oT,ts,he,hc,hd,h1,hT,KJ,xI,wc,h3,h4⟩:=ht;unfold aI;simp only[hf];refine Ë (Ř he hd h1 ?_);rw[if_pos (show(ă T != Value.none)=true by simp)];refine Ë (Ř xI wc h3 ?_);rw[if_pos (show(ň L== ň L)=true by simp)];exact â h
end
def wA{P:Þ}{w:Ø}{H:Hp}{h:Ð}{a:À}{o:HO}(x:Ť P w H h a o):∃ob,h.get? a=some ob:=by
 cases o with
 |lst xs=>obtain⟨_,_,_,_,e⟩:=x;exact⟨_,e⟩
 |tup xs=>obtain⟨_,_,_,ob,e,_⟩:=x;exact⟨_,e⟩
 |dK ff=>obtain⟨_,_,_,_,ob,_,_,e,_⟩:=x;exact⟨_,e⟩
 |dT ff=>obtain⟨_,_,_,_,ob,_,_,e,_⟩:=x;exact⟨_,e⟩
 |set S n=>obtain⟨ob,_,_,_,e,_⟩:=x;exact⟨_,e⟩
 |ins C dx fs=>obtain⟨_,_,_,e,_⟩:=x;exact⟨_,e⟩
 |own y=>exact x
 |xd fs=>obtain⟨_,⟨ob,_,_,e,_⟩,_⟩:=x;exact⟨_,e⟩
 |rng lo hi=>obtain⟨_,_,_,e⟩:=x;exact⟨_,e⟩
 |bS ob u=>obtain⟨e,_⟩:=x;exact⟨_,e⟩
 |jd q=>obtain⟨_,e,_⟩:=x;exact⟨_,e⟩
 |Hv q=>obtain⟨c,o,_,_,z,e,_⟩:=x;cases z;exact⟨_,e⟩
 |met f y=>exact⟨_,(show h.get? a=some _ from x)⟩
 |ext φ=>obtain⟨_,e,_⟩:=x;exact e
def cZ.sub{P:Þ}{w:Ø}{H:Hp}{h B:Ð}(x:cZ P w H h)(k:∀b o u,H b=some u->h.get? b=some o->B.get? b=some o):cZ P w H B:=λa o e=>
 (x a o e).stay (fun b u hb q=>by
   rcases hb with rfl|hb
   ·exact k _ _ _ e q
   ·exact k _ _ _ hb q) (λ_ q=>q) λ_ _ q=>q
structure Vl(fs:List À)(H H':Hp)(h B h':Ð):Prop where
 keep:∀b o,h.get? b=some o->H b=none->b∉fs->B.get? b=some o
 slot:∀b o,h.get? b=some o->H b=none->b∈fs->∃sl,h'.get? b=some {o with slots:=sl}
 free:∀b o,h.get? b=some o->H b=none->H' b=none
 there:∀b o,h.get? b=some o->∃o',h'.get? b=some o'
 tups:∀b xs,H b=some (.tup xs)->H' b=some (.tup xs)
 eI:∀b o u,H b=some (.bS o u)->H' b=some (.bS o u)
 c_:∀b q,H b=some (.jd q)->H' b=some (.jd q)
def Vl.un{fs:List À}{H H':Hp}{h B h':Ð}(u:Vl fs H H' h B h')(k:B.StaysIn h'):Un fs [] H H' h h':=
 ⟨λb o e n hb _=>k b o (u.keep b o e n hb),λb o e n hb _=>u.slot b o e n hb,λb o e n _=>u.free b o e n,λb o e _=>u.there b o e,u.tups,u.eI,u.c_⟩
structure vW(P:Þ)(w:Ø)(outer:List Env)(H:Hp)(s:Â)(ea:À)(C:Á)(d:Option À)(fl:Á)(H':Hp)(B:Ð)(s':Â):Prop where
 os:s'.os=s.os
 bare:bu s'.gens
 st:B.StaysIn s'.heap
 en:B.get? ea=none
 fr:s'.heap.FunFrames B outer
 tr:DC B ea C d fl s'.heap
 hok:cZ P w H' B
 un:Vl (gI outer) H H' s.heap B s'.heap
 no:H' ea=none
 new:s.heap.get? ea=none
def vW.move{P:Þ}{w:Ø}{outer:List Env}{H:Hp}{s s':Â}{ea:À}{C fl XR:Á}{d:Option À}{H':Hp}{B h':Ð}(l:vW P w outer H s ea C d fl H' B s')(st:B.StaysIn h')(fr:h'.FunFrames B outer)(tr:DC B ea C d XR h')(mv:Moved s'.heap h') :
 vW P w outer H s ea C d XR H' B {s' with heap:=h'}:=
 ⟨l.os,l.bare,st,l.en,fr,tr,l.hok,⟨l.un.keep,fun b o q n hb=>by
   obtain⟨sl,q2⟩:=l.un.slot b o q n hb;obtain⟨_,o',q3,hn⟩:=l.fr.mem hb;rw[q2] at q3;cases q3;obtain⟨Mn,q3⟩:=mv.up b _ q2 hn;exact⟨Mn,q3⟩,l.un.free,λb o q=>by
   obtain⟨o2,q2⟩:=l.un.there b o q;exact mv.there b o2 q2,l.un.tups,l.un.eI,l.un.c_⟩,l.no,l.new⟩
def ϭ(P:Þ)(w:Ø):ji:=λouter H s E e s'=>∃ea C d H' B,e=.ref ea/\vW P w outer H s ea C d .none H' B s'/\E C d H'
def rP{P:Þ}{w:Ø}{outer:List Env}{H:Hp}{s s':Â}{e:Á}(h:ϭ P w outer H s (λ_ _ _=>False) e s'):False:=by obtain⟨_,_,_,_,_,_,_,h⟩:=h;exact h
def jG{P:Þ}{w:Ø}{X:Cx}:ϥ (ϭ P w) X EF:=λ_ _ _ _ _ _ _ h=>(rP h).elim
section
variable{P:Þ}{w:Ø}{K:É}{mg:Str->Option Á}{base:Ð}{N:List Str}{ý:Str}{scope:õ}{f:À}{ĺ:Á}{A:à}{outer:List Env}{s₀:Â}{H₀:Hp}{E:XK}
def Ā:ϥ (ϭ P w) (ŭ (ϭ P w) P w K mg base N ý scope f ĺ A outer s₀ H₀ E) (λ_=>E):=by
 intro Ã Y H s e s' I h;obtain⟨ea,C,d,H',B,rfl,l,hE⟩:=h;have zc:(A.deeper (ú ý scope s₀.heap.objs.size f ĺ)).frames=some (ú ý scope s₀.heap.objs.size f ĺ::outer):=I.ok.frames;show Î _ _ (fF _ _) _ _ s';unfold fF;refine Ë (DE zc l.fr rfl l.tr l.st l.en λh1 x1 x2 x3 x4=>?_);refine iV (s:={s' with heap:=h1}) x1 x2 x3 λh2 y1 y2 y3 y4=>?_;obtain⟨_,_,Qk⟩:=y2;have mv:=x4.trans y4;have B5:∀b o,s₀.heap.get? b=some o->b∉gI outer->b∉gI (ú ý scope s₀.heap.objs.size f ĺ::outer):=λb o q hb z=>by
  rcases Č.mp (show b∈s₀.heap.objs.size::gI outer from z) with z|z
  ·exact absurd (ñ q) (by rw[z];exact ϱ _)
  ·exact hb z
 have XS:∀b,b∈gI outer->b∈gI (ú ý scope s₀.heap.objs.size f ĺ::outer):=λb z=>í _ z;refine⟨ea,C,d,H',B,rfl,⟨l.os.trans I.os,l.bare,y1,l.en,Qk,y3,l.hok,⟨λb o q n hb=>?_,λb o q n hb=>?_,λb o q n=>?_,λb o q=>?_,λb xs q=>l.un.tups b xs (I.base.tups b xs q),λb o u q=>l.un.eI b o u (I.base.eI b o u q),λb ps q=>?_⟩,l.no,?_⟩,hE⟩
 ·exact l.un.keep b o (I.base.keep b o q n hb (by simp[ŭ])) (I.base.free b o q n (by simp[ŭ])) (B5 b o q hb)
 ·obtain⟨sl,q1⟩:=I.base.slot b o q n hb (by simp[ŭ]);obtain⟨FA,q2⟩:=l.un.slot b _ q1 (I.base.free b o q n (by simp[ŭ])) (XS b hb);have nf:∀vs,o.data≠ .fields vs:=by
   obtain⟨_,o',q3,hn⟩:=l.fr.mem (XS b hb);rw[q2] at q3;cases q3;exact hn
  obtain⟨Mn,q3⟩:=mv.up b _ q2 nf;exact⟨Mn,q3⟩
 ·obtain⟨o1,q1⟩:=I.base.there b o q (by simp[ŭ]);exact l.un.free b o1 q1 (I.base.free b o q n (by simp[ŭ]))
 ·obtain⟨o1,q1⟩:=I.base.there b o q (by simp[ŭ]);obtain⟨o2,q2⟩:=l.un.there b o1 q1;exact mv.there b o2 q2
 ·exact l.un.c_ b ps (I.base.c_ b ps q)
 ·cases q:s₀.heap.get? ea with
  |none=>rfl
  |some o=>obtain⟨o1,q1⟩:=I.base.there ea o q (by simp[ŭ]);rw[l.new] at q1;cases q1
def Mo{Ã:List (À×Obj)}{Y:Ą}{H:Hp}{s:Â}{e:À}{oe:Obj}{vs:Array Á}(I:Inv (ŭ (ϭ P w) P w K mg base N ý scope f ĺ A outer s₀ H₀ E) Ã Y H s)
 (he:s.heap.get? e=some oe)(hd:oe.data=.fields vs)(h1:vs[1]?=some .none)(h2:oe.dict=none->vs[2]?=some .none)(hn:H e=none)(jS:s₀.heap.get? e=none)(hE:E oe.cls oe.dict H) :
 (ŭ (ϭ P w) P w K mg base N ý scope f ĺ A outer s₀ H₀ E).xe (.ref e) s:=by
 have zc:(A.deeper (ú ý scope s₀.heap.objs.size f ĺ)).frames=some (ú ý scope s₀.heap.objs.size f ĺ::outer):=I.ok.frames;have st:s.heap.FunFrames base (ú ý scope s₀.heap.objs.size f ĺ::outer):=I.stack;have nof:e∉gI (ú ý scope s₀.heap.objs.size f ĺ::outer):=λz=>by obtain⟨_,o,q,hn⟩:=st.mem z;rw[he] at q;cases q;exact hn vs hd
 have W1:∀env∈(ú ý scope s₀.heap.objs.size f ĺ::outer),∀a,env.frame=some a->a∈e::gI (ú ý scope s₀.heap.objs.size f ĺ::outer):=λenv h1 a h2=>í _ (mZ.mpr ⟨env,h1,h2⟩);have hl:s.heap.FunFrames (cQ s.heap (e::gI (ú ý scope s₀.heap.objs.size f ĺ::outer))) (ú ý scope s₀.heap.objs.size f ĺ::outer):=zT st W1;have hB:∀b o,s.heap.get? b=some o->b≠e->b∉gI (ú ý scope s₀.heap.objs.size f ĺ::outer)->(cQ s.heap (e::gI (ú ý scope s₀.heap.objs.size f ĺ::outer))).get? b=some o:=λb o q h1 h2=>
  tN _ q λz=>(Č.mp z).elim h1 h2
 have B5:∀b o,s₀.heap.get? b=some o->b∉gI outer->b∉gI (ú ý scope s₀.heap.objs.size f ĺ::outer):=λb o q hb z=>by
  rcases Č.mp (show b∈s₀.heap.objs.size::gI outer from z) with z|z
  ·exact absurd (ñ q) (by rw[z];exact ϱ _)
  ·exact hb z
 have W2:∀b o,s₀.heap.get? b=some o->b≠e:=λb o q z=>by rw[z,jS] at q;cases q
 have kb:(cQ s.heap (e::gI (ú ý scope s₀.heap.objs.size f ĺ::outer))).StaysIn s.heap:=λb o q=>tQ _ q;have en:(cQ s.heap (e::gI (ú ý scope s₀.heap.objs.size f ĺ::outer))).get? e=none:=tU _ ű;show Î _ _ (fF _ _) _ _ s;unfold fF;refine Ë (AH zc hl rfl he kb en hd h1 h2 λg1 x1 x2 x3 x4=>?_);refine iV (s:={s with heap:=g1}) x1 x2 x3 λg2 y1 y2 y3 y4=>?_;obtain⟨_,_,Qk⟩:=y2;have mv:=x4.trans y4;refine⟨e,oe.cls,oe.dict,H,_,rfl,⟨I.os,I.bare,y1,en,Qk,y3,?_,⟨λb o q n hb=>?_,λb o q n hb=>?_,λb o q n=>?_,λb o q=>?_,I.base.tups,I.base.eI,I.base.c_⟩,hn,jS⟩,hE⟩
 ·refine cZ.sub I.hok λb o u hu q=>hB b o q (λz=>by rw[z,hn] at hu;cases hu) λz=>?_;have:=I.nN b z;rw[hu] at this;cases this
 ·exact hB b o (I.base.keep b o q n hb (by simp[ŭ])) (W2 b o q) (B5 b o q hb)
 ·obtain⟨sl,q1⟩:=I.base.slot b o q n hb (by simp[ŭ]);have nf:∀vs,o.data≠ .fields vs:=by
   obtain⟨_,o',q3,hn⟩:=st.mem (í _ hb);rw[q1] at q3;cases q3;exact hn
  obtain⟨Mn,q3⟩:=mv.up b _ q1 nf;exact⟨Mn,q3⟩
 ·exact I.base.free b o q n (by simp[ŭ])
 ·obtain⟨o1,q1⟩:=I.base.there b o q (by simp[ŭ]);exact mv.there b o1 q1
end
noncomputable abbrev AI:List Á:=[.type "ValueError",.type "Exception",.type "BaseException",.type "object"]
abbrev Mp:String:= "ValueError.__new__"
section
variable{K:É}{h:Ð}{C:À}{OJ:List Á}{qj:String}
def Mq(X:K.In h)(q:fS K C OJ qj=true) :
 ∃bm N nm qn bs hd sn sub ab col dd k0 k1 k2 k3 k5 mN,h.get? C=some (excClassObj nm qn C N bs bm hd sn sub ab col dd k0 k1 k2 k3 k5 qj)/\h.Ns N mN/\mN "__init__" =none/\OwnTail h OJ bm:=by
 unfold fS at q;split at q
 case h_2=>cases q
 rename_i dd cd sl ho;split at q
 case h_2=>cases q
 rename_i C1 bm k0 k1 k2 k3 n1 k5 e1 e2;simp only[ē,beq_iff_eq,Bool.not_eq_true'] at q;obtain⟨⟨⟨⟨⟨z1,z2⟩,z3⟩,z4⟩,z5⟩,z6⟩:=q;subst z1 z2;obtain⟨nm,bs,mro,ns,qn,hd,sn,sub,ab,col,del⟩:=cd;dsimp only at e1 z3 z5 z6;subst e1 z3;obtain⟨sll⟩:=sl;dsimp only at e2;subst e2;exact⟨bm,ns,nm,qn,bs,hd,sn,sub,ab,col,dd,k0,k1,k2,k3,k5,_,X _ _ ho,.of_isNs (PySem.W.isNs_of_in X z5),PySem.W.nsMap_none_of_in X z5 z6,zU X z4⟩
end
def uP(X:Cx)(E:Ą->XK):Prop:=∀(Ã:List (À×Obj)) (Y:Ą) (H:Hp) (s:Â) (e:À) (oe:Obj) (vs:Array Á),Inv X Ã Y H s->s.heap.get? e=some oe->oe.data=.fields vs->vs[1]?=some .none->(oe.dict=none->vs[2]?=some .none)->H e=none->
 X.s₀.heap.get? e=none->E Y oe.cls oe.dict H->X.xe (.ref e) s
def Ϻ{P:Þ}{w:Ø}{K:É}{mg:Str->Option Á}{base:Ð}{N:List Str}{ý:Str}{scope:õ}{f:À}{ĺ:Á}{A:à}{outer:List Env}{s₀:Â}{H₀:Hp}{E:XK} :
 uP (ŭ (ϭ P w) P w K mg base N ý scope f ĺ A outer s₀ H₀ E) (λ_=>E):=λ_ _ _ _ _ _ _ I he hd h1 h2 hn jS hE=>Mo I he hd h1 h2 hn jS hE
@[simp] def DG(C:String)(O:ć):ĳ Fl:= .exc ⟨C,[],[]⟩ O
section
variable{X:Cx}{cm:String->À}{E:Ą->XK}{x:Str}{C:String}{np ai pos:Pos}
def nU{P:Þ}{w:Ø}{H:Hp}{h:Ð}{e:À}(k:cZ P w H h)(q:h.get? e=none):H e=none:=by
 cases z:H e with
 |none=>rfl
 |some u=>obtain⟨o,ho⟩:=wA (k e u z);rw[q] at ho;cases ho
def Inv.Mr{Ã:List (À×Obj)}{Y:Ą}{H:Hp}{s:Â}{e:À}(I:Inv X Ã Y H s)(hex:X.ex=[])(q:s.heap.get? e=none):X.s₀.heap.get? e=none:=by
 cases z:X.s₀.heap.get? e with
 |none=>rfl
 |some o=>obtain⟨o1,q1⟩:=I.base.there e o z (by rw[hex];simp);rw[q] at q1;cases q1
def DH(hc:X.calm=true)(hex:X.ex=[])(hr:uP X E)(hg:Gl X x)(hm:X.mg x=some (.ref (cm C)))(q:fS X.K (cm C) AI Mp=true)(lq:(x== ("__debug__" :Str))=false:=by decide) :
 PS X (.Raise (some (.Call (.Name x np) [] [] ai)) none pos) (tS (kk X cm) E (DG C)):=by
 intro Ã s Y H D I ⟨c,F,O,rel,h⟩;obtain⟨bm,N,nm,qn,bs,hd,sn,sub,ab,col,dd,k0,k1,k2,k3,k5,mN,hC,hN,hni,T⟩:=Mq I.da q;refine wpAny_Raise_call_subT (C:=cm C) (nm:=nm) (q:=qn) (N:=N) (bs:=bs) (bm:=bm) (hdct:=hd) (sn:=sn) (sub:=sub) (ab:=ab) (col:=col) (dd:=dd) (k0:=k0) (k1:=k1) (k2:=k2) (k3:=k3) (k5:=k5)
  zF (mN:=mN) (T.hasType (by decide)) (I.ok.hd hc) rfl hni (bI I hg hm ⟨rfl,?_⟩ lq)
 refine evalArgs_empty ⟨rfl,ϳ _,hC,hN,T,λh' e hx=>?_⟩;obtain⟨t,he,_,_⟩:=hx.there;have I2:Inv X Ã Y H {s with heap:=h'}:=I.kept (t':=s.toks) hx.keeps;exact hr Ã Y H _ e _ _ I2 he rfl rfl (λ_=>rfl) (nU I.hok hx.new) (Inv.Mr I hex hx.new) (h Y _ _ F H rel Ď ⟨rfl,[],.inl ⟨rfl,rfl⟩,rfl,Û.nil,λ_=>rfl⟩)
end
section
variable{M:cC}{A:à}{E:Á->Â->Prop}{s:Â}{K:É}{e C D:À}{oe:Obj}{b:Bool}{Q:Bool->Â->Prop}
def iW(X:K.In s.heap)(hk:aM K (.ref C) (.ref D)=some b)(hx:av K D (.type "BaseException")=some true)(he:s.heap.get? e=some oe)(hc:oe.cls=.ref C)(hq:Q b s):Î M A (excMatches (.ref e) (.ref D)) Q E s:=by
 obtain⟨l1,l2,l3⟩:=PySem.W.kit_cls (M:=M) X hk;have l4:=fT (M:=M) X hx;have f:=tc_notTuple;unfold excMatches iG;refine Ë (Ë (l1.here ?_));rw[f];refine â ?_;simp only[jY,if_false];refine Ë (â ?_);simp only[nc,List.forIn_nil];unfold isExcClass;refine Ë (Ë (Ë (Ë (l2.here ?_))));rw[if_pos rfl];refine l4.here ?_;rw[if_neg (by decide)];refine â (â ?_);refine Ë (wpAny_typeOf_ref he ?_);rw[hc];refine Ë (Ë (Ë (l3.here ?_)));cases b with
 |true=>exact â (â (â hq))
 |false=>exact â (â (â hq))
end
noncomputable def wB(X:Cx)(xe:Á->Â->Prop)(Ã:List (À×Obj)):Cx:={X with xe:=xe,pn:=X.pn++Ã}
noncomputable def markX(X:Cx)(e:Á):Cx:={X with A:=X.A.mark (some e),calm:=false,xe:=λ_ _=>False}
section
variable{X:Cx}{Ã:List (À×Obj)}{Y:Ą}{H:Hp}{s:Â}{xe:Á->Â->Prop}
def Inv.Ql(I:Inv X Ã Y H s):Inv (wB X xe Ã) [] Y H s:=
 ⟨⟨I.ok.mod,I.ok.kind,I.ok.glob,I.ok.blt,I.ok.above,I.ok.inj,I.ok.has,I.ok.cab,I.ok.hd,I.ok.frames,I.ok.stk,I.ok.OP,I.ok.bs,I.ok.zY,I.ok.ut,I.ok.we,I.ok.gK,I.ok.B4,I.ok.tb⟩,
   I.os,I.bare,I.base,I.loc,I.cell,I.free,I.bX,λp hp=>I.pin p (by simpa[wB] using hp),I.hok,I.len⟩
def Inv.oX{og:List (À×Obj)}(I:Inv (wB X xe Ã) og Y H s):Inv X Ã Y H s:=
 ⟨⟨I.ok.mod,I.ok.kind,I.ok.glob,I.ok.blt,I.ok.above,I.ok.inj,I.ok.has,I.ok.cab,I.ok.hd,I.ok.frames,I.ok.stk,I.ok.OP,I.ok.bs,I.ok.zY,I.ok.ut,I.ok.we,I.ok.gK,I.ok.B4,I.ok.tb⟩,
   I.os,I.bare,I.base,I.loc,I.cell,I.free,I.bX,λp hp=>I.pin p (bp _ hp),I.hok,I.len⟩
theorem SP.oX{og:List (À×Obj)}{D:Ends}{f:Flow}(h:SP (wB X xe Ã) og D f s):SP X Ã D f s:=by
 cases f with
 |next=>obtain⟨Y',H',I,q⟩:=h;exact⟨Y',H',Inv.oX I,q⟩
 |brk=>obtain⟨Y',H',I,q⟩:=h;exact⟨Y',H',Inv.oX I,q⟩
 |cont=>obtain⟨Y',H',I,q⟩:=h;exact⟨Y',H',Inv.oX I,q⟩
 |ret u=>obtain⟨v,Y',H',I,r,q⟩:=h;exact⟨v,Y',H',Inv.oX I,r,q⟩
def Inv.mark(I:Inv X Ã Y H s)(e:Á):Inv (markX X e) Ã Y H s:=
 ⟨⟨I.ok.mod,I.ok.kind,I.ok.glob,I.ok.blt,I.ok.above,I.ok.inj,I.ok.has,I.ok.cab,(fun z=>nomatch z),I.ok.frames,I.ok.stk,I.ok.OP,I.ok.bs,I.ok.zY,I.ok.ut,I.ok.we,I.ok.gK,I.ok.B4,I.ok.tb⟩,
   I.os,I.bare,I.base,I.loc,I.cell,I.free,I.bX,I.pin,I.hok,I.len⟩
def Inv.unmark{e:Á}(I:Inv (markX X e) Ã Y H s)(hd:X.calm=true->X.A.handled=none):Inv X Ã Y H s:=
 ⟨⟨I.ok.mod,I.ok.kind,I.ok.glob,I.ok.blt,I.ok.above,I.ok.inj,I.ok.has,I.ok.cab,hd,I.ok.frames,I.ok.stk,I.ok.OP,I.ok.bs,I.ok.zY,I.ok.ut,I.ok.we,I.ok.gK,I.ok.B4,I.ok.tb⟩,
   I.os,I.bare,I.base,I.loc,I.cell,I.free,I.bX,I.pin,I.hok,I.len⟩
def Inv.gone{i:Nat}{n:Str}{m:Str->Option Á}{v:Option Á}{h':Ð}{tk:Nat}(I:Inv X Ã Y H s)(hN:X.N.Nodup)(hi:X.N[i]?=some n)(hx:X.env.scope.names.lookup n=some .local)
 (hn:s.heap.Ns X.env.locals m)(hm:∀(j:Nat) (x:Str) (v:V),X.N[j]?=some x->Y[j]?=some (some v)->Bi X.env.scope x->∃u,RelV v u/\Look X.env s.heap m x u)
 (KE:h'.Ns X.env.locals (λx=>if x=n then v else m x))(hs:ao X.env.locals s.heap h'):Inv X Ã (Y.set i none) H {s with heap:=h',toks:=tk}:=by
 have B5:∀b o,X.s₀.heap.get? b=some o->b≠X.env.locals:=λb o q=>ħ (ŕ (ñ q) I.ok.above);refine⟨I.ok,I.os,I.bare,⟨λb o q z hb hx=>(hs.2 b (B5 b o q)).trans (I.base.keep b o q z hb hx),λb o q z hb hx=>?_,I.base.free,λb o q hx=>?_,I.base.tups,I.base.eI,I.base.c_⟩,⟨_,KE,λj x v e1 e2 e3=>?_⟩,λx c e=>?_,I.free,I.bX,λp hp=>?_,λb o e=>?_,by simpa using I.len⟩
 ·obtain⟨sl,q1⟩:=I.base.slot b o q z hb hx;exact⟨sl,(hs.2 b (B5 b o q)).trans q1⟩
 ·obtain⟨o1,q1⟩:=I.base.there b o q hx;exact⟨o1,(hs.2 b (B5 b o q)).trans q1⟩
 ·have hj:j≠i:=fun z=>by
   subst z;rcases ř e2 with⟨_,q,_⟩|⟨q,_⟩
   ·cases q
   ·exact q rfl
  rw[fi (Đ hj)] at e2;obtain⟨u,r,q⟩:=hm j x v e1 e2 e3;refine⟨u,r,?_⟩;have hxn:x≠n:=λz=>hj (oi hN e1 (z▸hi));rcases q with⟨k,e⟩|⟨k,c,e,z⟩
  ·exact .inl ⟨k,by simp[hxn,e]⟩
  ·exact .inr ⟨k,c,e,z.sameBut hs (I.FE x c e)⟩
 ·obtain⟨w',z⟩:=I.cell x c e;exact⟨w',z.sameBut hs (I.FE x c e)⟩
 ·obtain⟨e,z,ne,nf,d⟩:=I.pin p hp;exact⟨(hs.2 p.1 ne).trans e,z,ne,nf,d⟩
 ·refine(I.hok b o e).stay (λc u hc q=>(hs.2 c ?_).trans q) (λ_ q=>q) λ_ _ q=>q;rintro rfl;rcases hc with hc|hc
  ·rw[<-hc,I.free] at e;cases e
  ·rw[I.free] at hc;cases hc
end
abbrev MH:=PX->ć->ĳ Fl
def oY:MH:=λ_ _=>.bad
noncomputable def nV(i:Nat)(xJ no:List String)(mh:M Fl)(ü:MH):MH:=λx O=>if xJ.contains x.C=true then(match mh (O.set i (.sh (.xc x.C x.ns x.ps))) with
 | .ok f O2=>.ok f (O2.set i .no)
 |_=>.bad) else if no.contains x.C=true then ü x O else .bad
@[simp] def Gv(mb:M Fl)(mh:MH)(O:ć):ĳ Fl:= match mb O with
  | .exc x O1=>mh x O1
  |r=>r
def PH(X:Cx)(cm:String->À)(E:Ą->XK)(hs:List iH)(mh:MH):Prop:=∀(Ã:List (À×Obj)) (Y:Ą) (H Hc:Hp) (s sc:Â) (ea:À) (C:Á) (d:Option À) (B:Ð) (D:Ends) (c:Ctx) (F:Hp) (O:ć) (x:PX),
 Inv X Ã Y Hc sc->vW X.prog X.w X.stack Hc sc ea C d .none H B s->ę (kk X cm) c F H Y O->wr (kk X cm) F x C d->Œ (kk X cm) E c F D (mh x O)->Î (Ì X.prog X.w) X.A (handleBy (.ref ea) X.env hs) (SP X Ã D) X.xe s
section
variable{X:Cx}{cm:String->À}{E:Ą->XK}{Ã:List (À×Obj)}{Y:Ą}{H Hc:Hp}{s sc:Â}{ea:À}{C:Á}{d:Option À}{B:Ð}
def AJ(I:Inv X Ã Y Hc sc){fl:Á}(l:vW X.prog X.w X.stack Hc sc ea C d fl H B s):Inv X Ã Y H s:=I.call' l.os (l.un.un l.st) (l.hok.kept l.st) l.bare λb z=>absurd z (by simp)
def cZ.exc{P:Þ}{w:Ø}{H:Hp}{h:Ð}{ea Ca:À}{d:Option À}{oe:Obj}{vs:Array Á}(k:cZ P w H h)(hn:H ea=none)(he:h.get? ea=some oe)(hc:oe.cls=.ref Ca)(qV:oe.dict=d)(hd:oe.data=.fields vs):cZ P w (upd H ea (xo ea Ca d)) h:=λb u e=>by
 by_cases hb:b=ea
 ·subst hb;rw[ã] at e;cases e;refine⟨⟨oe,vs,he,hc,qV,hd⟩,⟨oe,he⟩,?_⟩;rintro h1 h2 ⟨o,ws,q1,q2⟩ kk;exact⟨o,ws,kk o q1,q2⟩
 ·rw[Ú hb] at e;exact(k b u e).stay (λ_ _ _ q=>q) (λc q=>by rw[Ú (é q hn)];exact q) (λc xs q=>by rw[Ú (é q hn)];exact q) λc xs q=>by rw[Ú (é q hn)];exact q
def Gw(I:Inv X Ã Y Hc sc){fl:Á}{Ca:À}(l:vW X.prog X.w X.stack Hc sc ea (.ref Ca) d fl H B s):Inv X Ã Y (upd H ea (xo ea Ca d)) s:=by
 obtain⟨oe,vs,T,oT,ts,he,⟨hc,qV⟩,hd,_⟩:=l.tr;have hw:cZ X.prog X.w (upd H ea (xo ea Ca d)) s.heap:=cZ.exc (l.hok.kept l.st) l.no he hc qV hd;have u:=l.un.un l.st;refine I.call' l.os ⟨u.keep,u.slot,λb o q n hx=>?_,u.there,λb xs q=>?_,λb o v q=>?_,λb ps q=>?_⟩ hw l.bare λb z=>absurd z (by simp)
 ·have hb:b≠ea:=λz=>by rw[z,l.new] at q;cases q
  rw[Ú hb];exact u.free b o q n hx
 ·have q':=u.tups b xs q;rw[Ú (é q' l.no)];exact q'
 ·have q':=u.eI b o v q;rw[Ú (é q' l.no)];exact q'
 ·have q':=u.c_ b ps q;rw[Ú (é q' l.no)];exact q'
def HQ:PH X cm E [] oY:=λ_ _ _ _ _ _ _ _ _ _ _ _ _ _ _ _ _ _ _ h=>h.elim
variable{y n:Str}{Dn:String}{i:Nat}{yp Fn:Pos}{b₀:Ò}{Fo:List Ò}{ü:List iH}{xJ no:List String}{mh:M Fl}{mr:MH}
def Gx{K:KK}{c:Ctx}{F' H':Hp}{Y':Ą}{O2:ć}{r:RV}{v:V}(h:rO K c Y' O2 F' H' r v):rO K c (Y'.set i none) (O2.set i .no) F' H' r v:=by
 cases r with
 |sh p=>exact h
 |ow ps=>
  obtain⟨a,vs,h1,h2,h3,h4,h5,h6⟩:=h;refine⟨a,vs,h1,h2,h3,h4,λj q=>?_,h6⟩;have hj:j≠i:=λz=>by
   subst z;obtain⟨s',y,q1,_,q2⟩:=q;have q2:=gb q2;rcases ř q1 with⟨_,rfl,_⟩|⟨q,_⟩
   ·cases q2
   ·exact q rfl
  exact h5 j (q.off hj)
 |ot ps qs rs=>
  obtain⟨p,a,xs,vs,ys,h1,h0,hx,h2,h3,h4,h5,h6⟩:=h;refine⟨p,a,xs,vs,ys,h1,h0,hx,h2,h3,h4,λj q=>?_,h6⟩;have hj:j≠i:=λz=>by
   subst z;obtain⟨s',y,q1,_,q2⟩:=q;have q2:=gb q2;rcases ř q1 with⟨_,rfl,_⟩|⟨q,_⟩
   ·cases q2
   ·exact q rfl
  exact h5 j (q.off hj)
 |bn t ps qs rows=>exact h
def Vm(hN:X.N.Nodup)(hi:X.N[i]?=some n)(hx:X.env.scope.names.lookup n=some .local)(hg:Gl X y)(hm:X.mg y=some (.ref (cm Dn)))(hex:av X.K (cm Dn) (.type "BaseException")=some true)
 (OK:aV (λc=>aM X.K (.ref (cm c)) (.ref (cm Dn))=some true) xJ)(W3:aV (λc=>aM X.K (.ref (cm c)) (.ref (cm Dn))=some false) no)
 (hb:∀e:Á,ay (markX X e) (b₀::Fo) (tS (kk X cm) EF mh))(hr:PH X cm E ü mr)(lq:(y== ("__debug__" :Str))=false:=by decide) :
 PH X cm E (.ExceptHandler (some (.Name y yp)) (some n) (b₀::Fo) Fn::ü) (nV i xJ no mh mr):=by
 intro Ã Y H Hc s sc ea C d B D c F O x I l rel rx h;have I1:=AJ I l;obtain⟨oe,vs,T,oT,ts,he,⟨hc,qV⟩,hd,_⟩:=id l.tr;obtain⟨eC,fs,TN,vV,TQ,Ho⟩:=rx;have R5:oe.cls=.ref (cm x.C):=hc.trans eC;refine wpAny_handleBy_cons (codeAny_handlers_test (bI (X:=markX X (.ref ea)) (Inv.mark I1 (.ref ea)) hg hm ?_ lq)) (by intro q;cases q);unfold nV at h;split at h
 ·rename_i hy;refine iW I1.da (OK.get hy) hex he R5 (codeAny_handlers_suite_as ?_);refine iV l.st l.fr l.tr λh1 x1 x2 x3 x4=>?_;have l2:=l.move x1 x2 x3 x4;subst eC;have I2:=Inv.mark (Gw I l2) (.ref ea);have Ę:=rel.alloc (o:=xo ea (cm x.C) d) l.no;have hF:F ea=none:=rel.sub.free l.no;have rp:Ć (kk X cm) (upd F ea (xo ea (cm x.C) d)) (.xc x.C x.ns x.ps) (.ref ea):=by
   unfold Ć;exact⟨ea,d,fs,rfl,ã,TN.same (Õ.upd hF),vV,Û.same (Õ.upd hF) _ _ TQ⟩
  refine oj (X:=markX X (.ref ea)) I2 hN hi (.inl hx) (v:=.ref ea) rfl (λs6 I6=>?_) (.inr hx);have dJ:=Ę.put (i:=i) (x:=some (.ref ea)) (s:=.sh (.xc x.C x.ns x.ps)) rfl ⟨_,rfl,rp⟩;refine Ň (hb (.ref ea) Ã s6 _ _ {nx:=λY' H'=>D.nx (Y'.set i none) H',rt:=D.rt,bk:=λY' H'=>D.bk (Y'.set i none) H',ct:=λY' H'=>D.ct (Y'.set i none) H'} I6 ⟨c,_,_,dJ,?_⟩) (λf s7 q=>?_) λ_ _ z=>z.elim
  ·have sF:Õ F (upd F ea (xo ea (cm x.C) d)):=Õ.upd hF;cases em:mh (O.set i (.sh (.xc x.C x.ns x.ps))) with
   |bad=>rw[em] at h;exact h
   |exc z O2=>rw[em] at h;exact h.elim
   |ok f O2=>
    rw[em] at h;cases f with
    |nx=>exact λY' F' H' r s1=>h _ F' H' (r.put (s:=.no) rfl trivial) (sF.trans s1)
    |bk=>exact λY' F' H' r s1=>h _ F' H' (r.put (s:=.no) rfl trivial) (sF.trans s1)
    |ct=>exact λY' F' H' r s1=>h _ F' H' (r.put (s:=.no) rfl trivial) (sF.trans s1)
    |rt r0=>exact λv Y' F' H' r s1 q=>h v _ F' H' (r.put (s:=.no) rfl trivial) (sF.trans s1) (Gx q)
  ·have jP:∀{Y7:Ą} {H7:Hp},Inv (markX X (.ref ea)) Ã Y7 H7 s7→(∀s8,Inv X Ã (Y7.set i none) H7 s8→SP X Ã D f s8)→
    Î (Ì X.prog X.w) X.A (do bindName X.env n .none;unbindBehindTheSuite X.env n Fn) (λ_ s8=>SP X Ã D f s8) X.xe s7:=fun{Y7 H7} I7 k=>by
    have I8:=Inv.unmark I7 I.ok.hd;obtain⟨m,hn,hl⟩:=id I8.loc;refine wpAny_nameGoes_keeps hx hn (by rw[I.ok.kind];rfl) λh' v KE hs=>k _ ?_;exact Inv.gone I8 hN hi hx hn hl KE hs
   cases f with
   |next=>obtain⟨Y7,H7,I7,q7⟩:=q;exact jP I7 λs8 I8=>⟨_,_,I8,q7⟩
   |brk=>obtain⟨Y7,H7,I7,q7⟩:=q;exact jP I7 λs8 I8=>⟨_,_,I8,q7⟩
   |cont=>obtain⟨Y7,H7,I7,q7⟩:=q;exact jP I7 λs8 I8=>⟨_,_,I8,q7⟩
   |ret u=>obtain⟨v,Y7,H7,I7,rv,q7⟩:=q;exact jP I7 λs8 I8=>⟨_,_,_,I8,rv,q7⟩
 ·split at h
  ·rename_i hn;refine iW I1.da (W3.get hn) hex he R5 ?_;exact hr Ã Y H Hc s sc ea C d B D c F O x I l rel ⟨eC,fs,TN,vV,TQ,Ho⟩ h
  ·exact h.elim
def HR{body:List Ò}{h0:iH}{hs:List iH}{pos:Pos}{mb:M Fl}{mh:MH}(vU:∃env outer,X.stack=env::outer/\X.env=env/\env.frame=some env.locals)
 (hb:∀(xe:Á->Â->Prop) (Ã:List (À×Obj)) (Et:Ą->XK),ϥ (ϭ X.prog X.w) (wB X xe Ã) Et->ay (wB X xe Ã) body (tS (kk X cm) Et mb))
 (hh:PH X cm E (h0::hs) mh):PS X (.Try body (h0::hs) [] [] pos) (tS (kk X cm) E (Gv mb mh)):=by
 intro Ã s Y H D I ⟨c,F,O,rel,h⟩;refine wpAny_Try_except ?_;obtain⟨env,outer,Ms,rfl,zc⟩:=vU;have Hq:X.A.frames=some (X.env::outer):=by rw[<-Ms];exact I.ok.frames
 have J:Inv (wB X (λe s₁=>Î (Ì X.prog X.w) X.A (aI e X.env) (λ_ s₂=>Î (Ì X.prog X.w) X.A (kt e none) (λ_ s₃=>Î (Ì X.prog X.w) X.A (handleBy e X.env (h0::hs)) (SP X Ã D) X.xe s₃) X.xe s₂) X.xe s₁) Ã) [] Y H s:=Inv.Ql I;refine ŝ (hb _ Ã (λY1 C d H'=>∃c F O x,ę (kk X cm) c F H' Y1 O/\wr (kk X cm) F x C d/\Œ (kk X cm) E c F D (mh x O)) ?_ [] s Y H D J ⟨c,F,O,rel,?_⟩) λf s1 q=>?_
 ·intro og Y1 H1 s1 e s2 I1 hx;obtain⟨ea,C,d,H',B,rfl,l,c1,F1,O1,x,Ù,rx,h1⟩:=hx;have I2:=Inv.oX I1;have lfr:s2.heap.FunFrames B (X.env::outer):=by
   have:=l.fr;rw[show(wB X _ Ã).stack=X.env::outer from Ms] at this;exact this
  show Î (Ì X.prog X.w) X.A (aI (.ref ea) X.env) _ X.xe s2;refine DE Hq lfr zc l.tr l.st l.en λg1 x1 x2 x3 x4=>?_;refine iV (s:={s2 with heap:=g1}) x1 x2 x3 λg2 y1 y2 y3 y4=>?_;have l':vW X.prog X.w X.stack H1 s1 ea C d .none H' B s2:=l;have l2:=l'.move y1 (by rw[Ms];exact y2) y3 (x4.trans y4);exact hh Ã Y1 H' H1 _ s1 ea C d B D c1 F1 O1 x I2 l2 Ù rx h1
 ·unfold Gv at h;cases em:mb O with
  |bad=>rw[em] at h;exact h
  |ok f O1=>rw[em] at h;cases f<;>exact h
  |exc x O1=>rw[em] at h;exact λY' C d F' H' r s1 rx=>⟨c,F',O1,x,r,rx,Œ.mono h s1⟩
 ·have q':=SP.oX q;cases f with
  |next=>exact kn q'
  |brk=>exact q'
  |cont=>exact q'
  |ret u=>exact q'
end
open Builtin Builtin.ObjectAttr
def Ϯ(K:É)(C:À):Bool:=match K.lookup C with
 |some ⟨.type "type",_,.cls cd,sl⟩=>(match cd.mro,sl.toList with
  | .ref C'::bm,[_,_,_,_,some (.builtin n),_]=>C'== C && n== Mp && !cd.hasDel && cd.hasDict && iP K AI bm && Ĭ K (.ref C) "__setattr__" == some (some (.builtin "object.__setattr__")) &&
      Ĭ K (.ref C) "__getattribute__" == some (some (.builtin "BaseException.__getattribute__")) && Ĭ K (.ref C) "__getattr__" == some none
  |_,_=>false)
 |_=>false
structure jg(K:É)(C:À)(cd:ClassData)(bm:List Á):Prop where
 at_:∃dd k0 k1 k2 k3 k5,K.lookup C=some ⟨.type "type",dd,.cls cd,#[k0,k1,k2,k3,some (.builtin Mp),k5]⟩
 mro:cd.mro=.ref C::bm
 del:cd.hasDel=false
 dict:cd.hasDict=true
 tail:iP K AI bm=true
 sa:Ĭ K (.ref C) "__setattr__" =some (some (.builtin "object.__setattr__"))
 ga:Ĭ K (.ref C) "__getattribute__" =some (some (.builtin "BaseException.__getattribute__"))
 gg:Ĭ K (.ref C) "__getattr__" =some none
def cV{K:É}{C:À}(q:Ϯ K C=true):∃cd bm,jg K C cd bm:=by
 unfold Ϯ at q;split at q
 case h_2=>cases q
 rename_i dd cd sl ho;split at q
 case h_2=>cases q
 rename_i C1 bm k0 k1 k2 k3 n1 k5 e1 e2;simp only[ē,beq_iff_eq,Bool.not_eq_true'] at q;obtain⟨⟨⟨⟨⟨⟨⟨z1,z2⟩,z3⟩,z4⟩,z5⟩,z6⟩,z7⟩,z8⟩:=q;subst z1 z2;obtain⟨sll⟩:=sl;dsimp only at e2;subst e2;exact⟨cd,bm,⟨dd,k0,k1,k2,k3,k5,ho⟩,e1,z3,z4,z5,z6,z7,z8⟩
section
variable{K:É}{h:Ð}{C:À}{cd:ClassData}{bm:List Á}
def jg.own(x:jg K C cd bm)(X:K.In h):OwnTail h AI bm:=zU X x.tail
def jg.cls(x:jg K C cd bm):PySem.W.clsIn K C=some cd:=by obtain⟨_,_,_,_,_,_,e⟩:=x.at_;unfold PySem.W.clsIn;rw[e]
theorem wD{T:String}(hT:AI.contains (.type T)=true):∀{l:List Á},iP K AI l=true->l.contains (.type T)=true
 | [],e=>by cases(show(AI== [])=true from e)
 |v::r,e=>by
  unfold iP at e;rcases zg.mp e with q|q
  ·rw[beq_iff_eq.mp q];exact hT
  ·split at q
   ·split at q
    ·simp only[ē,beq_iff_eq] at q;rw[kc,wD hT q.2,Bool.or_true]
    ·cases q
   ·cases q
theorem lY(self:Á):∀{l:List Á},iP K AI l=true->refuseLoop self "__setattr__" l=ç ()
 | [],e=>by cases(show(AI== [])=true from e)
 |v::r,e=>by
  unfold iP at e;rcases zg.mp e with q|q
  ·rw[beq_iff_eq.mp q];exact PySem.F.store_ValueError.passes self
  ·split at q
   ·split at q
    ·simp only[ē,beq_iff_eq] at q;rw[refuseLoop_ref];exact lY self q.2
    ·cases q
   ·cases q
def jg.mroIs(x:jg K C cd bm){T:String}(hT:AI.contains (.type T)=true):av K C (.type T)=some true:=by unfold av;rw[x.cls,sQ,if_neg (by rw[x.mro];simp),x.mro,kc,wD hT x.tail,Bool.or_true]
def jg.Qm(x:jg K C cd bm):iM K C=true:=by unfold iM;rw[x.cls];exact x.dict
end
section
variable{prog:Þ}{w:Ø}{A:à}{E:Á->Â->Prop}{h:Ð}{g:Array GenState}{d:Drawn}{t:Nat}{os:OsState}
variable{nm q:Str}{C N:À}{bs bm OJ:List Á}{hdct:Bool}{sn:List Str}{sub:List Á}{ab:Bool}{col:Option Bool}{dd:Option À}{k0 k1 k2 k3 k5:Option Á}{B qj Fp:String}
def mL(F:ExcBaseFacts B qj Fp OJ)(T:OwnTail h OJ bm){ü:List Á}{fI:À}{oI:Obj}{Q:Fin->Â->Prop}
 (hC:h.get? C=some (excClassObj nm q C N bs bm hdct sn sub ab col dd k0 k1 k2 k3 k5 qj))(hi:dY (Ì prog w) h (kr (.ref C) "__init__") (some (.ref fI)))
 (W4:h.get? fI=some oI)(R6:oI.cls=.type "function")
 (hq:∀h' e,tD h h' e (.ref C) ü→
   Î (Ì prog w) A (call (.ref fI) (.ref e::ü)) (λr s'=>r=.none/\Q (.done (.ret (.ref e))) s') E ⟨h',g,d,t,os⟩)(hrest:ü.length<=sizeLine) :
 Î (Ì prog w) A (dU.«type.__call__» ⟨.ref C::ü,[]⟩) Q E ⟨h,g,d,t,os⟩:=by
 repeat (first|with_reducible refine cL hC ?_|with_reducible refine wpAny_madeBy_exc hC ?_|wp_step)
 refine codeAny_call_builtin_code (ti _ F.quiet) (wpAny_check_new_subT F T hC ?_);refine codeAny_exc_new_subT F T hC ?_ hrest;show Î _ _ _ _ _ _;have Zah:= ö {cls:=.ref C,data:=.fields #[.ref h.objs.size,.none,.none,.none,.bool false,.none]}
  (ö {cls:=.type "tuple",data:=.seq ü.toArray} hC)
 have W5:= ö {cls:=.ref C,data:=.fields #[.ref h.objs.size,.none,.none,.none,.bool false,.none]}
  (ö {cls:=.type "tuple",data:=.seq ü.toArray} W4)
 have Zai:= hi.keeps (h':=(h.push {cls:=.type "tuple",data:=.seq ü.toArray}).push {cls:=.ref C,data:=.fields #[.ref h.objs.size,.none,.none,.none,.bool false,.none]}) λb o e=>ö _ (ö _ e);have R7:((h.push {cls:=.type "tuple",data:=.seq ü.toArray}).push
  {cls:=.ref C,data:=.fields #[.ref h.objs.size,.none,.none,.none,.bool false,.none]}).get? (h.objs.size+1)=some
  {cls:=.ref C,data:=.fields #[.ref h.objs.size,.none,.none,.none,.bool false,.none]}:=by heap_get
 have TR:(ă C::bm).contains (.ref C)=true:=by simp
 unfold iG
 repeat (first|with_reducible refine cL R7 ?_|(with_reducible refine wpAny_isSubtype_exc Zah ?_;rw[TR])|wp_step)
 show Î _ _ (kr (.ref C) _) _ _ _;refine Zai.at ?_;refine aJ (Ë ?_);unfold bindSpecial;refine Ë (wpAny_typeOf (T:= "function") ⟨_,W5,R6⟩ ?_);rw[if_pos (by decide)];refine â (Ë (Ň (hq _ (h.objs.size+1) ⟨λb o hb=>ö _ (ö _ hb),tz (sP _),h.objs.size,R7,tz (î _),?_⟩) (λr s' hr=>?_) λ_ _ x=>x))
 ·exact ö _ (tE rfl rfl)
 ·obtain⟨rfl,hQ⟩:=hr
  wp_walk
  exact hQ
def yi(F:ExcBaseFacts B qj Fp OJ)(T:OwnTail h OJ bm){ü:List Á}{fI:À}{oI:Obj}{Q:Á->Â->Prop}
 (hC:h.get? C=some (excClassObj nm q C N bs bm hdct sn sub ab col dd k0 k1 k2 k3 k5 qj))(hi:dY (Ì prog w) h (kr (.ref C) "__init__") (some (.ref fI)))
 (W4:h.get? fI=some oI)(R6:oI.cls=.type "function")
 (hq:∀h' e,tD h h' e (.ref C) ü→
   Î (Ì prog w) (A.under (.builtin "type.__call__" ⟨.ref C::ü,[]⟩)) (call (.ref fI) (.ref e::ü)) (λr s'=>r=.none/\Q (.ref e) s') E ⟨h',g,d,t,os⟩)(hrest:ü.length<=sizeLine) :
 Î (Ì prog w) A (call (.ref C) ü) Q E ⟨h,g,d,t,os⟩:=by
 have f1:=tc_lookup;have f2:=tc_bind (.ref C);have hT:(⟨h,g,d,t,os⟩:Â).TypeIs (.ref C) "type" := ⟨_,hC,rfl⟩;refine cK (codeAny_of_tree ?_);show Î _ _ (callAny (.ref C) _) _ _ _
 repeat (any_goals (first|assumption|with_reducible refine cL hC ?_|wp_step))
 refine⟨rfl,?_⟩;refine codeAny_call_builtin_at (ti _ (by decide +kernel)) entry_typeCall (wpAny_check_type_call_sub hC (mL (hrest:=hrest) F T hC hi W4 R6 λh' e hm=>?_));exact hq h' e hm
end
section
variable{prog:Þ}{w:Ø}{A:à}{E:Á->Â->Prop}{s:Â}{K:É}{x C:À}{cd:ClassData}{bm:List Á}{ox:Obj}{od:Option Obj}{name:Str}{v:Á}
def HS{ü:List Á}{fI:À}{Q:Á->Â->Prop}(X:K.In s.heap)(c:jg K C cd bm)(hi:Ĭ K (.ref C) "__init__" =some (some (.ref fI)))(hf:nL K (.ref fI)=some (.type "function"))(hrest:ü.length<=sizeLine)
 (hq:∀h' e,tD s.heap h' e (.ref C) ü->Î (Ì prog w) (A.under (.builtin "type.__call__" ⟨.ref C::ü,[]⟩)) (call (.ref fI) (.ref e::ü)) (λr s'=>r=.none/\Q (.ref e) s') E {s with heap:=h'}) :
 Î (Ì prog w) A (call (.ref C) ü) Q E s:=by
 obtain⟨dd,k0,k1,k2,k3,k5,e⟩:=c.at_;obtain⟨oI,hoI,R6⟩:=ki.mp hf;have hC:=X _ _ e;have T:=c.own X;obtain⟨nm,bs,mro,ns,qn,hd,sn,sub,ab,col,del⟩:=cd;obtain rfl:mro=.ref C::bm:=c.mro;obtain rfl:del=false:=c.del;obtain⟨hh,g,d,t,os⟩:=s;exact yi (C:=C) (nm:=nm) (q:=qn) (N:=ns) (bs:=bs) (bm:=bm) (hdct:=hd) (sn:=sn) (sub:=sub) (ab:=ab) (col:=col) (dd:=dd) (k0:=k0) (k1:=k1) (k2:=k2) (k3:=k3) (k5:=k5) zF T hC (fQ X hi) (X _ _ hoI) R6 hq hrest
def wE{tk:Tok}{R:dQ->Â->Prop}(X:K.In s.heap)(I:bG s.heap x ox C od)(c:jg K C cd bm)(ht:ċ K C name)
 (h:∀b,Î (Ì prog w) A.in1 (storeInOwnDict (.ref x) (.ref C) (.str name tk) name v b)
   (λjP s'=>match jP with| .done f=>R (.ok f) s'| .again c'=>c'.quiet=true/\Ϝ (Ì prog w) A c' R s') (λe s'=>R (.error e) s') s) :
 Ϝ (Ì prog w) A (.call (.builtin "object.__setattr__") ⟨[.ref x,.str name tk,v],[]⟩) R s:=by
 have SF:=PySem.F.store_object;have sub:dY (Ì prog w) s.heap (iG (.ref x) (.type "object")) true:=I.type.andThen (fT X (c.mroIs (by decide)));refine ku SF.slot.plain SF.entry (@uj (Ì prog w) _ _ s "object.__setattr__" "object" "__setattr__" (.ref x) [.str name tk,v] [] _ SF.kind SF.split sub (SF.args (.ref x) (.str name tk) v) ?_);have hm:dY (Ì prog w) s.heap (mroOf (.ref C)) cd.mro:=(nK X c.cls).andThen .now;have L3:dY (Ì prog w) s.heap (kr (.ref C) name) none:=fQ X ht;rw[PySem.W.osa_eq,refuse_eq];refine Ë (Ë (I.type.here (Ë (hm.here ?_))));rw[c.mro,refuseLoop_ref,lY _ c.tail];refine â (Ë (I.type.here (Ë (L3.here (Ë (â ?_))))));exact h _
def DI{sl:Array (Option Á)}{vs:Array Á}{Q:Unit->Â->Prop}(X:K.In s.heap)(hx:s.heap.get? x=some ⟨.ref C,none,.fields vs,sl⟩)(c:jg K C cd bm)(ht:ċ K C name)
 (h:∀h',h'.get? x=some ⟨.ref C,some s.heap.objs.size,.fields vs,sl⟩->h'.Ns1 s.heap.objs.size (λy=>if y=name then some v else none)->(∀b o,b≠x->s.heap.get? b=some o->h'.get? b=some o)->Q () {s with heap:=h',toks:=s.toks+2}) :
 Î (Ì prog w) A (setAttr (.ref x) name v) Q E s:=by
 have J:bG s.heap x ⟨.ref C,none,.fields vs,sl⟩ C none:=⟨hx,rfl,rfl,trivial⟩;refine uc X J c.sa (wE (s:={s with toks:=s.toks+1}) X J c ht λb=>?_);refine Ë (â (Ë (Ë (nn hx (Ë (ul (s:={s with toks:=s.toks+1}) (nK X c.cls) ?_))))));rw[c.dict];have hxs:x≠s.heap.objs.size:=ħ (ñ hx);have Zaa:(s.heap.push {cls:=.type "dict",data:=.dict #[]}).get? x=some ⟨.ref C,none,.fields vs,sl⟩:=ö _ hx;refine Ë (wpAny_alloc ?_);refine Ë (wpAny_update Zaa ?_);refine â (a:=some s.heap.objs.size) (Ë (â (Ë ?_)));have hgd:((s.heap.push {cls:=.type "dict",data:=.dict #[]}).update x λo=> {cls:=o.cls,dict:=some s.heap.objs.size,data:=o.data,slots:=o.slots}).get? s.heap.objs.size
  = some {cls:=.type "dict",data:=.dict #[]}:=(zM _ _ _ _ hxs.symm).trans (tE rfl rfl)
 have Ho:((s.heap.push {cls:=.type "dict",data:=.dict #[]}).update x λo=> {cls:=o.cls,dict:=some s.heap.objs.size,data:=o.data,slots:=o.slots}).Ns s.heap.objs.size (λ_=>none):=
  ⟨_,#[],_,hgd,rfl,λe he=>absurd he (by simp),λ_=>rfl⟩
 refine wpAny_nsSet1 (zO Ho) λh' KE hs=>?_;obtain⟨oD,Qqj6,Qqj7,RL,RO,RP⟩:=KE.count (um name v PySem.Within.nil);refine Ë (sU RL (by rw[RO];exact sW (ϲ RP (by rw[þ,io,ϛ];lia))) ?_);refine â (h h' ?_ KE λb o hb q=>?_)
 ·exact(hs.2 x hxs).trans (bE _ Zaa rfl)
 ·exact(hs.2 b (ħ (ñ q))).trans ((zM _ _ _ _ hb).trans (ö _ q))
def BA{sl:Array (Option Á)}{vs:Array Á}{dx:À}{mA:Str->Option Á}{ns:List Str}{Q:Unit->Â->Prop}(X:K.In s.heap)(hx:s.heap.get? x=some ⟨.ref C,some dx,.fields vs,sl⟩)(hn:s.heap.Ns1 dx mA)(hw:km mA ns)(y_:ns.length<sizeLine)(c:jg K C cd bm)(ht:ċ K C name)
 (h:∀h',h'.Ns1 dx (λy=>if y=name then some v else mA y)->ao dx s.heap h'->Q () {s with heap:=h',toks:=s.toks+2}) :
 Î (Ì prog w) A (setAttr (.ref x) name v) Q E s:=by
 obtain⟨od,W6,_⟩:=ly hn;have J:bG s.heap x ⟨.ref C,some dx,.fields vs,sl⟩ C (some od):=⟨hx,rfl,rfl,W6⟩;refine uc X J c.sa (wE (s:={s with toks:=s.toks+1}) X J c ht λb=>?_);refine Ë (â (Ë (Ë (nn hx (Ë (ul (s:={s with toks:=s.toks+1}) (nK X c.cls) ?_))))));rw[c.dict];refine â (a:=some dx) (Ë (â (Ë ?_)));refine wpAny_nsSet1 (s:={s with toks:=s.toks+1}) hn λh' Cd Fe=>?_;obtain⟨oD,Qqj6,Qqj7,RL,RO,RP⟩:=Cd.count (um name v hw);refine Ë (sU RL (by rw[RO];exact sW (ϲ RP (by rw[þ];lia))) ?_);exact â (h _ Cd Fe)
def xga{R:dQ->Â->Prop}{u:Á}{od:Obj}{tk:Tok}(X:K.In s.heap)(I:bG s.heap x ox C (some od))(c:jg K C cd bm)(ht:ċ K C name)(hl:iL name od=some (some u))
 (h:R (.ok (.ret u)) s):Ϝ (Ì prog w) A (.call (.builtin "BaseException.__getattribute__") ⟨[.ref x,.str name tk],[]⟩) R s:=by
 have hk:builtinKind "BaseException.__getattribute__" =some .slot:=by decide +kernel
 have vX:splitId "BaseException.__getattribute__" =some ("BaseException","__getattribute__"):=by decide +kernel
 have L0:=I.type (M:=Ì prog w);have L3:=uk (M:=Ì prog w) X I (t_ c.Qm ht rfl hl);have B0:dY (Ì prog w) s.heap (iG (.ref x) (.type "BaseException")) true:=L0.andThen (fT X (c.mroIs (by decide)));refine ku nC.ga.plain zG (@uj (Ì prog w) _ _ s "BaseException.__getattribute__" "BaseException" "__getattribute__" (.ref x) [.str name tk] [] _ hk vX B0 (zH (.ref x) (.str name tk)) ?_);unfold dU.«object.__getattribute__»;refine Ë (â (Ë (â (Ë (L0.here (Ë (L3.here (â ?_))))))));exact h
def Vn{Fd:Bool}{u:Á}{od:Obj}{Q:Á->Â->Prop}(X:K.In s.heap)(I:bG s.heap x ox C (some od))(c:jg K C cd bm)(ht:ċ K C name)(hl:iL name od=some (some u))(hh:tY u=true)
 (h:Q u {s with toks:=s.toks+1}):Î (Ì prog w) A (getAttr (.ref x) name Fd) Q E s:=by
 have FB:=nC;obtain⟨hp,g,d,t,os⟩:=s;have L0:=I.type (M:=Ì prog w);have L1:=fQ (M:=Ì prog w) X c.ga;have L2:=fQ (M:=Ì prog w) X c.gg;have L3:=uk (M:=Ì prog w) X I (t_ c.Qm ht rfl hl);have B0:dY (Ì prog w) hp (iG (.ref x) (.type "BaseException")) true:=L0.andThen (fT X (c.mroIs (by decide)));unfold getAttr getAttrBy;refine Ë (wpAny_mkText (aJ (Ë (L0.at (Ë (L1.at ?_))))));show Î _ _ (nu _ _ _ _ _ _) _ _ _;have f3:=FB.ga.bind (.ref x);have hx0:(Fd && onTheHeap (Value.builtin "BaseException.__getattribute__"))=false:=by cases Fd<;>rfl
 unfold nu hookBefore callGetattribute;refine Ë (L2.at ?_);rw[hx0];have hk:builtinKind "BaseException.__getattribute__" =some .slot:=by decide +kernel
 have vX:splitId "BaseException.__getattribute__" =some ("BaseException","__getattribute__"):=by decide +kernel
 refine Ë (kv (aJ ?_));rw[if_neg (by decide)];unfold boundAndCalled;rw[f3];refine Ë (â (cK ?_));exact xga X I c ht hl (show Î _ _ (handedOut u) _ _ _ by rw[zW hh];exact â h)
end
def xn(a C:À)(d:Option À):HO:=.ext λh=>∃o vs,h.get? a=some o/\o.cls=.ref C/\o.dict=d/\o.data=.fields vs/\(vs[1]?=some .none/\vs[2]?=some .none/\4<vs.size)
def HU(H:Hp)(a:À)(d:Option À)(fs:List (Str×V)):Prop:=(d=none/\fs=[])\/∃d0,d=some d0/\H d0=some (.xd fs)/\d0≠a/\fs≠[]
def XT(H:Hp)(a:À)(d:Option À)(d':À):Prop:=d=some d'\/(d=none/\H d'=none/\d'≠a)
def wF(H:Hp)(a C:À)(d:Option À)(d':À)(fs:List (Str×V)):Hp:=match d with
 |some _=>upd H d' (.xd fs)
 |none=>upd (upd H d' (.xd fs)) a (xn a C (some d'))
def wG{f g:Str}{y:V}{u:Á}{fs:List (Str×V)}{mA:Str->Option Á}(ry:RelV y u)(r:∀g,kE (fs.lookup g) (mA g)):kE ((af f y fs).lookup g) (if g=f then some u else mA g):=by
 rw[gO];split
 ·exact ry
 ·exact r g
section
variable{X:Cx}{Ã:List (À×Obj)}{Y:Ą}{H:Hp}{s:Â}{a C:À}{cd:ClassData}{bm:List Á}{d:Option À}{fs:List (Str×V)}{f:Str}{y:V}{u:Á}{A:à}{E:Á->Â->Prop}
def Gy{Q:Unit->Â->Prop}(I:Inv X Ã Y H s)(c:jg X.K C cd bm)(ha:H a=some (xn a C d))(hD:HU H a d fs)(n:ċ X.K C f)(hl:fs.length<1000)(ry:RelV y u)
 (h:∀s' d',XT H a d d'->Inv X Ã Y (wF H a C d d' (af f y fs)) s'->Q () s'):Î (Ì X.prog X.w) A (setAttr (.ref a) f u) Q E s:=by
 obtain⟨⟨o,vs,ho,ze,qV,xC,KL⟩,_,_⟩:=(show Ť X.prog X.w H s.heap a (xn a C d) from I.hok a _ ha);obtain⟨Hr,xD,Be,qS⟩:=o;dsimp only at ze qV xC;subst ze qV xC;rcases hD with⟨rfl,rfl⟩|⟨d0,rfl,hd0,qU,_⟩
 ·refine DI I.da ho c n λh' OI vV k=>h _ s.heap.objs.size (.inr ⟨rfl,I.hok.fresh (î _),λz=>?_⟩) ?_
  ·have:=ñ ho;rw[z] at this;exact ϱ _ this
  ·obtain⟨od,es,ep,e1,e2⟩:=id vV;have zc:=(Heap.get?_some_iff.mp e1).2;have g1:(s.heap.push od).get? s.heap.objs.size=some od:=tE rfl zc;have ne:s.heap.objs.size≠a:=λz=>by
    have:=ñ ho;rw[<-z] at this;exact ϱ _ this
   have I1:Inv X Ã Y (upd H s.heap.objs.size (.xd (af f y []))) {s with heap:=s.heap.push od,toks:=s.toks}:=
    I.laid (λb o q=>ö _ q) (î _) ⟨_,vV.at λo q=>by rw[e1] at q;cases q;exact g1,λg=>wG (fs:=[]) (mA:=λ_=>none) ry λ_=>trivial⟩
   refine I1.write (x:=a) (e:=a) (h':=h') (by rw[Ú (Đ ne),ha];exact trivial) (.inl rfl) (λb o hb q=>?_) ⟨_,OI⟩ ?_
   ·rcases zN q with⟨rfl,rfl⟩|q
    ·exact e1
    ·exact k b o hb q
   ·refine⟨⟨_,vs,OI,rfl,rfl,rfl,KL⟩,⟨_,OI⟩,?_⟩;rintro h1 h2 ⟨o,ws,q1,q2⟩ kk;exact⟨o,ws,kk o q1,q2⟩
 ·obtain⟨mA,vV,r⟩:=(show Ť X.prog X.w H s.heap d0 (.xd fs) from I.hok d0 _ hd0);have wi:km mA (fs.map (·.1)):=λg hg=>by
   refine sy λhn=>hg (kE.none_of ?_);rw[<-lI (m:=g) (fs:=fs) (by simpa using hn)];exact r g
  refine BA I.da ho vV wi (by rw[ď,ϛ];lia) c n λh' Cd sb=>h _ d0 (.inl rfl) ?_;exact I.write (x:=d0) (e:=d0) (by rw[hd0];exact trivial) (.inl rfl) (λb o hb q=>(sb.2 b hb).trans q) (let ⟨o,_,_,e,_⟩:=Cd;⟨o,e⟩) ⟨_,Cd,λg=>wG ry r⟩
def Vo(C:À)(f:Str)(j:Nat):TS:=λD Y H=>∃a d fs y,Y[0]?=some (some (.ref a))/\Y[j]?=some (some y)/\H a=some (xn a C d)/\HU H a d fs/\fs.length<1000/\∀d',XT H a d d'->D.nx Y (wF H a C d d' (af f y fs))
def HV(C:À):List (Str×Nat)->TS
 | []=>Hx
 |(f,j)::r=>Pf (Vo C f j) (HV C r)
variable{o value:Æ}{pos bW:Pos}{j:Nat}{ss:List Ò}{r:List (Str×Nat)}
def HW(q:Ϯ X.K C=true)(n:ċ X.K C f)(ho:PE X o (gF 0))(hv:PE X value (gF j))(hs:ŗ value (some (.Attribute o f bW)) pos.line X.env=ç false:=by rfl):PS X (.Assign [.Attribute o f bW] value pos) (Vo C f j):=by intro Ã s Y H D I ⟨a,d,fs,y,h0,hj,ha,hD,hl,h⟩;obtain⟨cd,bm,c⟩:=cV q;refine zx (ŝ (hv Ã s Y H (λv H1=>v=y/\H1=H) I ⟨y,hj,rfl,rfl⟩) λu s1 ⟨y1,H1,I1,ry,e1,e2⟩=>?_) hs;subst e1 e2;refine ŝ (ho Ã s1 Y _ (λv H2=>v=.ref a/\H2=H1) I1 ⟨_,h0,rfl,rfl⟩) λov s2 ⟨x,H2,I2,rx,e1,e2⟩=>?_;subst e1 e2;obtain rfl:ov=ă a:=rx;exact Gy I2 c ha hD n hl ry λs3 d' hn I3=>⟨Y,_,I3,h d' hn⟩
def DJ:ay X [] (HV C []):=uv
def AK(h1:PS X (.Assign [.Attribute o f bW] value pos) (Vo C f j))(h2:ay X ss (HV C r)):ay X (.Assign [.Attribute o f bW] value pos::ss) (HV C ((f,j)::r)):=db h1 h2
end
noncomputable def OZ:List (Str×Nat)->List V->List (Str×V)->Option (List (Str×V))
 | [],_,fs=>some fs
 |(f,j)::r,vs,fs=>match vs[j]? with
  |some v=>OZ r vs (af f v fs)
  |none=>none
def Gz{f:Str}{y:V}{fs:List (Str×V)}:af f y fs≠[]:=by
 cases fs with
 |nil=>intro z;cases z
 |cons x r=>obtain⟨g,v⟩:=x;unfold af;split<;>(intro z;cases z)
theorem yj{D:Ends}{Y:Ą}{a C:À}{vs:List V}(h0:Y[0]?=some (some (.ref a)))(hσ:∀(j:Nat) v,vs[j]?=some v->Y[j]?=some (some v)):∀{fl:List (Str×Nat)} {d:Option À} {fs fs':List (Str×V)} {H:Hp},H a=some (xn a C d)->HU H a d fs->fs.length+fl.length<1000->OZ fl vs fs=some fs'->
 (∀H' d',H' a=some (xn a C d')->HU H' a d' fs'->(∀b u,b≠a->d≠some b->H b=some u->H' b=some u)->(∀d0,d'=some d0->d=some d0\/H d0=none)->D.nx Y H')->HV C fl D Y H
 | [],d,fs,fs',H,ha,hD,hl,e,k=>by cases e;exact k H d ha hD (λ_ _ _ _ q=>q) λd0 q=>.inl q
 |(f,j)::r,d,fs,fs',H,ha,hD,hl,e,k=>by
  unfold OZ at e;cases ej:vs[j]? with
  |none=>rw[ej] at e;cases e
  |some y=>
   rw[ej] at e;rw[þ] at hl;refine⟨a,d,fs,y,h0,hσ j y ej,ha,hD,by lia,λd' hn=>?_⟩;have xC:d'≠a:=by
    rcases hn with rfl|⟨_,_,q⟩
    ·rcases hD with⟨q,_⟩|⟨d0,q,_,z,_⟩
     ·cases q
     ·cases q;exact z
    ·exact q
   have e1:wF H a C d d' (af f y fs) a=some (xn a C (some d')):=by
    unfold wF;rcases hn with rfl|⟨rfl,_,_⟩
    ·dsimp only;rw[Ú (Đ xC)];exact ha
    ·exact ã
   have e2:wF H a C d d' (af f y fs) d'=some (.xd (af f y fs)):=by
    unfold wF;cases d with
    |some _=>exact ã
    |none=>dsimp only;rw[Ú xC];exact ã
   have e3:∀b,b≠a->b≠d'->wF H a C d d' (af f y fs) b=H b:=λb h1 h2=>by
    unfold wF;cases d with
    |some _=>exact Ú h2
    |none=>dsimp only;rw[Ú h1,Ú h2]
   have hlen:=gP f y fs;show HV C r _ Y _;refine yj (fl:=r) (d:=some d') (fs:=af f y fs) (fs':=fs') h0 hσ e1 (.inr ⟨d',rfl,e2,xC,Gz⟩) (by lia) e λH' d'' q1 q2 q3 q4=>k H' d'' q1 q2 (λb u h1 h2 h3=>?_) λd0 z=>?_
   ·have hb:b≠d':=fun z=>by
     rcases hn with q|⟨_,q,_⟩
     ·exact h2 (by rw[q,z])
     ·rw[z,q] at h3;cases h3
    exact q3 b u h1 (λz=>hb (by cases z;rfl)) (by rw[e3 b h1 hb];exact h3)
   ·rcases q4 d0 z with q|q
    ·cases q;rcases hn with q|⟨_,q,_⟩
     ·exact .inl q
     ·exact .inr q
    ·have n1:d0≠a:=λz=>by rw[z,e1] at q;cases q
     have n2:d0≠d':=λz=>by rw[z,e2] at q;cases q
     rw[e3 d0 n1 n2] at q;exact .inr q
def HX(n:Nat)(C:À)(fl:List (Str×Nat)):Sp:=λvs H Q _=>∃a jh fs,vs=.ref a::jh/\jh.length+1=n/\H a=some (xn a C none)/\fl.length<1000/\OZ fl vs []=some fs/\
 ∀H' d',H' a=some (xn a C d')->HU H' a d' fs->(∀b u,b≠a->H b=some u->H' b=some u)->(∀d0,d'=some d0->H d0=none)->Q .non H'
def iX{N:List Str}{vs:List V}{j:Nat}{v:V}(e:vs[j]?=some v):(L2.start N vs)[j]?=some (some v):=by unfold L2.start;obtain⟨hj,e'⟩:=fh.mp e;rw[aG (by simpa using hj)];simp[e]
section
variable{P:Þ}{w:Ø}{K:É}{mg:Str->Option Á}{base:Ð}{CX:ji}
def fnX{x ý:Str}{st:Ò}{f:À}{fd:Ė}{N ps:List Str}{k n:Nat}{C:À}{fl:List (Str×Nat)}(F:B6 K x ý st f fd)(S:æ N ps (Ó st))(hn:ps.length=n)
 (dF:∀(ĺ:Á) (A:à) (outer:List Env) (s:Â) (H:Hp) (E:XK),ay (ŭ CX P w K mg base N ý (Ó st) f ĺ A outer s H E) (Ŧ st) (HV C fl)):Ě P w K mg base CX (k+1) f fd ps (HX n C fl):=by
 subst hn;obtain⟨oc,od,kV,mW,pm,an,ĺ,ct,qS,rfl,lk,gE⟩:=F.ex;refine Ac lk gE S (λvs H Q E ⟨a,jh,fs,h1,h2,_⟩=>by rw[h1,þ];exact h2) λA outer s H vs Q E hr Ba=>?_;obtain⟨a,jh,fs,rfl,h2,h3,h4,h5,h6⟩:=Ba;refine⟨_,dF ĺ A outer s H E,yj (vs:=.ref a::jh) (iX rfl) (λj v e=>iX e) h3 (.inl ⟨rfl,rfl⟩) (by simpa using h4) h5 λH' d' q1 q2 q3 q4=>h6 H' d' q1 q2 (λb u hb q=>q3 b u hb (by intro z;cases z) q) λd0 z=>?_⟩;rcases q4 d0 z with q|q
 ·cases q
 ·exact q
end
def cZ.Vp{P:Þ}{w:Ø}{H:Hp}{h:Ð}{ea Ca:À}{d:Option À}{oe:Obj}{vs:Array Á}(k:cZ P w H h)(hn:H ea=none)(he:h.get? ea=some oe)(hc:oe.cls=.ref Ca)(qV:oe.dict=d)(hd:oe.data=.fields vs)(h1:vs[1]?=some .none/\vs[2]?=some .none/\4<vs.size):cZ P w (upd H ea (xn ea Ca d)) h:=λb u e=>by
 by_cases hb:b=ea
 ·subst hb;rw[ã] at e;cases e;refine⟨⟨oe,vs,he,hc,qV,hd,h1⟩,⟨oe,he⟩,?_⟩;rintro h1 h2 ⟨o,ws,q1,q2⟩ kk;exact⟨o,ws,kk o q1,q2⟩
 ·rw[Ú hb] at e;exact(k b u e).stay (λ_ _ _ q=>q) (λc q=>by rw[Ú (é q hn)];exact q) (λc xs q=>by rw[Ú (é q hn)];exact q) λc xs q=>by rw[Ú (é q hn)];exact q
def Inv.Qn{X:Cx}{Ã:List (À×Obj)}{Y:Ą}{H:Hp}{s:Â}{h':Ð}{e Ca:À}{d:Option À}{oe:Obj}{vs:Array Á}{t':Nat}(I:Inv X Ã Y H s)(k:∀b o,s.heap.get? b=some o->h'.get? b=some o)(new:s.heap.get? e=none)
 (he:h'.get? e=some oe)(hc:oe.cls=.ref Ca)(qV:oe.dict=d)(hd:oe.data=.fields vs)(h1:vs[1]?=some .none/\vs[2]?=some .none/\4<vs.size):Inv X Ã Y (upd H e (xn e Ca d)) {s with heap:=h',toks:=t'}:=by
 have hn:H e=none:=nU I.hok new;have u:Un X.fs [] H H s.heap h':=Un.kept k;refine I.un ⟨u.keep,u.slot,λb o q n hx=>?_,u.there,λb xs q=>?_,λb o v q=>?_,λb ps q=>?_⟩ (cZ.Vp (I.hok.kept k) hn he hc qV hd h1)
 ·have hb:b≠e:=λz=>by rw[z,new] at q;cases q
  rw[Ú hb];exact n
 ·rw[Ú (é q hn)];exact q
 ·rw[Ú (é q hn)];exact q
 ·rw[Ú (é q hn)];exact q
noncomputable def wH:List (Str×Nat)->List PV->List Str->List PV->Option (List Str×List PV)
 | [],_,ns,qs=>some (ns,qs)
 |(_,0)::_,_,_,_=>none
 |(f,j+1)::r,ps,ns,qs=>match ps[j]? with
  |some p=>wH r ps (putN f ns) (jE f p ns qs)
  |none=>none
theorem wI{K:KK}{F:Hp}:∀{ps:List PV} {vs:List V} {j:Nat} {p:PV},Û K F ps vs->ps[j]?=some p->∃v,vs[j]?=some v/\Ć K F p v
 | [],_,_,_,_,e=>by simp at e
 |q::ps,vs,j,p,h,e=>by
  unfold Û at h;obtain⟨x,r,rfl,h1,h2⟩:=h;cases j with
  |zero=>cases e;exact⟨x,rfl,h1⟩
  |succ j=>rw[fA] at e ⊢;exact wI h2 e
theorem yk{K:KK}{F:Hp}{ps:List PV}{vs:List V}{e:V}(h:Û K F ps vs):∀{fl:List (Str×Nat)} {ns R8:List Str} {qs Qo:List PV} {fs:List (Str×V)},wH fl ps ns qs=some (R8,Qo)->fs.map (·.1)=ns->Û K F qs (fs.map (·.2))->
 ∃fs',OZ fl (e::vs) fs=some fs'/\fs'.map (·.1)=R8/\Û K F Qo (fs'.map (·.2))
 | [],ns,R8,qs,Qo,fs,z,hn,hq=>by cases z;exact⟨fs,rfl,hn,hq⟩
 |(f,0)::r,ns,R8,qs,Qo,fs,z,hn,hq=>by cases z
 |(f,j+1)::r,ns,R8,qs,Qo,fs,z,hn,hq=>by
  unfold wH at z;cases ej:ps[j]? with
  |none=>rw[ej] at z;cases z
  |some p=>rw[ej] at z;obtain⟨v,ev,rv⟩:=wI h ej;unfold OZ;rw[fA,ev];subst hn;obtain⟨z1,z2⟩:=uO (f:=f) (p:=p) rv hq;exact yk h (fs:=af f v fs) z z1 z2
@[simp] def Ĺ(C:String)(n:Nat)(fl:List (Str×Nat))(ms:M (List PV))(O:ć):ĳ Fl:= (ms O).bind fun ps O1=>if ps.length+1=n∧ps.length<1000∧fl.length<1000 then(match wH fl ps [] [] with
  |some (ns,qs)=>.exc ⟨C,ns,qs⟩ O1
  |none=>.bad) else .bad
section
variable{X:Cx}{E:Ą->XK}{e:Æ}{p:Pos}{CX:ji}{k n:Nat}{f:À}{fd:Ė}{ps:List Str}{C:String}{fl:List (Str×Nat)}{x:Str}
structure GA(K:É)(C f:À):Prop where
 x:Ϯ K C=true
 kp:Ţ K (.ref C)=true
 init:Ĭ K (.ref C) "__init__" =some (some (.ref f))
 fn:nL K (.ref f)=some (.type "function")
def BB{Ã:List (À×Obj)}{Y:Ą}{H:Hp}{s:Â}{G:Á->Â->Prop}{us:List Á}{vs:List V}{sp:Sp}{C:À}{T:À->Hp->Prop}(M:GA X.K C f)(F:Ě X.prog X.w X.K X.mg X.base CX k f fd ps sp)(hr:ϊ (k+1) X.A)(hb:Binds X.K fd ps [])
 (hx:ϥ CX X E)(I:Inv X Ã Y H s)(r:ĭ vs us)(hl:us.length<=sizeLine)
 (h:∀x,H x=none->sp (.ref x::vs) (upd H x (xn x C none)) (λv H2=>v=.non/\T x H2) (E Y))
 (k:∀x H2 s',H x=none->s.heap.get? x=none->Inv X Ã Y H2 s'->T x H2->G (.ref x) s') :
 Î (Ì X.prog X.w) X.A (call (.ref C) us) G X.xe s:=by
 obtain⟨cd,bm,c⟩:=cV M.x;refine HS I.da c M.init M.fn hl λh' e hm=>?_;obtain⟨t,he,_,_⟩:=hm.there;have hn:H e=none:=nU I.hok hm.new;have I2:Inv X Ã Y (upd H e (xn e C none)) {s with heap:=h',toks:=s.toks}:=Inv.Qn I hm.keeps hm.new he rfl rfl rfl ⟨rfl,rfl,by simp⟩;have hq:=h e hn;have r2:ĭ (V.ref e::vs) (ă e::us):=.cons rfl r;have hl:(ă e::us ++ []).length=ps.length:=by have q:=r2.length;rw[F.len _ _ _ _ hq] at q;rw[cu];exact q.symm
 have Fk:=hb {s with heap:=h'} (ă e::us) I2.da hl;rw[cu] at Fk;refine cK (dS (F.run _ X.stack _ _ ⟨ă e::us,[]⟩ _ _ _ (E Y) (hr.make C us []) (I2.env0.make C us []) Fk r2 hq) λr s' wb=>?_);cases r with
 |error e=>exact hx Ã Y _ _ e s' I2 wb
 |ok fl=>
  cases fl with
  |ret u=>obtain⟨v,H',I3,rv,ev,q3⟩:=I2.after wb;subst ev;exact⟨rv,k e H' s' hn hm.new I3 q3⟩
  |next=>exact Ļ wb
  |brk=>exact Ļ wb
  |cont=>exact Ļ wb
def xE(H:Hp)(a:À):Hp:=λb=>if b=a then none else H b
def bg{H:Hp}{a b:À}(h:b≠a):xE H a b=H b:=if_neg h
def hZ{H:Hp}{a:À}:xE H a a=none:=if_pos rfl
def kQ{H:Hp}{a b:À}(h:H b=none):xE H a b=none:=by
 unfold xE;split
 ·rfl
 ·exact h
def Inv.drop{Ã:List (À×Obj)}{Y:Ą}{H:Hp}{s:Â}{a:À}{φ:Ð->Prop}(I:Inv X Ã Y H s)(ha:H a=some (.ext φ)):Inv X Ã Y (xE H a) s:=by
 have ne:∀b u,H b=some u->(∀ψ,u≠ .ext ψ)->b≠a:=λb u q n z=>by rw[z,ha] at q;cases q;exact n _ rfl
 refine⟨I.ok,I.os,I.bare,⟨I.base.keep,I.base.slot,λb o q n hx=>kQ (I.base.free b o q n hx),I.base.there,λb xs q=>?_,λb o u q=>?_,λb ps q=>?_⟩,I.loc,I.cell,kQ I.free,λx c e=>kQ (I.bX x c e),λp hp=>?_,λb u e=>?_,I.len⟩
 ·have q':=I.base.tups b xs q;rw[bg (ne b _ q' (by intro ψ z;cases z))];exact q'
 ·have q':=I.base.eI b o u q;rw[bg (ne b _ q' (by intro ψ z;cases z))];exact q'
 ·have q':=I.base.c_ b ps q;rw[bg (ne b _ q' (by intro ψ z;cases z))];exact q'
 ·obtain⟨h1,h2,h3⟩:=I.pin p hp;exact⟨h1,kQ h2,h3⟩
 ·have hb:b≠a:=λz=>by rw[z,hZ] at e;cases e
  rw[bg hb] at e;exact(I.hok b u e).stay (λ_ _ _ q=>q) (λc q=>by rw[bg (ne c _ q (by intro ψ z;cases z))];exact q) (λc xs q=>by rw[bg (ne c _ q (by intro ψ z;cases z))];exact q) λc xs q=>by rw[bg (ne c _ q (by intro ψ z;cases z))];exact q
def HY{K:KK}{c:Ctx}{F1 H1 H':Hp}{Y:Ą}{O1:ć}{x Ca:À}{d':Option À}{fs:List (Str×V)}(Ù:ę K c F1 H1 Y O1)(hx:H1 x=none)(hD:HU H' x d' fs)(hH:∀b u,b≠x->upd H1 x (xn x Ca none) b=some u->H' b=some u)
 (hd:∀d0,d'=some d0->upd H1 x (xn x Ca none) d0=none):∃F',ę K c F' H' Y O1/\Õ F1 F'/\Õ H1 H'/\oG F' d' fs/\F' x=none:=by
 have sH:Õ H1 H':=λb u e=>hH b u (é e hx) (by rw[Ú (é e hx)];exact e);have r2:ę K c F1 H' Y O1:=Ù.call ⟨sH,Õ.refl _,Ù.sub.trans sH,λ_ _ q=>q⟩;rcases hD with⟨rfl,rfl⟩|⟨d0,rfl,h2,qU,_⟩
 ·exact⟨F1,r2,Õ.refl _,sH,.inl ⟨rfl,rfl⟩,Ù.sub.free hx⟩
 ·have n0:H1 d0=none:=by
   have:=hd d0 rfl;rw[Ú qU] at this;exact this
  refine⟨upd F1 d0 (.xd fs),r2.freeze h2 (Ù.base.free n0) (Ù.sub.free n0) (Ù.fresh n0),Õ.upd (Ù.sub.free n0),sH,.inr ⟨d0,rfl,ã⟩,?_⟩;rw[Ú (Đ qU)];exact Ù.sub.free hx
end
section
variable{M:cC}{A:à}{E:Á->Â->Prop}{s:Â}{K:É}{env:Env}
def GB{x:Sem Á}{Q:Flow->Â->Prop}(hh:A.handled=none)
 (h:Î M A x (λv s₁=>∃e C oe vs oC,v=.ref e/\K.In s₁.heap/\s₁.heap.get? C=some oC/\oC.cls=.type "type" /\av K C (.type "BaseException")=some true/\s₁.heap.get? e=some oe/\oe.cls=.ref C/\oe.data=.fields vs/\vs[1]?=some .none/\E (.ref e) s₁) E s) :
 Î M A (iI env (some x) none) Q E s:=by
 unfold iI;refine Ë (Ň h (λv s₁ h₁=>?_) λ_ _ x=>x);obtain⟨e,C,oe,vs,oC,rfl,KX,hC,Qp,hm,he,hc,hd,h1,hE⟩:=h₁;have L4:=fT (M:=M) KX hm;obtain⟨hp,g,d,tk,os⟩:=s₁;obtain⟨Hr,xD,Be,qS⟩:=oe;dsimp only at hc hd;subst hc hd
 repeat (first|with_reducible refine cL he ?_|(with_reducible refine cL hC ?_;rw[Qp])|with_reducible refine PySem.W.Looks.at L4 ?_|with_reducible refine Ř he rfl h1 ?_|wp_step)
 exact wpAny_raiseNew_none hh hE
end
section
variable{X:Cx}{cm:String->À}{E:Ą->XK}{e:Æ}{es:List Æ}{pos ai np:Pos}{CX:ji}{k n:Nat}{f:À}{fd:Ė}{ps:List Str}{C:String}{fl:List (Str×Nat)}{ms:M (List PV)}{x:Str}
def Œ.bindL{K:KK}{c:Ctx}{F H:Hp}{Y:Ą}{D:Ends}{Q':List V->Hp->Prop}{r:ĳ (List PV)}{g:List PV->ć->ĳ Fl}(h:Œ K E c F D (r.bind g))
 (k:∀p O1 v F1 H1,ę K c F1 H1 Y O1->Õ F F1->Õ H H1->Û K F1 p v->Œ K E c F1 D (g p O1)->Q' v H1):ϔ K E (rL K) c F H Y Q' r:=by
 cases r with
 |bad=>exact h
 |exc x O'=>exact λC d F' H' rel s1 q=>h Y C d F' H' rel s1 q
 |ok p O1=>exact λv F' H' rel s1 s2 q=>k p O1 v F' H' rel s1 s2 q (Œ.mono h s1)
def yl{c:Ctx}{F1 H1:Hp}{Y:Ą}{O1:ć}{D:Ends}{qs:List PV}{vs:List V}(Ù:ę (kk X cm) c F1 H1 Y O1)(r1:Û (kk X cm) F1 qs vs)
 (h:Œ (kk X cm) E c F1 D (if qs.length+1=n/\qs.length<1000/\fl.length<1000 then(match wH fl qs [] [] with|some (ns,qs)=>.exc ⟨C,ns,qs⟩ O1|none=>.bad) else .bad)) :
 vs.length<=sizeLine/\∀x,H1 x=none->HX n (cm C) fl (.ref x::vs) (upd H1 x (xn x (cm C) none)) (λv H2=>v=.non/\∃d',H2 x=some (xn x (cm C) d')/\E Y (.ref (cm C)) d' (xE H2 x)) (E Y):=by
 split at h
 case isFalse=>exact h.elim
 rename_i hz;cases ex:wH fl qs [] [] with
 |none=>rw[ex] at h;exact h.elim
 |some z=>
  obtain⟨ns,ws⟩:=z;rw[ex] at h;refine⟨by rw[<-Û.length r1,č];lia,λx hx=>?_⟩;obtain⟨fs,e1,e2,e3⟩:=yk (e:=.ref x) r1 (fs:=[]) ex rfl Û.nil;refine⟨x,vs,fs,rfl,by rw[<-Û.length r1];exact hz.1,ã,hz.2.2,e1,λH' d' q1 q2 q3 q4=>⟨rfl,d',q1,?_⟩⟩;have Vq:HU (xE H' x) x d' fs:=by
   rcases q2 with q|⟨d0,z1,z2,z3⟩
   ·exact .inl q
   ·exact .inr ⟨d0,z1,by rw[bg z3.1];exact z2,z3⟩
  obtain⟨F',rl,sF,sH,xd,fx⟩:=HY (Ca:=cm C) Ù hx Vq (λb u hb q=>by rw[bg hb];exact q3 b u hb q) q4;exact h Y _ _ F' _ rl sF ⟨rfl,fs,xd,e2,Û.same sF _ _ e3,λz=>by
   rcases q2 with⟨q,_⟩|⟨d0,_,_,_,z3⟩
   ·exact q
   ·exact absurd (List.map_eq_nil_iff.mp (e2.trans z)) z3⟩
def ϐ(hc:X.calm=true)(hex:X.ex=[])(hrs:uP X E)(M:GA X.K (cm C) f)(F:Ě X.prog X.w X.K X.mg X.base CX k f fd ps (HX n (cm C) fl))(hr:ϊ (k+1) X.A)(hg:Gl X x)(hm:X.mg x=some (.ref (cm C)))(hb:Binds X.K fd ps [])(hx:ϥ CX X E)
 (ha:PA X (e::es) (tL (kk X cm) E ms))(lq:(x== ("__debug__" :Str))=false:=by decide)(he:Ö (e::es) X.env=(false,eval e X.env)::Ö es X.env:=by exact ώ rfl)(hpl:(ĝ ai (Ö es X.env)).any (·.1)=false:=by rfl) :
 PS X (.Raise (some (.Call (.Name x np) (e::es) [] ai)) none pos) (tS (kk X cm) E (Ĺ C n fl ms)):=by
 intro Ã s Y H D I ⟨c,F',O,rel,h⟩;rw[arm_exec_Raise];refine Ë (cJ ?_);show Î _ _ (iI X.env (some (do let v <-eval (.Call (.Name x np) (e::es) [] ai) X.env;iA pos;ç v)) none) _ _ _;refine GB (K:=X.K) (I.ok.hd hc) (Ë ?_);obtain⟨cd,bm,xc⟩:=cV M.x;obtain⟨dd,k0,k1,k2,k3,k5,lC⟩:=xc.at_;refine Ň (cI (bI I hg hm (kD (h₀:= X.base) I.ok.mod.Hw M.kp (ŝ (ha ai Ã s Y H (λvs H1=>vs.length<=sizeLine/\∀x,H1 x=none->HX n (cm C) fl (.ref x::vs) (upd H1 x (xn x (cm C) none)) (λv H2=>v=.non/\∃d',H2 x=some (xn x (cm C) d')/\E Y (.ref (cm C)) d' (xE H2 x)) (E Y)) I
  ⟨c,F',O,rel,Œ.bindL h fun qs O1 vs F1 H1 Ù _ _ r1 h1=>yl Ù r1 h1⟩) fun us s1 ⟨vs,H1,I1,r,q0,q⟩=>⟨I1.da,BB (G:=fun v s₁=>∃e C oe vs oC,v=.ref e∧X.K.In s₁.heap∧s₁.heap.get? C=some oC∧oC.cls=.type "type" ∧av X.K C (.type "BaseException")=some true∧s₁.heap.get? e=some oe∧oe.cls=.ref C∧oe.data=.fields vs∧vs[1]?=some .none∧X.xe (.ref e) s₁)
    M F hr hb hx I1 r (by rw[<-ĭ.length r];exact q0) q λy H2 s' _ jS I3 ⟨d',h1,h2⟩=>?_⟩) he hpl) lq)) (λv s3 h3=>Ë (cJ (â h3))) λ_ _ z=>z
 obtain⟨⟨oe,ws,ho,ze,qV,xC,KL⟩,_,_⟩:=(show Ť X.prog X.w H2 s'.heap y (xn y (cm C) d') from I3.hok y _ h1);refine⟨y,cm C,oe,ws,_,rfl,I3.da,I3.da _ _ lC,rfl,xc.mroIs (by decide),ho,ze,xC,KL.1,?_⟩;exact hrs Ã Y (xE H2 y) s' y oe ws (Inv.drop I3 h1) ho xC KL.1 (λ_=>KL.2.1) hZ (Inv.Mr I1 hex jS) (by rw[ze,qV];exact h2)
noncomputable def wJ(cs:List String)(f:Str):PV->Option PV
 | .xc C ns ps=>if cs.contains C=true then(ns.zip ps).lookup f else none
 |_=>none
def DK{fn:Str}{m:M PV}(cs:List String)(R1:aV (λC=>Ϯ X.K (cm C)=true/\ċ X.K (cm C) fn) cs)(he:PE X e (tV (kk X cm) E m))(hb:bB e fn X.env (eval e X.env)=eval e X.env:=by rfl):PE X (.Attribute e fn pos) (tV (kk X cm) E (B7 (wJ cs fn) m)):=by
 intro Ã s Y H Q I ⟨c,F,O,rel,h⟩;refine Ab hb (ŝ (he Ã s Y H (λx H1=>∃a C d d0 fs v,x=.ref a/\H1 a=some (xo a C d)/\d=some d0/\H1 d0=some (.xd fs)/\Ϯ X.K C=true/\ċ X.K C fn/\fs.lookup fn=some v/\Q v H1) I ⟨c,F,O,rel,h.bind λp O1 v F1 H1 Ù _ _ r1 h1=>?_⟩) λu s1 ⟨x,H1,I1,rx,a,C,d,d0,fs,v,ex,e1,e2,e3,k1,k2,l,q⟩=>?_)
 ·cases p with
  |xc C ns ps=>
   unfold wJ at h1;dsimp only at h1;split at h1
   ·rename_i hc;have r2:Ć (kk X cm) F1 (.xc C ns ps) v:=r1;unfold Ć at r2;obtain⟨a,d,fs,rfl,q2,q3,q4,q5⟩:=r2;cases el:(ns.zip ps).lookup fn with
    |none=>rw[el] at h1;exact h1.elim
    |some q=>
     rw[el] at h1;subst q4;obtain⟨v,e1,e2⟩:=jD q5 el;obtain⟨k1,k2⟩:=R1.get hc;rcases q3 with⟨_,rfl⟩|⟨d0,z1,z2⟩
     ·cases e1
     ·exact⟨a,_,d,d0,fs,v,rfl,Ù.sub _ _ q2,z1,Ù.sub _ _ z2,k1,k2,e1,h1 v F1 H1 Ù Ď Ď e2⟩
   ·exact h1.elim
  |_=>exact h1.elim
 ·subst ex e2;obtain rfl:u=ă a:=rx;obtain⟨cd,bm,xc⟩:=cV k1;obtain⟨⟨o,ws,ho,ze,qV,xC⟩,_,_⟩:=(show Ť X.prog X.w H1 s1.heap a (xo a C (some d0)) from I1.hok a _ e1);obtain⟨mA,vV,r⟩:=(show Ť X.prog X.w H1 s1.heap d0 (.xd fs) from I1.hok d0 _ e3);obtain⟨od,W6,hlk⟩:=ly vV;obtain⟨u,hu,ru⟩:=kE.some_of (v:=v) (o:=mA fn) (by rw[<-l];exact r fn);obtain⟨Hr,xD,Be,qS⟩:=o;dsimp only at ze qV xC;subst ze qV xC;exact Vn I1.da (ox:=⟨.ref C,some d0,.fields ws,qS⟩) (od:=od) ⟨ho,rfl,rfl,W6⟩ xc k2 (by rw[hlk,hu]) (qY ru) ⟨v,H1,I1.tok _,ru,q⟩
end
def eB(K:É)(C:À):Bool:=Ϯ K C && Ĭ K (.ref C) "__class__" == some (some (.builtin "object.__class__")) && ue K (.builtin "object.__class__") "__get__" == some (some (.builtin "getset_descriptor.__get__")) && uf K (.builtin "object.__class__")== some true
def oZ{K:É}{C:À}(q:eB K C=true):Ϯ K C=true/\Ĭ K (.ref C) "__class__" =some (some (.builtin "object.__class__"))/\ue K (.builtin "object.__class__") "__get__" =some (some (.builtin "getset_descriptor.__get__"))/\uf K (.builtin "object.__class__")=some true:=by unfold eB at q;simp only[ē,beq_iff_eq] at q;obtain⟨⟨⟨z1,z2⟩,z3⟩,z4⟩:=q;exact⟨z1,z2,z3,z4⟩
section
variable{prog:Þ}{w:Ø}{A:à}{E:Á->Â->Prop}{s:Â}{K:É}{x C:À}{ox:Obj}{od:Option Obj}
def GC{R:dQ->Â->Prop}{tk:Tok}(X:K.In s.heap)(I:bG s.heap x ox C od)(q:eB K C=true)
 (h:R (.ok (.ret (.ref C))) s):Ϝ (Ì prog w) A (.call (.builtin "BaseException.__getattribute__") ⟨[.ref x,.str "__class__" tk],[]⟩) R s:=by
 obtain⟨q0,q1,q2,q3⟩:=oZ q;obtain⟨cd,bm,c⟩:=cV q0;have hk:builtinKind "BaseException.__getattribute__" =some .slot:=by decide +kernel
 have vX:splitId "BaseException.__getattribute__" =some ("BaseException","__getattribute__"):=by decide +kernel
 have L0:=I.type (M:=Ì prog w);have hf:PySem.W.findObj K C od "__class__" =some (.bind (.builtin "getset_descriptor.__get__") (.builtin "object.__class__")):=by unfold PySem.W.findObj;rw[c.cls,sQ,q1,sQ];simp[q2,q3]
 have L3:=uk (M:=Ì prog w) X I hf;have B0:dY (Ì prog w) s.heap (iG (.ref x) (.type "BaseException")) true:=L0.andThen (fT X (c.mroIs (by decide)));refine ku nC.ga.plain zG (@uj (Ì prog w) _ _ s "BaseException.__getattribute__" "BaseException" "__getattribute__" (.ref x) [.str "__class__" tk] [] _ hk vX B0 (zH (.ref x) (.str "__class__" tk)) ?_);unfold dU.«object.__getattribute__»;refine Ë (â (Ë (â (Ë (L0.here (Ë (L3.here ?_)))))));refine Ë (aJ (cK (PySem.W.class_get X I (c.mroIs (by decide)) ?_)));exact â h
def DM{Q:Option Á->Â->Prop}(X:K.In s.heap)(I:bG s.heap x ox C od)(q:eB K C=true)
 (h:Q (some (.ref C)) {s with toks:=s.toks+1}):Î (Ì prog w) A (getAttr? (.ref x) "__class__") Q E s:=by
 obtain⟨q0,q1,q2,q3⟩:=oZ q;obtain⟨cd,bm,c⟩:=cV q0;have FB:=nC;obtain⟨hp,g,d,t,os⟩:=s;have L0:=I.type (M:=Ì prog w);have L1:=fQ (M:=Ì prog w) X c.ga;have L2:=fQ (M:=Ì prog w) X c.gg;unfold getAttr? getAttrBy? getAttrBy;refine Ë (wpAny_mkText (Ë (kv (aJ (Ë (L0.at (Ë (L1.at ?_))))))));show Î _ _ (nu _ _ _ _ _ _) _ _ _;have f3:=FB.ga.bind (.ref x);unfold nu hookBefore callGetattribute;refine Ë (L2.at ?_);refine Ë (kv (aJ ?_));rw[if_neg (by decide)];unfold boundAndCalled;rw[f3];refine Ë (â (cK ?_));exact GC (s:=⟨hp,g,d,t+1,os⟩) X I q (show Î _ _ (handedOut (.ref C)) _ _ _ by rw[zW rfl];exact â (â h))
end
def DN{K:É}{x D:À}(q:eB K D=true):PySem.W.KitX K (.ref x) (.ref D) (λh=>∃ox od,bG h x ox D od):=by
 obtain⟨q0,q1,q2,q3⟩:=oZ q;obtain⟨cd,bm,c⟩:=cV q0;obtain⟨dd,k0,k1,k2,k3,k5,lC⟩:=c.at_;refine⟨λ_ _ _ ⟨ox,od,I⟩=>I.type,λ_ _ X _=>?_,λh tp dd ě n sl X htp=>?_,λX ⟨ox,od,I⟩ k=>DM X I q k⟩
 ·intro A' Q' E' s' k q;unfold isType loadHead;exact Ë (nn (k _ _ (X _ _ lC)) (â q))
 ·refine Bool.eq_false_iff.mpr λq=>?_;have e:D=tp:=Value.ref.inj (beq_iff_eq.mp q);subst e;have z:=congrArg Obj.cls (Š ((X _ _ lC).symm.trans htp));exact absurd (tK z) (by decide)
section
variable{X:Cx}{cm:String->À}{K:KK}
def HZ(K:É):List V->Hp->VK->Prop:=λxs H Q=>AD K xs H Q\/∃a C d fs c cv b,xs=[.ref a,c]/\RelV c cv/\(∀u,RelV c u->u=cv)/\H a=some (xo a C d)/\oG H d fs/\eB K C=true/\ŀ K (.ref C) cv=some b/\Q (.bl b) H
def cW:Ŝ X (.builtin "isinstance") (HZ X.K):=by
 intro Ã s Y H xs us Q I r h;rcases h with h|⟨a,C,d,fs,c,cv,b,rfl,rc,uq,ha,hD,q,hk,hQ⟩
 ·exact Mg Ã s Y H xs us Q I r h
 ·obtain⟨u,w',rfl,r1,r2⟩:=vals2 r;cases(show u=ă a from r1);rw[uq w' r2];obtain⟨⟨o,ws,ho,ze,qV,xC⟩,_,_⟩:=(show Ť X.prog X.w H s.heap a (xo a C d) from I.hok a _ ha);obtain⟨Hr,xD,Be,qS⟩:=o;dsimp only at ze qV xC;subst ze qV xC;have J:∃ox od,bG s.heap a ox C od:=by
   rcases hD with⟨rfl,_⟩|⟨d0,rfl,z⟩
   ·exact⟨_,none,ho,rfl,rfl,trivial⟩
   ·obtain⟨od,z'⟩:=wA (I.hok d0 _ z);exact⟨_,some od,ho,rfl,rfl,z'⟩
  exact ϡ (DN q) I.da J hk (λz=>nomatch z) λtk=>⟨.bl b,H,I.tok _,rfl,hQ⟩
def uQ(Q:String->String->Bool->Prop):List ((String×String)×Bool)->Prop
 | []=>True
 |((c,d),b)::r=>Q c d b/\uQ Q r
theorem uQ.get{Q:String->String->Bool->Prop}:∀{t:List ((String×String)×Bool)} {c d:String} {b:Bool},uQ Q t->t.lookup (c,d)=some b->Q c d b
 | [],_,_,_,_,h=>by simp at h
 |((c',d'),b')::r,c,d,b,⟨h1,h2⟩,h=>by
  rw[ņ] at h;cases e:(c,d)== (c',d') with
  |true=>rw[e] at h;cases h;obtain⟨rfl,rfl⟩:=Prod.mk.inj (beq_iff_eq.mp e);exact h1
  |false=>rw[e] at h;exact h2.get h
def dq(tc tt:List ((String×String)×Bool))(ds nt:List String):List PV->Option PV
 | [.xc C _ _,.cls D]=>(tc.lookup (C,D)).map .bl
 | [.xc C _ _,.ty D]=>(tt.lookup (C,D)).map .bl
 | [.non,.cls D]=>if ds.contains D=true then some (.bl false) else none
 | [.non,.ty D]=>if nt.contains D=true then some (.bl false) else Dp [.non,.ty D]
 |ps=>Dp ps
def cX{tc tt:List ((String×String)×Bool)}{ds nt:List String}(hc:uQ (λC D b=>eB K.K (K.cm C)=true/\ŀ K.K (.ref (K.cm C)) (.ref (K.cm D))=some b) tc)
 (ht:uQ (λC D b=>eB K.K (K.cm C)=true/\ŀ K.K (.ref (K.cm C)) (.type D)=some b) tt)(hd:aV (λD=>ŀ K.K (.type "NoneType") (.ref (K.cm D))=some false) ds)
 (hn:aV (λD=>ŀ K.K (.type "NoneType") (.type D)=some false) nt):dh K (HZ K.K) (dq tc tt ds nt):=by
 intro c F H Y O ps pv vs Q rel r e k;unfold dq at e;split at e
 ·rename_i C ns qs D;obtain⟨v,u,rfl,r1,r2⟩:=OW r;cases eb:tc.lookup (C,D) with
  |none=>rw[eb] at e;cases e
  |some b=>
   rw[eb] at e;cases e;obtain⟨k1,k2⟩:=hc.get eb;have jc:Ć K F (.xc C ns qs) v:=by rcases r1 with q|q;exact q;exact q.elim
   have KN:Ć K F (.cls D) u:=by rcases r2 with q|q;exact q;exact q.elim
   unfold Ć at jc KN;obtain⟨a,d,fs,rfl,q2,q3,q4,q5⟩:=jc;subst KN;exact .inr ⟨a,_,d,fs,_,.ref (K.cm D),b,rfl,rfl,λu z=>z,rel.sub _ _ q2,q3.same rel.sub,k1,k2,k _ F H rel Ď Ď Ć.bl⟩
 ·rename_i C ns qs D;obtain⟨v,u,rfl,r1,r2⟩:=OW r;cases eb:tt.lookup (C,D) with
  |none=>rw[eb] at e;cases e
  |some b=>
   rw[eb] at e;cases e;obtain⟨k1,k2⟩:=ht.get eb;have jc:Ć K F (.xc C ns qs) v:=by rcases r1 with q|q;exact q;exact q.elim
   have KN:Ć K F (.ty D) u:=by rcases r2 with q|q;exact q;exact q.elim
   unfold Ć at jc KN;obtain⟨a,d,fs,rfl,q2,q3,q4,q5⟩:=jc;subst KN;exact .inr ⟨a,_,d,fs,_,.type D,b,rfl,rfl,λu z=>z,rel.sub _ _ q2,q3.same rel.sub,k1,k2,k _ F H rel Ď Ď Ć.bl⟩
 ·rename_i D;obtain⟨v,u,rfl,r1,r2⟩:=OW r;split at e
  ·rename_i hD;cases e;cases r1.non;have KN:Ć K F (.cls D) u:=by rcases r2 with q|q;exact q;exact q.elim
   unfold Ć at KN;subst KN;exact .inl ⟨_,false,rfl,hd.get hD,k _ F H rel Ď Ď Ć.bl⟩
  ·cases e
 ·rename_i D;split at e
  ·rename_i hD;obtain⟨v,u,rfl,r1,r2⟩:=OW r;cases e;cases r1.non;cases r2.ty;exact .inl ⟨_,false,rfl,hn.get hD,k _ F H rel Ď Ď Ć.bl⟩
  ·exact .inl (Dq rel r e k)
 ·exact .inl (Dq rel r e k)
end
noncomputable def Mt(K:É)(cm:String->À)(cs:List String)(D:String)(b:Bool):Bool:=match cs with
 | []=>true
 |c::r=>aM K (.ref (cm c)) (.ref (cm D))== some b && Mt K cm r D b
theorem kR{K:É}{cm:String->À}{D:String}{b:Bool}:∀{cs:List String},Mt K cm cs D b=true->aV (λc=>aM K (.ref (cm c)) (.ref (cm D))=some b) cs
 | [],_=>trivial
 |c::r,h=>by unfold Mt at h;rw[ē] at h;exact⟨beq_iff_eq.mp h.1,kR h.2⟩
noncomputable def W7(K:É)(cm:String->À):List ((String×String)×Bool)->Bool
 | []=>true
 |((c,d),b)::r=>eB K (cm c) && ŀ K (.ref (cm c)) (.ref (cm d))== some b && W7 K cm r
theorem DO{K:É}{cm:String->À}:∀{t:List ((String×String)×Bool)},W7 K cm t=true->uQ (λC D b=>eB K (cm C)=true/\ŀ K (.ref (cm C)) (.ref (cm D))=some b) t
 | [],_=>trivial
 |((c,d),b)::r,h=>by unfold W7 at h;rw[ē,ē] at h;exact⟨⟨h.1.1,beq_iff_eq.mp h.1.2⟩,DO h.2⟩
noncomputable def Vr(K:É)(cm:String->À):List ((String×String)×Bool)->Bool
 | []=>true
 |((c,d),b)::r=>eB K (cm c) && ŀ K (.ref (cm c)) (.type d)== some b && Vr K cm r
theorem DP{K:É}{cm:String->À}:∀{t:List ((String×String)×Bool)},Vr K cm t=true->uQ (λC D b=>eB K (cm C)=true/\ŀ K (.ref (cm C)) (.type D)=some b) t
 | [],_=>trivial
 |((c,d),b)::r,h=>by unfold Vr at h;rw[ē,ē] at h;exact⟨⟨h.1.1,beq_iff_eq.mp h.1.2⟩,DP h.2⟩
noncomputable def W8(K:É)(cm:String->À):List String->Bool
 | []=>true
 |d::r=>ŀ K (.type "NoneType") (.ref (cm d))== some false && W8 K cm r
theorem DQ{K:É}{cm:String->À}:∀{t:List String},W8 K cm t=true->aV (λD=>ŀ K (.type "NoneType") (.ref (cm D))=some false) t
 | [],_=>trivial
 |d::r,h=>by unfold W8 at h;rw[ē] at h;exact⟨beq_iff_eq.mp h.1,DQ h.2⟩
def Mu(K:É):List String->Bool
 | []=>true
 |d::r=>ŀ K (.type "NoneType") (.type d)== some false && Mu K r
theorem AL{K:É}:∀{t:List String},Mu K t=true->aV (λD=>ŀ K (.type "NoneType") (.type D)=some false) t
 | [],_=>trivial
 |d::r,h=>by unfold Mu at h;rw[ē] at h;exact⟨beq_iff_eq.mp h.1,AL h.2⟩
def H_(K:É)(C f:À):Bool:=Ϯ K C && Ţ K (.ref C) && Ĭ K (.ref C) "__init__" == some (some (.ref f)) && nL K (.ref f)== some (.type "function")
def uR{K:É}{C f:À}(h:H_ K C f=true):GA K C f:=by unfold H_ at h;simp only[ē,beq_iff_eq] at h;exact⟨h.1.1.1,h.1.1.2,h.1.2,h.2⟩
def BC{l:fR}{k:Nat}{x:Str}{m:MF}{q:Þ}{jx:List Str}{XP:(Str->Option Á)->Ð->Prop}{YP:Ø->Ð->Prop}{d:DefRec}{K:Params->É}(hn:l.most=some 63)(Ov:d.params.defaults=[])(hr:ϊ k dR)
 (hY:∀(w:Ø) (h:Ð),YP w h->(K w.params).In h)
 (F:∀(w:Ø) (mg:Str→Option Á) (fa:À) (h:Ð),(K w.params).In h→h.Ns Ϛ mg→mg d.name=some (.ref fa)→
   ∃fd:Ė,(∀(s:Â) (u:Á),cG s fd ⟨[u],[]⟩ [(x,u)])/\∀base:Ð,(K w.params).In base->base.Ns Ϛ mg->∃cm,Ě l.prog w (K w.params) mg base (ϭ l.prog w) k fa fd [x] (bM ⟨K w.params,cm⟩ 1 m))
 (ht:∀ns:List Int,ns.length<=63->m [.sh (.lst (ns.map .int))]=.ret (.sh (.bl true)))
 (RT:bQ≠[]->∀w:Ø,ui (K w.params)=true:=by intro z;exact absurd rfl z)(B_:∀y z,y∈bQ->z∈bQ->y=z:=by simp[bQ])(Oz:∀y,y∈bQ->∃d,(recsOf q).find? (λe=>e.name== y)=some d:=by simp[bQ]) :
 nM q jx XP YP l.row.toRowW d [] (λf vs=>nq f vs):=by
 refine L2.FU (n:=63) (k:=k) (x:=x) (CX:=λw=>ϭ l.prog w) (sp:=λw=>Qc (K w.params)) hn (by decide) Ov hr hY (λw mg fa h h1 h2 h3=>?_) (λw H a ns hl _ hS=>⟨a,ns,rfl,hS,hl,λ_ _ z=>z⟩) (λw H s e s' z=>rP z) RT B_ Oz;obtain⟨fd,hb,hF⟩:=F w mg fa h h1 h2 h3;refine⟨fd,hb,λbase k1 k2=>?_⟩;obtain⟨cm,G⟩:=hF base k1 k2;refine G.imp λvs H Q E hs=>?_;obtain⟨sa,ns,rfl,hS,hl,hq⟩:=hs;refine⟨H,[.sh (.lst (ns.map .int))],rfl,Õ.refl _,.cons ?_ .nil,?_⟩
 ·show Ć _ _ _ _;unfold Ć;exact⟨sa,_,rfl,hS,wx ns⟩
 ·rw[ht ns hl];intro v F' H' g rf;have e:v=.bl true:=oO (K:=⟨K w.params,cm⟩) (F:=F') rf;exact hq v H' e
section
variable{O:ć}{C:String}{i:Nat}{mh:M Fl}{mr:MH}{xJ no:List String}{x:PX}
@[simp] theorem Vs:nV i xJ no mh mr x O=(if xJ.contains x.C=true then(match mh (O.set i (.sh (.xc x.C x.ns x.ps))) with
  | .ok f O2=>.ok f (O2.set i .no)
  |_=>.bad) else if no.contains x.C=true then mr x O else .bad):=rfl
end
section
end
@[simp] def Vt(C:String)(n:Nat)(fl:List (Str×Nat))(ms:M (List PV))(O:ć):ĳ Fl:= match ms O with
  | .ok qs O1=>if qs.length+1=n∧qs.length<1000∧fl.length<1000 then(match wH fl qs [] [] with
    |some (ns,ws)=>if ns=[] then .bad else .exc ⟨C,ns,ws⟩ O1
    |none=>.bad) else .bad
  |_=>.bad
noncomputable def uS(xJ no:List String)(mh:M Fl)(ü:MH):MH:=λx O=>if xJ.contains x.C=true then(if x.ns=[] then mh O else .bad) else if no.contains x.C=true then ü x O else .bad
@[simp] theorem Vu{xJ no:List String}{mh:M Fl}{mr:MH}{O:ć}{x:PX}:uS xJ no mh mr x O=(if xJ.contains x.C=true then(if x.ns=[] then mh O else .bad) else if no.contains x.C=true then mr x O else .bad):=rfl
section
variable{prog:Þ}{w:Ø}{A:à}{E:Á->Â->Prop}{s:Â}{K:É}{env:Env}
def qD:entryFor table "proto.unchain" =some dU.«proto.unchain» := entryFor_of_tree (by kernel_rfl)
def DR{x c:Sem Á}{Q:Flow->Â->Prop}{hd:À}(hh:A.handled=some (.ref hd))(hc:∀{Q:Á->Â->Prop} {s:Â},Q .none s->Î (Ì prog w) A c Q E s)
 (h:Î (Ì prog w) A x (λv s₁=>∃e C oe vs oC oh ws,v=.ref e/\K.In s₁.heap/\s₁.heap.get? C=some oC/\oC.cls=.type "type" /\av K C (.type "BaseException")=some true/\s₁.heap.get? e=some oe/\oe.cls=.ref C/\oe.data=.fields vs/\vs[1]?=some .none/\4<vs.size/\hd≠e/\s₁.heap.get? hd=some oh/\oh.data=.fields ws/\ws[2]?=some .none/\∀h' jh,h'.get? e=some {oe with data:=.fields jh}->jh[1]?=some .none->(∀b,b≠e->h'.get? b=s₁.heap.get? b)->E (.ref e) {s₁ with heap:=h'}) E s) :
 Î (Ì prog w) A (iI env (some x) (some c)) Q E s:=by
 unfold iI;refine Ë (Ň h (λv s₁ h₁=>?_) λ_ _ x=>x);obtain⟨e,C,oe,vs,oC,oh,ws,rfl,KX,hC,Qp,hm,he,TU,hd1,h1,h4,qU,hoh,hdh,h2,hE⟩:=h₁;have L4:=fT (M:=Ì prog w) KX hm;obtain⟨hp,g,d,tk,os⟩:=s₁;obtain⟨Hr,xD,Be,qS⟩:=oe;dsimp only at TU hd1;subst TU hd1;refine Ë (aJ (hc ?_));refine Ë (â ?_);dsimp only
 repeat (first|with_reducible refine cL he ?_|(with_reducible refine cL hC ?_;rw[Qp])|with_reducible refine PySem.W.Looks.at L4 ?_|with_reducible refine Ř he rfl h1 ?_|wp_step)
 have hCe:C≠e:=λz=>by subst z;rw[he] at hC;cases hC;cases Qp
 have z3:3<vs.size:=by lia
 rw[if_pos z3];refine wpAny_update he ?_;have e1:=bE (Ϡ (·.setIfInBounds 3 Value.none)) he (cO (Ϸ rfl _));have o1:∀b,b≠e->(hp.update e (Ϡ (·.setIfInBounds 3 Value.none))).get? b=hp.get? b:=λb hb=>cM _ _ (Đ hb);dsimp only at e1 ⊢;refine Ë (iF e1 (Ϸ rfl _) (by simp;lia) ?_);have e2:=bE (Ϡ (·.setIfInBounds 4 (ŉ true))) e1 (cO (Ϸ (Ϸ rfl _) _));have o2:∀b,b≠e->((hp.update e (Ϡ (·.setIfInBounds 3 Value.none))).update e (Ϡ (·.setIfInBounds 4 (ŉ true)))).get? b=hp.get? b:=λb hb=>(cM _ _ (Đ hb)).trans (o1 b hb);dsimp only at e2 o2 ⊢;clear o1 e1;generalize (hp.update e (Ϡ (·.setIfInBounds 3 Value.none))).update e (Ϡ (·.setIfInBounds 4 (ŉ true)))=W9 at*;have Qqq8:W9.get? e=some {cls:=.ref C,dict:=xD,data:=.fields ((vs.setIfInBounds 3 Value.none).setIfInBounds 4 (ŉ true)),slots:=qS}:=e2;have h12:((vs.setIfInBounds 3 Value.none).setIfInBounds 4 (ŉ true))[1]?=some Value.none:=by rw[mX (by decide),mX (by decide)];exact h1
 have h42:4<((vs.setIfInBounds 3 Value.none).setIfInBounds 4 (ŉ true)).size:=by simp;lia
 clear e2;generalize (vs.setIfInBounds 3 Value.none).setIfInBounds 4 (ŉ true)=vs2 at*;have hC2:W9.get? C=some oC:=(o2 C hCe).trans hC;have Vv:W9.get? hd=some oh:=(o2 hd qU).trans hoh
 repeat (first|with_reducible refine cL Qqq8 ?_|(with_reducible refine cL hC2 ?_;rw[Qp])|with_reducible refine Ř Qqq8 rfl h12 ?_|wp_step)
 unfold raiseNew;refine Ë (wpAny_handled ?_);rw[hh];dsimp only;rw[if_pos (show(ă hd != ă e)=true by simpa using qU)];refine Ë (aJ (wpAny_runValue (codeAny_builtin qD ?_)));unfold dU.«proto.unchain»;dsimp only;refine Ë (Ř Vv hdh h2 ?_);rw[if_pos (show(Value.none== Value.none)=true from rfl)];unfold ret;refine â ?_;dsimp only;have z2:2<vs2.size:=by lia
 refine Ë (iF (x:=.ref hd) Qqq8 rfl z2 ?_);have e3:=bE (Ϡ (·.setIfInBounds 2 (ă hd))) Qqq8 (cO (Ϸ rfl _));refine wpAny_throw (hE _ (vs2.setIfInBounds 2 (ă hd)) e3 ?_ λb hb=>?_)
 ·rw[mX (by decide)];exact h12
 ·exact(cM _ _ (Đ hb)).trans (o2 b hb)
end
section
variable{P:Þ}{w:Ø}{K:É}{mg:Str->Option Á}{base:Ð}{N:List Str}{ý:Str}{scope:õ}{f:À}{ĺ:Á}{A:à}{outer:List Env}{s₀:Â}{H₀:Hp}{E:XK}
def Mv{v:Option Á}{E':Á->Â->Prop}{Ã:List (À×Obj)}{Y:Ą}{H:Hp}{s:Â}{e:À}{oe:Obj}{vs:Array Á}(I:Inv (ŭ (ϭ P w) P w K mg base N ý scope f ĺ A outer s₀ H₀ E) Ã Y H s)
 (he:s.heap.get? e=some oe)(hd:oe.data=.fields vs)(h1:vs[1]?=some .none)(h2:oe.dict=none->vs[2]?=some .none)(hn:H e=none)(jS:s₀.heap.get? e=none)(hE:E oe.cls oe.dict H) :
 Î (Ì P w) ((ŭ (ϭ P w) P w K mg base N ý scope f ĺ A outer s₀ H₀ E).A.mark v) (aI (.ref e) (ŭ (ϭ P w) P w K mg base N ý scope f ĺ A outer s₀ H₀ E).env) (λ_ s₂=>nv (Ì P w) (ŭ (ϭ P w) P w K mg base N ý scope f ĺ A outer s₀ H₀ E).A (ŭ (ϭ P w) P w K mg base N ý scope f ĺ A outer s₀ H₀ E).env (ŭ (ϭ P w) P w K mg base N ý scope f ĺ A outer s₀ H₀ E).xe (.ref e) s₂) E' s:=by
 have zc:(A.deeper (ú ý scope s₀.heap.objs.size f ĺ)).frames=some (ú ý scope s₀.heap.objs.size f ĺ::outer):=I.ok.frames;have st:s.heap.FunFrames base (ú ý scope s₀.heap.objs.size f ĺ::outer):=I.stack;have nof:e∉gI (ú ý scope s₀.heap.objs.size f ĺ::outer):=λz=>by obtain⟨_,o,q,hn⟩:=st.mem z;rw[he] at q;cases q;exact hn vs hd
 have W1:∀env∈(ú ý scope s₀.heap.objs.size f ĺ::outer),∀a,env.frame=some a->a∈e::gI (ú ý scope s₀.heap.objs.size f ĺ::outer):=λenv h1 a h2=>í _ (mZ.mpr ⟨env,h1,h2⟩);have hl:s.heap.FunFrames (cQ s.heap (e::gI (ú ý scope s₀.heap.objs.size f ĺ::outer))) (ú ý scope s₀.heap.objs.size f ĺ::outer):=zT st W1;have hB:∀b o,s.heap.get? b=some o->b≠e->b∉gI (ú ý scope s₀.heap.objs.size f ĺ::outer)->(cQ s.heap (e::gI (ú ý scope s₀.heap.objs.size f ĺ::outer))).get? b=some o:=λb o q h1 h2=>
  tN _ q λz=>(Č.mp z).elim h1 h2
 have B5:∀b o,s₀.heap.get? b=some o->b∉gI outer->b∉gI (ú ý scope s₀.heap.objs.size f ĺ::outer):=λb o q hb z=>by
  rcases Č.mp (show b∈s₀.heap.objs.size::gI outer from z) with z|z
  ·exact absurd (ñ q) (by rw[z];exact ϱ _)
  ·exact hb z
 have W2:∀b o,s₀.heap.get? b=some o->b≠e:=λb o q z=>by rw[z,jS] at q;cases q
 have kb:(cQ s.heap (e::gI (ú ý scope s₀.heap.objs.size f ĺ::outer))).StaysIn s.heap:=λb o q=>tQ _ q;have en:(cQ s.heap (e::gI (ú ý scope s₀.heap.objs.size f ĺ::outer))).get? e=none:=tU _ ű;refine AH (s:=s) zc hl rfl he kb en hd h1 h2 λg1 x1 x2 x3 x4=>?_;obtain⟨oe1,vs1,T,oT,ts,f1,f2,f3,f4,_⟩:=id x3;unfold nv;refine Ë (Ř (s:={s with heap:=g1}) f1 f3 f4 ?_);rw[if_neg (show ¬((ă T== Value.none)=true) by simp)];refine Gu (s:={s with heap:=g1}) (L:=s₀.heap.objs.size) x1 x2 x3 λg3 u1 u2 u3 u4=>?_;show Î _ _ (fF _ _) _ _ _;unfold fF;refine Ë (DF (s:={s with heap:=g3}) rfl u3 ?_);refine iV (s:={s with heap:=g3}) u1 u2 u3 λg2 y1 y2 y3 y4=>?_;obtain⟨_,_,Qk⟩:=y2;have mv:=(x4.trans u4).trans y4;refine⟨e,oe.cls,oe.dict,H,_,rfl,⟨I.os,I.bare,y1,en,Qk,y3,?_,⟨λb o q n hb=>?_,λb o q n hb=>?_,λb o q n=>?_,λb o q=>?_,I.base.tups,I.base.eI,I.base.c_⟩,hn,jS⟩,hE⟩
 ·refine cZ.sub I.hok λb o u hu q=>hB b o q (λz=>by rw[z,hn] at hu;cases hu) λz=>?_;have:=I.nN b z;rw[hu] at this;cases this
 ·exact hB b o (I.base.keep b o q n hb (by simp[ŭ])) (W2 b o q) (B5 b o q hb)
 ·obtain⟨sl,q1⟩:=I.base.slot b o q n hb (by simp[ŭ]);have nf:∀vs,o.data≠ .fields vs:=by
   obtain⟨_,o',q3,hn⟩:=st.mem (í _ hb);rw[q1] at q3;cases q3;exact hn
  obtain⟨Mn,q3⟩:=mv.up b _ q1 nf;exact⟨Mn,q3⟩
 ·exact I.base.free b o q n (by simp[ŭ])
 ·obtain⟨o1,q1⟩:=I.base.there b o q (by simp[ŭ]);exact mv.there b o1 q1
end
def AM(X:Cx)(E:Ą->XK):Prop:=∀(Ã:List (À×Obj)) (Y:Ą) (H:Hp) (s:Â) (e:À) (oe:Obj) (vs:Array Á) (v:Option Á) (E':Á->Â->Prop),Inv X Ã Y H s->s.heap.get? e=some oe->oe.data=.fields vs->vs[1]?=some .none->(oe.dict=none->vs[2]?=some .none)->H e=none->
 X.s₀.heap.get? e=none->E Y oe.cls oe.dict H->Î (Ì X.prog X.w) (X.A.mark v) (aI (.ref e) X.env) (λ_ s₂=>nv (Ì X.prog X.w) X.A X.env X.xe (.ref e) s₂) E' s
def GD{P:Þ}{w:Ø}{K:É}{mg:Str->Option Á}{base:Ð}{N:List Str}{ý:Str}{scope:õ}{f:À}{ĺ:Á}{A:à}{outer:List Env}{s₀:Â}{H₀:Hp}{E:XK} :
 AM (ŭ (ϭ P w) P w K mg base N ý scope f ĺ A outer s₀ H₀ E) (λ_=>E):=λ_ _ _ _ _ _ _ _ _ I he hd h1 h2 hn jS hE=>Mv I he hd h1 h2 hn jS hE
def Mw(a:À):HO:=.ext λh=>∃o vs,h.get? a=some o/\o.data=.fields vs/\vs[2]?=some .none
def cZ.Vw{P:Þ}{w:Ø}{H:Hp}{h:Ð}{ea:À}{oe:Obj}{vs:Array Á}(k:cZ P w H h)(hn:H ea=none)(he:h.get? ea=some oe)(hd:oe.data=.fields vs)(h2:vs[2]?=some .none):cZ P w (upd H ea (Mw ea)) h:=λb u e=>by
 by_cases hb:b=ea
 ·subst hb;rw[ã] at e;cases e;refine⟨⟨oe,vs,he,hd,h2⟩,⟨oe,he⟩,?_⟩;rintro h1 h2 ⟨o,ws,q1,q2⟩ kk;exact⟨o,ws,kk o q1,q2⟩
 ·rw[Ú hb] at e;exact(k b u e).stay (λ_ _ _ q=>q) (λc q=>by rw[Ú (é q hn)];exact q) (λc xs q=>by rw[Ú (é q hn)];exact q) λc xs q=>by rw[Ú (é q hn)];exact q
section
variable{X:Cx}{cm:String->À}{E:Ą->XK}{Ã:List (À×Obj)}{Y:Ą}{H Hc:Hp}{s sc:Â}{ea:À}{Cv:Á}{d:Option À}{B:Ð}
def DT(I:Inv X Ã Y Hc sc){fl:Á}(l:vW X.prog X.w X.stack Hc sc ea Cv d fl H B s)(dn:d=none):Inv X Ã Y (upd H ea (Mw ea)) s:=by
 obtain⟨oe,vs,T,oT,ts,he,⟨hc,qV⟩,hd,_,_,_,_,_,_,h2⟩:=l.tr;have hw:cZ X.prog X.w (upd H ea (Mw ea)) s.heap:=cZ.Vw (l.hok.kept l.st) l.no he hd (h2 dn);have u:=l.un.un l.st;refine I.call' l.os ⟨u.keep,u.slot,λb o q n hx=>?_,u.there,λb xs q=>?_,λb o v q=>?_,λb ps q=>?_⟩ hw l.bare λb z=>absurd z (by simp)
 ·have hb:b≠ea:=λz=>by rw[z,l.new] at q;cases q
  rw[Ú hb];exact u.free b o q n hx
 ·have q':=u.tups b xs q;rw[Ú (é q' l.no)];exact q'
 ·have q':=u.eI b o v q;rw[Ú (é q' l.no)];exact q'
 ·have q':=u.c_ b ps q;rw[Ú (é q' l.no)];exact q'
variable{C:String}{n:Nat}{fl:List (Str×Nat)}
def wK{E1:XK}{c:Ctx}{F1 H1:Hp}{Y:Ą}{O1:ć}{D:Ends}{qs:List PV}{vs:List V}(Ù:ę (kk X cm) c F1 H1 Y O1)(r1:Û (kk X cm) F1 qs vs)
 (h:Œ (kk X cm) E c F1 D (if qs.length+1=n/\qs.length<1000/\fl.length<1000 then(match wH fl qs [] [] with|some (ns,ws)=>if ns=[] then .bad else .exc ⟨C,ns,ws⟩ O1|none=>.bad) else .bad)) :
 vs.length<=sizeLine/\∀x,H1 x=none->HX n (cm C) fl (.ref x::vs) (upd H1 x (xn x (cm C) none)) (λv H2=>v=.non/\∃d',H2 x=some (xn x (cm C) d')/\E Y (.ref (cm C)) d' (xE H2 x)/\d'≠none/\∀b u,b≠x->H1 b=some u->H2 b=some u) E1:=by
 split at h
 case isFalse=>exact h.elim
 rename_i hz;cases ex:wH fl qs [] [] with
 |none=>rw[ex] at h;exact h.elim
 |some z=>
  obtain⟨ns,ws⟩:=z;rw[ex] at h;dsimp only at h;by_cases vV:ns=[]
  ·rw[if_pos vV] at h;exact h.elim
  rw[if_neg vV] at h;refine⟨by rw[<-Û.length r1,č];lia,λx hx=>?_⟩;obtain⟨fs,e1,e2,e3⟩:=yk (e:=.ref x) r1 (fs:=[]) ex rfl Û.nil;refine⟨x,vs,fs,rfl,by rw[<-Û.length r1];exact hz.1,ã,hz.2.2,e1,λH' d' q1 q2 q3 q4=>⟨rfl,d',q1,?_,λz=>?_,λb u hb hu=>q3 b u hb (by rw[Ú hb];exact hu)⟩⟩
  ·have Vq:HU (xE H' x) x d' fs:=by
    rcases q2 with q|⟨d0,z1,z2,z3⟩
    ·exact .inl q
    ·exact .inr ⟨d0,z1,by rw[bg z3.1];exact z2,z3⟩
   obtain⟨F',rl,sF,sH,xd,fx⟩:=HY (Ca:=cm C) Ù hx Vq (λb u hb q=>by rw[bg hb];exact q3 b u hb q) q4;exact h Y _ _ F' _ rl sF ⟨rfl,fs,xd,e2,Û.same sF _ _ e3,λz=>absurd z vV⟩
  ·rcases q2 with⟨_,q⟩|⟨d0,q,_⟩
   ·rw[q] at e2;exact vV e2.symm
   ·rw[q] at z;cases z
def GF{H:Hp}{a:À}{o:HO}:xE (upd H a o) a=xE H a:=by
 funext b
 by_cases hb:b=a
 ·subst hb;rw[hZ,hZ]
 ·rw[bg hb,bg hb,Ú hb]
end
section
variable{X:Cx}{cm:String->À}{E:Ą->XK}{y x:Str}{Dn C:String}{yp Fn ai np OL cp:Pos}{j:Nat}{ü:List iH}{xJ no:List String}{mr:MH}{n:Nat}{f:À}{fl:List (Str×Nat)}{ms:M (List PV)}{e:Æ}{es:List Æ}
def XRun(X:Cx)(C:À)(n:Nat)(fl:List (Str×Nat)):Prop:=∀(v:Á) (Ã:List (À×Obj)) (Y:Ą) (H:Hp) (s:Â) (G:Á->Â->Prop) (us:List Á) (vs:List V) (T:À->Hp->Prop),Inv (markX X v) Ã Y H s->ĭ vs us->us.length<=sizeLine->
 (∀x,H x=none->HX n C fl (.ref x::vs) (upd H x (xn x C none)) (λu H2=>u=.non/\T x H2) (EF Y))->(∀x H2 s',H x=none->s.heap.get? x=none->Inv (markX X v) Ã Y H2 s'->T x H2->G (.ref x) s')->Î (Ì X.prog X.w) (X.A.mark (some v)) (call (.ref C) us) G (λ_ _=>False) s
def GG(hg:Gl X y)(hm:X.mg y=some (.ref (cm Dn)))(hex:av X.K (cm Dn) (.type "BaseException")=some true)
 (OK:aV (λc=>aM X.K (.ref (cm c)) (.ref (cm Dn))=some true) xJ)(W3:aV (λc=>aM X.K (.ref (cm c)) (.ref (cm Dn))=some false) no)
 (hrt:AM X E)(Vx:X.ex=[])(M:GA X.K (cm C) f)(Xa:XRun X (cm C) n fl)(hg2:Gl X x)(Xb:X.mg x=some (.ref (cm C)))
 (ha:∀v:Á,PA (markX X v) (e::es) (tL (kk X cm) EF ms))(hrest:PH X cm E ü mr)(lq:(y== ("__debug__" :Str))=false:=by decide)(Vy:(x== ("__debug__" :Str))=false:=by decide)
 (he:Ö (e::es) X.env=(false,eval e X.env)::Ö es X.env:=by exact ώ rfl)(hpl:(ĝ ai (Ö es X.env)).any (·.1)=false:=by rfl) :
 PH X cm E (.ExceptHandler (some (.Name y yp)) none [.Raise (some (.Call (.Name x np) (e::es) [] ai)) (some (.Constant .none j cp)) OL] Fn::ü) (uS xJ no (Vt C n fl ms) mr):=by
 intro Ã Y H Hc s sc ea Cv d B D c F0 O px I l rel rx h;have I1:=AJ I l;obtain⟨oe,vs,T,oT,ts,Hf,⟨hc,qV⟩,hd,_⟩:=id l.tr;obtain⟨eC,fs,TN,vV,TQ,Ho⟩:=rx;have R5:oe.cls=.ref (cm px.C):=hc.trans eC;refine wpAny_handleBy_cons (codeAny_handlers_test (bI (X:=markX X (.ref ea)) (Inv.mark I1 (.ref ea)) hg hm ?_ lq)) (by intro q;cases q);unfold uS at h;split at h
 ·rename_i hy;split at h
  ·rename_i KO;have dn:=Ho KO;refine iW I1.da (OK.get hy) hex Hf R5 (codeAny_handlers_suite ?_);refine iV l.st l.fr l.tr λh1 x1 x2 x3 x4=>?_;have l2:=l.move x1 x2 x3 x4;have I2:=Inv.mark (DT I l2 dn) (.ref ea);have Ę:=rel.made (o:=Mw ea) l.no;refine sT ?_;rw[arm_exec_Raise];refine Ë (cJ ?_);show Î _ _ (iI X.env (some (do let v <-eval (.Call (.Name x np) (e::es) [] ai) X.env;iA OL;ç v)) (some (do let v <-eval (.Constant .none j cp) X.env;iA OL;ç v))) _ _ _;refine DR (K:=X.K) (hd:=ea) rfl (fun{Q s} q=>?_) (Ë ?_)
   ·exact Ë (Constant_none (Ë (cJ (â q))))
   obtain⟨cd,bm,xc⟩:=cV M.x;obtain⟨dd,k0,k1,k2,k3,k5,lC⟩:=xc.at_;have hz:ϔ (kk X cm) EF (rL (kk X cm)) c F0 (upd H ea (Mw ea)) Y (λvs H1=>(vs.length<=sizeLine/\∀x,H1 x=none->HX n (cm C) fl (.ref x::vs) (upd H1 x (xn x (cm C) none)) (λv H2=>v=.non/\∃d',H2 x=some (xn x (cm C) d')/\E Y (.ref (cm C)) d' (xE H2 x)/\d'≠none/\∀b u,b≠x->H1 b=some u->H2 b=some u) (EF Y))/\H1 ea=some (Mw ea)) (ms O):=by
    unfold Vt at h;cases em:ms O with
    |bad=>rw[em] at h;exact h.elim
    |exc z O'=>rw[em] at h;exact h.elim
    |ok qs O1=>rw[em] at h;exact λvs F' H' Ś s1 s2 q=>⟨wK Ś q (Œ.mono h s1),s2 _ _ ã⟩
   refine Ň (cI (bI (X:=markX X (.ref ea)) I2 hg2 Xb (kD (h₀:= X.base) I.ok.mod.Hw M.kp (ŝ (ha (.ref ea) ai Ã _ Y _ _ I2 ⟨c,F0,O,Ę,hz⟩) λus s1 ⟨vs,H1,I3,r,⟨q0,q⟩,qe⟩=>⟨I3.da,Xa (.ref ea) Ã Y H1 s1 (λv s₁=>∃e C oe vs oC oh ws,v=.ref e/\X.K.In s₁.heap/\s₁.heap.get? C=some oC/\oC.cls=.type "type" /\av X.K C (.type "BaseException")=some true/\s₁.heap.get? e=some oe/\oe.cls=.ref C/\oe.data=.fields vs/\vs[1]?=some .none/\4<vs.size/\ea≠e/\s₁.heap.get? ea=some oh/\oh.data=.fields ws/\ws[2]?=some .none/\∀h' jh,h'.get? e=some {oe with data:=.fields jh}->jh[1]?=some .none->(∀b,b≠e->h'.get? b=s₁.heap.get? b)->notedBy (Ì X.prog X.w) (X.A.mark (some (.ref ea))) X.env (λx s₂=>nv (Ì X.prog X.w) X.A X.env X.xe x s₂) (.ref e) {s₁ with heap:=h'}) us vs _ I3 r (by rw[<-ĭ.length r];exact q0) q λy H2 s' hy0 jS I4 ⟨d',g1,g2,g3,g4⟩=>?_⟩) he hpl) Vy)) (λv s3 h3=>Ë (cJ (â h3))) λ_ _ z=>z.elim;obtain⟨⟨oy,ws,ho,ze,Vz,xC,KL⟩,_,_⟩:=(show Ť X.prog X.w H2 s'.heap y (xn y (cm C) d') from I4.hok y _ g1);have XU:ea≠y:=λz=>by rw[z,hy0] at qe;cases qe
   obtain⟨⟨oh,wh,a1,a2,a3⟩,_,_⟩:=(show Ť X.prog X.w H2 s'.heap ea (Mw ea) from I4.hok ea _ (g4 ea _ XU qe));refine⟨y,cm C,oy,ws,_,oh,wh,rfl,I4.da,I4.da _ _ lC,rfl,xc.mroIs (by decide),ho,ze,xC,KL.1,KL.2.2,XU,a1,a2,a3,λh' jh b1 b2 b3=>?_⟩;have Iw:Inv (markX X (.ref ea)) Ã Y (upd H2 y (xo y (cm C) d')) {s' with heap:=h'}:=Inv.write (x:=y) (e:=y) (t':=s'.toks) I4 (by rw[g1];trivial) (.inl rfl) (λb u hb q=>(b3 b hb).trans q) ⟨_,b1⟩ ⟨⟨_,jh,b1,ze,Vz,rfl⟩,⟨_,b1⟩,by
    rintro h1 h2 ⟨o,ws,q1,q2⟩ kk;exact⟨o,ws,kk o q1,q2⟩⟩
   have Iu:Inv X Ã Y (xE H2 y) {s' with heap:=h'}:=by
    have:=Inv.unmark (Inv.drop Iw ã) I.ok.hd
    rwa [GF] at this
   exact hrt Ã Y (xE H2 y) _ y _ jh (some (.ref ea)) _ Iu b1 rfl b2 (λz=>absurd (Vz.symm.trans z) g3) hZ (Inv.Mr (Inv.unmark I3 I.ok.hd) Vx jS) (by
    show E Y oy.cls oy.dict (xE H2 y);rw[ze,Vz];exact g2)
  ·exact h.elim
 ·split at h
  ·rename_i hn;refine iW I1.da (W3.get hn) hex Hf R5 ?_;exact hrest Ã Y H Hc s sc ea Cv d B D c F0 O px I l rel ⟨eC,fs,TN,vV,TQ,Ho⟩ h
  ·exact h.elim
end
section
variable{CX:ji}{P:Þ}{w:Ø}{K:É}{mg:Str->Option Á}{base:Ð}
def ym(A:à):à:={A with handled:=none}
def BD{A:à}{v:Á}(h:A.handled=some v)(env:Env):((ym A).deeper env).mark (some v)=A.deeper env:=by unfold ym Around.deeper Around.mark;rw[<-h];simp
def Qq{f:À}{name ý:Str}{params:cH}{body:List Ò}{scope:õ}{dV kV mW pm ĺ ct oc:Á}{an od:Option À}
 {qS:Array (Option Á)}{N ps:List Str}(lk:K.lookup f=some ⟨oc,od,.func (Ϣ name ý params body scope dV kV mW pm an ĺ ct),qS⟩)(gE:iO K ĺ ý=true)(S:æ N ps scope)
 {A:à}{outer:List Env}{s:Â}{H:Hp}{args:Args}{us:List Á}{vs:List V}{Q:VK}{v:Á}{t:TS}(hA:A.handled=some v)(Xc:A.depth<sX)(e0:uC P w K mg base A outer s H)(hb:cG s (Ϣ name ý params body scope dV kV mW pm an ĺ ct) args (ps.zip us))(r:ĭ vs us)(hl:vs.length=ps.length)
 (ht:ay (markX (ŭ CX P w K mg base N ý scope f ĺ (ym A) outer s H λ_ _ _=>False) v) body t)(hq:t {nx:=λ_ H'=>Q .non H',rt:=Q} (L2.start N vs) H) :
 Ϝ (Ì P w) A (.call (.ref f) args) (λr s'=>match r with| .ok (.ret u)=>CE outer P w H s Q u s'|_=>False) s:=by
 have KX:K.In s.heap:=e0.mod.Hw.keeps λb o e=>(e0.bs b o e).1;have WO:s.heap.NoLimit:=e0.mod.nolimit.keeps λb o e=>(e0.bs b o e).1;have Ff:∀y∈ps.zip us,scope.names.lookup y.1=some .local\/(scope.names.lookup y.1=some .cell/\((Ķ (s.heap.objs.size+1) scope.names []).lookup y.1).isSome=true):=λ⟨n,v⟩ hy=>by
  rcases S.par n (m_ hy).1 with q|q
  ·exact .inl q
  ·exact .inr ⟨q,uh _ _ _ (.inl q)⟩
 refine codeAny_call_function Xc (KX _ _ lk) rfl S.co S.gen rfl (zR KX gE) (hb _ _ _ _ ?_);refine zy S.kind Ff λenv he s1 x=>?_;subst he;refine⟨WO.keeps x.toInCall.keep,codeAny_func ?_⟩;have e1:uC P w K mg base (ym A) outer s H:=⟨e0.frames,e0.mod,e0.bs,e0.zY,e0.gK,e0.B4,e0.hok,e0.bare,e0.tb⟩;have I:Inv (ŭ CX P w K mg base N ý scope f ĺ (ym A) outer s H λ_ _ _=>False) [] (L2.start N vs) H s1:=ri S rfl e1 hl r x;have run:=ht [] s1 (L2.start N vs) H _ (Inv.mark I v) hq;have eA:(markX (ŭ CX P w K mg base N ý scope f ĺ (ym A) outer s H λ_ _ _=>False) v).A=A.deeper (ú ý scope s.heap.objs.size f ĺ):=BD hA _;rw[eA] at run;refine Ň run (λfl s' hs=>?_) λe s' hs=>hs.elim;have jP:∀{Y':Ą} {H':Hp} {v':V} {u:Á},Inv (markX (ŭ CX P w K mg base N ý scope f ĺ (ym A) outer s H λ_ _ _=>False) v) [] Y' H' s'->RelV v' u->Q v' H'->CE outer P w H s Q u s':=
  fun{Y' H' v' u} J rv q=>⟨v',H',J.os,J.bare,J.base,J.hok,rv,q⟩
 cases fl with
 |ret u=>obtain⟨v,Y',H',J,rv,q⟩:=hs;exact jP J rv q
 |next=>obtain⟨Y',H',J,q⟩:=hs;exact jP (v':=V.non) (u:=Value.none) J rfl q
 |brk=>obtain⟨_,_,_,q⟩:=hs;exact Ļ q
 |cont=>obtain⟨_,_,_,q⟩:=hs;exact Ļ q
end
def VA{X:Cx}{C:À}{n k:Nat}{fl:List (Str×Nat)}{x ý:Str}{st:Ò}{f:À}{fd:Ė}{N ps:List Str}(hr:ϊ (k+1) X.A)(M:GA X.K C f)(F:B6 X.K x ý st f fd)(S:æ N ps (Ó st))(hn:ps.length=n)(hb:Binds X.K fd ps [])
 (dF:∀(ĺ:Á) (A:à) (outer:List Env) (s:Â) (H:Hp) (E:XK) (v:Á),ay (markX (ŭ (ϭ X.prog X.w) X.prog X.w X.K X.mg X.base N ý (Ó st) f ĺ A outer s H E) v) (Ŧ st) (HV C fl)):XRun X C n fl:=by
 intro v Ã Y H s G us vs T I r hl h kk;subst hn;obtain⟨cd,bm,c⟩:=cV M.x;obtain⟨oc,od,kV,mW,pm,an,ĺ,ct,qS,rfl,lk,gE⟩:=F.ex;refine HS I.da c M.init M.fn hl λh' e hm=>?_;obtain⟨t,he,_,_⟩:=hm.there;have hn:H e=none:=nU I.hok hm.new;have I2:Inv (markX X v) Ã Y (upd H e (xn e C none)) {s with heap:=h',toks:=s.toks}:=Inv.Qn I hm.keeps hm.new he rfl rfl rfl ⟨rfl,rfl,by simp⟩;obtain⟨a,jh,fs,e1,h2,h3,h4,h5,h6⟩:=h e hn;cases e1;have r2:ĭ (V.ref e::vs) (ă e::us):=.cons rfl r;have hlen:(ă e::us ++ []).length=ps.length:=by rw[cu,<-r2.length,þ];exact h2
 have Fk:=hb {s with heap:=h'} (ă e::us) I2.da hlen;rw[cu] at Fk;have Xc:=(hr.make C us []).depth;refine cK (dS (Qq (Q:=λu H2=>u=.non/\T e H2) lk gE S (v:=v) rfl Xc (I2.env0.make C us []) Fk r2 (by rw[þ];exact h2) (dF ĺ _ X.stack _ _ _ v) (yj (vs:=.ref e::vs) (iX rfl) (λj v e=>iX e) h3 (.inl ⟨rfl,rfl⟩) (by simpa using h4) h5 λH' d' q1 q2 q3 q4=>h6 H' d' q1 q2 (λb u hb q=>q3 b u hb (by intro z;cases z) q) λd0 z=>?_)) λr s' wb=>?_)
 ·rcases q4 d0 z with q|q
  ·cases q
  ·exact q
 ·cases r with
  |error e=>exact wb.elim
  |ok fl=>
   cases fl with
   |ret u=>obtain⟨v',H',I3,rv,ev,q3⟩:=I2.after wb;subst ev;exact⟨rv,kk e H' s' hn hm.new I3 q3⟩
   |next=>exact Ļ wb
   |brk=>exact Ļ wb
   |cont=>exact Ļ wb
section
variable{X:Cx}{K:KK}
def DU:List V->Hp->VK->Prop:=λxs H Q=>(∃i,xs=[.int i]/\Q (.int i) H)\/∃k,xs=[.bl k]/\Q (.int (if k then 1 else 0)) H
def Mx:Ŝ X (.type "int") DU:=Bo
noncomputable def DV:List PV->Option PV
 | [.int i]=>some (.int i)
 | [.bl k]=>some (.int (if k then 1 else 0))
 |_=>none
def Mz:dh K DU DV:=by
 intro c F H Y O ps pv vs Q rel r e k;unfold DV at e;split at e
 ·cases e;obtain⟨v,rfl,r1⟩:=vY r;cases r1.int;exact .inl ⟨_,rfl,k _ F H rel Ď Ď Ć.int⟩
 ·cases e;obtain⟨v,rfl,r1⟩:=vY r;cases r1.bl;exact .inr ⟨_,rfl,k _ F H rel Ď Ď Ć.int⟩
 ·cases e
def DW:List V->Hp->VK->Prop:=λxs H Q=>∃i,xs=[.int i]/\i.natAbs.log2<1920/\Q (.str (ϸ i)) H
def MA:Ŝ X (.type "str") DW:=uA
noncomputable def GH:List PV->Option PV
 | [.int i]=>if i.natAbs.log2<1920 then some (.str (ϸ i)) else none
 |_=>none
def MB:dh K DW GH:=by
 intro c F H Y O ps pv vs Q rel r e k;unfold GH at e;split at e
 ·split at e
  ·rename_i hz;cases e;obtain⟨v,rfl,r1⟩:=vY r;cases r1.int;exact⟨_,rfl,hz,k _ F H rel Ď Ď Ć.str⟩
  ·cases e
 ·cases e
section
end
@[simp] theorem SS{i:Int}:DV [.int i]=some (.int i):=rfl
@[simp] theorem SU{b:Bool}:DV [.bl b]=some (.int (if b then 1 else 0)):=rfl
@[simp] theorem SV{i:Int}:GH [.int i]=if i.natAbs.log2<1920 then some (.str (ϸ i)) else none:=rfl
end
noncomputable def Qr(K:É)(C:À):Bool:=kB K C dX && iM K C && ua K C && Ĭ K (.ref C) "__setattr__" == some (some (.builtin "object.__setattr__"))
def h_{K:É}{C:À}(h:Qr K C=true):lw K C:=by unfold Qr at h;simp only[ē,beq_iff_eq] at h;exact⟨h.1.1.1,h.1.1.2,h.1.2,h.2⟩
noncomputable def H0(K:É)(C:À)(m:Str)(f:À):Bool:=Ĭ K (.ref C) m== some (some (.ref f)) && kC K (.ref f) && Ţ K (.ref f)
def iY{K:É}{C f:À}{m:Str}(h:H0 K C m f=true):qR K C m f:=by unfold H0 at h;simp only[ē,beq_iff_eq] at h;exact⟨h.1.1,h.1.2,h.2⟩
noncomputable def XV(K:É)(C f:À):Bool:=ud K C && Ĭ K (.ref C) "__init__" == some (some (.ref f)) && kC K (.ref f) && Ţ K (.ref C)
def lZ{K:É}{C f:À}(h:XV K C f=true):Mk K C f:=by unfold XV at h;simp only[ē,beq_iff_eq] at h;exact⟨h.1.1.1,h.1.1.2,h.1.2,h.2⟩
section
variable{O:ć}{n k:Nat}{C:String}{cs:List String}{f:Str}{mb:M Fl}{as:List Slot}{ns:List Str}{ps:List PV}
@[simp] theorem SW:cb n k C mb as=if as.length+1=n then IR.of (mb (.rc C [] []::đ (k-1) as)) else .bad:=rfl
@[simp] theorem VB{C:String}:IR.of (.ok .nx (.rc C ns ps::O))=.ok ns ps:=rfl
@[simp] theorem VC:dm cs f (.ins C ns ps)=if cs.contains C=true then(ns.zip ps).lookup f else none:=rfl
end
end P
namespace M3
open PySem PySem.Spec PyProof.Rows L2 M2
section
variable{X:Cx}{elt tg iter:Æ}{ifs:List Æ}{scope:õ}{pos:Pos}{wi:TI}{g:TG}{tt:TT}{te:TE}
def GI{iv:Nat}{y:Str}{py xF:Pos}(hN:X.N.Nodup)(hiN:X.N[iv]?=some y)(hy:X.env.scope.names.lookup y=some .local)(R9:ŗ (.ListComp elt [⟨tg,iter,ifs,0⟩] scope pos) (some (.Name y py)) xF.line X.env=ç true)(N':List Str)(js:List Nat)(nl:Nat)(sc:õ)(Bc:X.env.scope=sc)(hcalm:X.calm=true)
 (hi:PI X.Ŭ tg iter wi)(hg:∀cl C s H fp,PG (dH X.Ŭ N' scope cl C s H fp) tg g)(ht:∀cl C s H fp,Bs (dH X.Ŭ N' scope cl C s H fp) ifs tt)(he:∀cl C s H fp,PE (dH X.Ŭ N' scope cl C s H fp) elt te)
 (hcap:jj X.Ŭ sc scope N' js)(hlen:js.length+nl=N'.length:=by rfl)
 (hk:scope.kind=.function:=by rfl)(hcell:∀y∈scope.names,y.2=.cell->scope.names.lookup y.1=some .cell:=by decide +kernel)(hnames:∀y∈scope.names,y.2=.local->scope.names.lookup y.1=some .local:=by decide +kernel)
 (hfree:∀y∈scope.names,y.2=.free->(sc.names.lookup y.1=some .cell\/sc.names.lookup y.1=some .free):=by decide +kernel)
 (hs:∀x,bA iter X.env x=ç x:=by intro _;rfl) :
 PS X.Ŭ (.Assign [.Name y py] (.ListComp elt [⟨tg,iter,ifs,0⟩] scope pos) xF) (λD Y H=>Aj js nl wi g tt te Y H λv H'=>D.nx (Y.set iv (some v)) H'):=by
 intro Ã s Y H D I h;obtain⟨PM,c1,c2,c3⟩:=kH (scope:=scope) (env:=X.Ŭ.env) λy hy hf=>I.ok.has y.1 (by
  have:=hfree y hy hf;rw[<-Bc] at this;exact this)
 rw[exec_Assign_Name_used _ _ _ _ (show ŗ _ _ _ X.Ŭ.env=ç true from R9)];refine Ë (cJ (Ë ?_));show Î _ X.A (do let _ <-comprehension (.ListComp elt [⟨tg,iter,ifs,0⟩] scope pos) scope X.Ŭ.env _ (newList []) false (eval iter X.Ŭ.env) (some (cD (.Name y py) X.Ŭ.env))) _ _ s;refine Ë (Ň (zA (Q:=λ_ s'=>SP X.Ŭ Ã D .next s') (use:=some (cD (.Name y py) X.Ŭ.env)) rfl hs c1 hk hnames (ŝ (hi Ã s Y H _ I h) λv s1 h1=>ŝ h1 λTM s2 h2=>?_)) (λ_ s' hq=>â (â hq)) λ_ _ e=>e);obtain⟨it,fp,tn,J,H2,e,I2,T,A9,f2,q2⟩:=h2;subst e;refine sY (jk (λh₁ zb jW LD=>?_));dsimp only at zb jW LD ⊢;generalize LF:s2.heap.push {cls:=.type "list",dict:=none,data:=.seq ([]:List Á).toArray}=cR at zb jW LD ⊢;have hD:H2 s2.heap.objs.size=none:=I2.hok.fresh (î _);have I3:Inv X.Ŭ Ã Y (upd H2 s2.heap.objs.size (.lst [])) {s2 with heap:=cR}:=by rw[<-LF];exact I2.laid (t':=s2.toks) (λb u e=>ö _ e) (î _) ⟨ϳ _,[],0,.nil,Ŀ _ rfl⟩
 have F7:∀b∈fp,b<s2.heap.objs.size:=λb hb=>by obtain⟨o,ho,_⟩:=T.obj 0 _ A9 b hb;exact ñ ho
 have LG:cR.objs.size=s2.heap.objs.size+1:=by rw[<-LF,bC]
 have f3:∀b∈fp,je X.Ŭ Ã (upd H2 s2.heap.objs.size (.lst [])) b:=λb hb=>by obtain⟨g0,g1⟩:=f2 b hb;exact⟨by rw[Ú (ħ (F7 b hb))];exact g0,g1⟩
 have B:=CU (X:=X.Ŭ) (cl:=PM) hcell c2 c3 (λx c e=>by obtain⟨v,o,ho,_⟩:=I3.cell x c e;exact ñ ho) LD;generalize Ķ (cR.objs.size+1) scope.names PM=cl at B ⊢;obtain⟨W,⟨m0,w0⟩,turn⟩:=q2 s2.heap.objs.size hD;have I4:=rz (X:=X.Ŭ) (N':=N') (js:=js) (nl:=nl) (sc:=sc) (scope:=scope) (cl:=cl) (fp:=fp) (h':=h₁) (tk:=s2.toks) Bc hk hcap hlen B I3 f3 (λb hb=>by show b<cR.objs.size;rw[LG];exact iw (F7 b hb)) zb jW;have PN:tn 0 h₁:= T.keep 0 _ _ A9 λb hb o e=>jW b o (by rw[<-LF];exact ö _ e);have Uu:∀b∈fp,(upd H2 s2.heap.objs.size (.lst [])) b=none:=λb hb=>(f3 b hb).1;have stat:∀{H':Hp},(∀b∈fp,H' b=none)->∀b∈fp,je (dH X.Ŭ N' scope cl cR.objs.size {s2 with heap:=cR} (upd H2 s2.heap.objs.size (.lst [])) fp) [] H' b:=fun{H'} hn b hb=>by
  obtain⟨g0,g1,g2,g3,g4,g5⟩:=f3 b hb;refine⟨hn b hb,ħ (by show b<cR.objs.size;rw[LG];exact iw (F7 b hb)),λz=>?_,.inl hb,λx c e=>by
   rcases B.at_ x c e with⟨q,_⟩|⟨q,_⟩
   ·exact g4 x c q
   ·exact bt (sO (by show b<cR.objs.size;rw[LG];exact iw (F7 b hb)) q),λp hp=>absurd hp (by simp[dH])⟩
  rcases Č.mp (I3.oa b z) with z|z
  ·exact g1 z
  ·exact g2 z
 have loop:∀s₃:Â,s₃= {s2 with heap:=h₁}->
  Ϝ (Ì X.prog X.w) X.A (.compLoop (.ListComp elt [⟨tg,iter,ifs,0⟩] scope pos) 0 (.ref it) (.ref s2.heap.objs.size) (compEnvC scope cl cR.objs.size X.Ŭ.env))
   (compPost (Ì X.prog X.w) X.A X.Ŭ.xe (some (cD (.Name y py) X.Ŭ.env)) (λ_ s'=>SP X.Ŭ Ã D .next s') (.ref s2.heap.objs.size) cR.objs.size) s₃:= by
  rintro s₃ rfl;refine kI (λn s'=>∃i Y' H',Inv (dH X.Ŭ N' scope cl cR.objs.size {s2 with heap:=cR} (upd H2 s2.heap.objs.size (.lst [])) fp) [] Y' H' s'/\tn i s'.heap/\(∀b∈fp,H' b=none)/\W i n Y' H') ?_ m0 ⟨0,_,_,I4,PN,Uu,w0⟩;rintro n s5 ⟨i,Y5,H5,I5,FH,K7,w5⟩;rcases turn i n Y5 H5 w5 with⟨stop,qn⟩|⟨go,N,hN,step⟩
  ·refine ŝ (T.done (dH X.Ŭ N' scope cl cR.objs.size {s2 with heap:=cR} (upd H2 s2.heap.objs.size (.lst [])) fp) rfl rfl rfl hcalm i [] s5 Y5 H5 (λ_ _=>False) I5 (stat K7) FH stop) λr s6 ⟨hr,I6⟩=>?_;subst hr;obtain⟨m,hm,_⟩:=I6.loc;have I7:Inv X.Ŭ Ã Y H5 s6:=oB (h':=s6.heap) I3 f3 I6 (λb u hb e=>e);have hCL:cR.objs.size≠X.Ŭ.env.locals:=bt I3.lt;have TR:∀x c,X.Ŭ.env.cells.lookup x=some c->c≠cR.objs.size:=λx c e z=>by
    obtain⟨v,o,ho,_⟩:=I3.cell x c e;exact absurd (ñ ho) (by rw[z];exact ϱ _)
   have hpC:∀p∈X.Ŭ.pn++Ã,p.1≠cR.objs.size:=λp hp z=>by have:=ñ (I3.pin p hp).1;rw[z] at this;exact ϱ _ this
   have hnC:H5 cR.objs.size=none:=I6.free;refine wpAny_assign_Name (qW (X:=X.Ŭ) (i:=iv) I7 hN hiN (.inl hy) (v:=.ref s2.heap.objs.size) rfl (λs8 I8 ⟨a8,sb8,VD⟩=>?_) (.inr hy));have ne8:cR.objs.size≠a8:=by
    rcases VD with rfl|VD
    ·exact hCL
    ·exact λz=>TR _ _ VD z.symm
   refine⟨m,hm.sameBut sb8 ne8,λh' RW=>⟨_,H5,?_,qn⟩⟩;have kp:∀b o,b≠cR.objs.size->s8.heap.get? b=some o->h'.get? b=some o:=λb o hb e=>RW.extBut b o hb e;have VE:∀b o,b∉[cR.objs.size]->s8.heap.get? b=some o->h'.get? b=some o:=λb o hb e=>kp b o (λz=>hb (by rw[z];exact ű)) e;refine I8.call' (ch:=[cR.objs.size]) (s':={s8 with heap:=h'}) rfl ⟨λb o e _ _ hx=>VE b o hx e,λb o e _ _ hx=>⟨o.slots,VE b o hx e⟩,λb o _ n _=>n,λb o e hx=>⟨o,VE b o hx e⟩,λ_ _ q=>q,λ_ _ _ q=>q,λ_ ps q=>q⟩ (Ai I8.hok hnC kp) I8.bare λb hb=>?_;cases dO.mp hb;exact⟨.inr I3.sz,hCL,TR,hpC⟩
  ·refine ŝ (T.item (dH X.Ŭ N' scope cl cR.objs.size {s2 with heap:=cR} (upd H2 s2.heap.objs.size (.lst [])) fp) rfl rfl rfl hcalm i [] s5 Y5 H5 (λ_ _=>False) I5 (stat K7) FH go) λr s6 ⟨u,hr,h6⟩=>?_;subst hr;refine ŝ h6 λ_ s7 ⟨x,H7,I7,r7,y7,LH,Uv⟩=>?_;have Uw:=I7.pinned (stat Uv) (T.obj _ _ LH);have again:∀{s8:Â} {Y8:Ą} {H8:Hp},Inv (dH X.Ŭ N' scope cl cR.objs.size {s2 with heap:=cR} (upd H2 s2.heap.objs.size (.lst [])) fp) ([]++lx fp s7.heap) Y8 H8 s8->
    Inv (dH X.Ŭ N' scope cl cR.objs.size {s2 with heap:=cR} (upd H2 s2.heap.objs.size (.lst [])) fp) [] Y8 H8 s8/\tn (i+1) s8.heap/\∀b∈fp,H8 b=none:=fun{s8 Y8 H8} I8=>by
    refine⟨I8.gM,T.keep _ _ _ LH λb hb o e=>(I8.pin (b,o) (Ϙ _ (Ϙ _ (bc hb e)))).1,λb hb=>?_⟩;obtain⟨o,e,d⟩:=T.obj _ _ LH b hb;exact(I8.pin (b,o) (Ϙ _ (Ϙ _ (bc hb e)))).2.1
   refine ŝ (hg cl _ _ _ fp _ s7 Y5 H7 x u _ Uw r7 (step x H7 y7)) λ_ s8 ⟨Y8,H8,I8,q8⟩=>?_;refine ŝ (ht cl _ _ _ fp _ s8 Y8 H8 _ I8 q8) λc s9 ⟨H9,I9,q9⟩=>?_;cases c with
   |false=>rw[if_neg ϖ] at q9 ⊢;obtain⟨m',OC,w9⟩:=hN _ _ q9;obtain⟨a1,a2,a3⟩:=again I9;exact⟨m',OC,i+1,Y8,H9,a1,a2,a3,w9⟩
   |true=>rw[if_pos rfl] at q9 ⊢;refine ŝ (he cl _ _ _ fp _ s9 Y8 H9 _ I9 q9) λyv Ux ⟨y,Uy,Uz,WV,ys,WW,WX,WY⟩=>?_;refine ŝ (Ő _ Ux Y8 Uy (.ref s2.heap.objs.size) [y] (.ref s2.heap.objs.size) [yv] (λ_ LI=>N Y8 LI) Uz rfl (.cons WV .nil) ⟨_,ys,y,rfl,rfl,WW,WX,WY⟩) λ_ s11 ⟨v11,LI,UA,_,OD⟩=>?_;obtain⟨a1,a2,a3⟩:=again UA;obtain⟨m',OC,OD⟩:=hN _ _ OD;exact⟨m',OC,i+1,Y8,LI,a1,a2,a3,OD⟩
 exact codeAny_compStart_list (loop _ rfl) (T.self _ 0 _ _ _ PN (loop _ rfl))
end
end M3
namespace P
open PySem PySem.Spec PyProof.Rows L2 M2 M3 M4
section
variable{X:Cx}{cm:String->À}{E:Ą->XK}{elt tg iter:Æ}{ifs:List Æ}{scope:õ}{pos:Pos}{mi:M (List PV)}{g:Tg}{mt:M Bool}{me:M PV}
theorem PS.Ŭ{st:Ò}{t:TS}(h:PS X.Ŭ st t):PS X st t:=λÃ s Y H D I hw=>
 Ň (h Ã s Y H D (I.wish _) hw) (λ_ _ q=>q.fW) λ_ _ z=>Ļ z
def MC{i:Nat}{y:Str}{py xF:Pos}(hN:X.N.Nodup)(Xd:X.N[i]?=some y)(hy:X.env.scope.names.lookup y=some .local)(N':List Str)(js:List Nat)(nl:Nat)(sc:õ)(Bc:X.env.scope=sc)(hcalm:X.calm=true)
 (hi:PI X.Ŭ tg iter (tI (kk X cm) E mi))(hg:∀cl C s H fp,PG (dH X.Ŭ N' scope cl C s H fp) tg (tT (kk X cm) g))(ht:∀cl C s H fp,Bs (dH X.Ŭ N' scope cl C s H fp) ifs (tB (kk X cm) EF mt))(he:∀cl C s H fp,PE (dH X.Ŭ N' scope cl C s H fp) elt (tV (kk X cm) EF me))
 (hcap:jj X.Ŭ sc scope N' js)(hlen:js.length+nl=N'.length:=by rfl)
 (hk:scope.kind=.function:=by rfl)(hcell:∀y∈scope.names,y.2=.cell->scope.names.lookup y.1=some .cell:=by decide +kernel)(hnames:∀y∈scope.names,y.2=.local->scope.names.lookup y.1=some .local:=by decide +kernel)
 (hfree:∀y∈scope.names,y.2=.free->(sc.names.lookup y.1=some .cell\/sc.names.lookup y.1=some .free):=by decide +kernel)
 (hs:∀x,bA iter X.env x=ç x:=by intro _;rfl)(R9:ŗ (.ListComp elt [⟨tg,iter,ifs,0⟩] scope pos) (some (.Name y py)) xF.line X.env=ç true:=by rfl) :
 PS X (.Assign [.Name y py] (.ListComp elt [⟨tg,iter,ifs,0⟩] scope pos) xF) (tS (kk X cm) E (Ń i (ϻ js nl mi g mt me))):=
 PS.wk (PS.Ŭ (GI hN Xd hy R9 N' js nl sc Bc hcalm (HI hi) hg ht he hcap hlen hk hcell hnames hfree hs)) fun D Y H ⟨c,F,O,rel,h⟩=>wt ⟨c,F,O,rel,Œ.bind h fun r O1 v F1 H1 Ù s1 q h1=>by
   cases r with
   |sh p=>exact h1 _ F1 H1 (Ù.put rfl ⟨v,rfl,q⟩) Ď
   |ow ps=>obtain⟨a,vs,rfl,q1,q2,q3,q4,q5⟩:=q;exact h1 _ F1 H1 (Ù.Bv ⟨a,vs,rfl,q1,q2,q3,q5⟩ λ_ z=>V.ref.inj z▸q4) Ď
   |ot ps qs rs=>obtain⟨p,a,xs,vs,ys,rfl,q0,qx,q1,q2,q3,q4,q5,q6⟩:=q;exact h1 _ F1 H1 (Ù.Bv (s:=.ot ps qs rs) ⟨p,a,xs,vs,ys,rfl,q0,qx,q1,q2,q3,q5,q6⟩ λ_ z=>kK (ps:=ps) (qs:=qs) (rs:=rs) z ⟨p,xs,ys,rfl,q0,qx.length.symm⟩▸q4) Ď
   |bn t ps qs rows=>exact h1 _ F1 H1 (Ù.LX q) Ď⟩
end
def VF(K:KK)(r:V->List V->Hp->VK->Prop)(f:PV->List PV->Option PV):Prop:=∀{c:Ctx} {F H:Hp} {Y:Ą} {O:ć} {p:PV} {ps:List PV} {pv:PV} {v:V} {vs:List V} {Q:VK},ę K c F H Y O->rR K c Y O F H p v->LV K c Y O F H ps vs->f p ps=some pv->
 (∀z F' H',ę K c F' H' Y O->Õ F F'->Õ H H'->Ć K F' pv z->Q z H')->r v vs H Q
@[simp] def Fv(f:PV→List PV→Option PV)(mo:M PV)(ms:M (List PV))(O:ć):ĳ PV:= (mo O).bind fun p O1=>match p with
  | .str _=>(ms O1).bind λps O2=>ĳ.Aq (f p ps) O2
  |_=>.bad
section
variable{X:Cx}{cm:String->À}{K:KK}{E:Ą->XK}{o e:Æ}{es:List Æ}{name:Str}{jQ ai:Pos}{id:String}{r:V->List V->Hp->VK->Prop}{f:PV->List PV->Option PV}{mo:M PV}{ms:M (List PV)}
def uT(pa:PlainAttrs "str")(slot:PySem.Slot "str" name id)(ik:typeOf (.builtin id)=ç (.type "method_descriptor"))(hf:VF (kk X cm) r f)(hm:OQ X id r)(ho:PE X o (tR (kk X cm) E mo))(ha:PA X (e::es) (Fs (kk X cm) E ms))
 (il:bB o name X.env (eval o X.env)=eval o X.env:=by rfl)
 (qi:((ĝ ai (Ö (e::es) X.env)).all (fun x=>!x.1) && (fH ai (fJ [] X.env)).all (fun x=>x.1.isSome)
   && decide ((e::es).length+([]:List ϴ).length+(if([]:List ϴ).isEmpty then 0 else 1)<30))=true:=by rfl)
 (im:(jQ.endLine== ai.line)=true:=by rfl)(hs:Ö (e::es) X.env=(false,eval e X.env)::Ö es X.env:=by exact ώ rfl)(jR:(ĝ ai (Ö es X.env)).any (·.1)=false:=by rfl) :
 PE X (.Call (.Attribute o name jQ) (e::es) [] ai) (tV (kk X cm) E (Fv f mo ms)):=
 PE.wk (bY pa slot ik hm ho ha il qi im hs jR) fun Y H Q ⟨c,F,O,rel,h⟩=>⟨c,F,O,rel,ϔ.bind h fun p O1 v F1 H1 Ù _ _ r1 h1=>by
   cases p with
   |str z=>
    cases r1.str;refine⟨rfl,c,F1,O1,Ù,ϔ.bind h1 λps O2 vs F2 H2 Ę sF sH r2 h2=>?_⟩;cases ef:f (.str z) ps with
    |none=>rw[ef] at h2;exact h2.elim
    |some pv=>rw[ef] at h2;exact hf Ę (.inl (Ć.str (K:=kk X cm) (F:=F2))) r2 ef λz F' H' Ś s1 s2 q'=>h2 z F' H' Ś s1 s2 q'
   |_=>exact h1.elim⟩
noncomputable def jT:List PV->Option (List (List Nat))
 | []=>some []
 | .str z::ps=>(jT ps).map (z.cps.toList:: ·)
 |_::_=>none
theorem wL{F:Hp}:∀{ps:List PV} {vs:List V} {bs:List (List Nat)},Û K F ps vs->jT ps=some bs->vs=bs.map λl=>V.str (S l)
 | [],vs,bs,r,h=>by cases h;cases r.pr;rfl
 |p::ps,vs,bs,r,h=>by
  cases r.pr with
  |cons r1 t=>
   cases p with
   |str z=>unfold jT at h;obtain⟨cs,e,rfl⟩:=ki.mp h;rw[wL (Û.of t) e,show _=V.str z from r1,Ý,LO]
   |_=>cases h
def eZ:PV->List PV->Option PV
 | .str z,[.lst ps]=>(jT ps).bind λys=>if(ys.map aF).sum+ys.length*z.length<=16777216 then some (.str (S (İ z.cps.toList ys))) else none
 |_,_=>none
def gi:VF K (C_ K.K) eZ:=by
 intro c F H Y O p ps pv v vs Q rel r1 r2 e k;unfold eZ at e;split at e
 ·rename_i z qs;cases r1.str;obtain⟨u,rfl,r3⟩:=vY r2;obtain⟨a,xs,rfl,h1,h2⟩:=r3.lst rel.sub;obtain⟨ys,eb,e⟩:=sR.mp e;split at e
  ·rename_i hz;cases e;exact⟨ys,by rw[<-wL h2 eb];exact h1,hz,k _ F H rel Ď Ď Ć.str⟩
  ·cases e
 ·cases e
noncomputable def kS:PV->List PV->Option PV
 | .str z,[.str y]=>some (.bl (decide (z.cps.toList.take y.cps.toList.length=y.cps.toList)))
 |_,_=>none
def rQ:VF K uI kS:=by
 intro c F H Y O p ps pv v vs Q rel r1 r2 e k;unfold kS at e;split at e
 ·cases r1.str;obtain⟨u,rfl,r3⟩:=vY r2;cases r3.str;cases e;exact k _ F H rel Ď Ď Ć.bl
 ·cases e
end
section
variable{X:Cx}{Ã:List (À×Obj)}{Y:Ą}{H:Hp}{s:Â}{h':Ð}
def turns{t':Nat}{fp:List À}(I:Inv X Ã Y H s)(k:∀b o,b∉fp->s.heap.get? b=some o->h'.get? b=some o)(hf:∀b∈fp,je X Ã H b):Inv X Ã Y H {s with heap:=h',toks:=t'}:=by
 have Pc:∀b u,H b=some u->b∉fp:=λb u e z=>by rw[(hf b z).1] at e;cases e
 have hL:X.env.locals∉fp:=λz=>(hf _ z).2.1 rfl;refine I.step (g':=s.gens) (d':=s.drawn) (ch:=fp) (λb hb=>?_) (λb o _ _ hc e _=>k b o hc e) (λb o _ _ hc e _=>⟨o.slots,k b o hc e⟩) (λ_ _ _ _ n=>n)
  (λb o hc e=>⟨o,k b o hc e⟩) (λ_ _ e=>e) (λ_ _ _ e=>e) (λb ps e=>e) (λm hm=>?_) (λb u e=>?_) I.bare
 ·obtain⟨f0,f1,f2,f3,f4,f5⟩:=hf b hb;exact⟨f3,f1,f4,f5⟩
 ·obtain⟨o,es,ep,ho,r⟩:=hm;exact⟨o,es,ep,k _ o hL ho,r⟩
 ·refine(I.hok b u e).stay (λc v hc q=>k c v ?_ q) (λ_ q=>q) λ_ _ q=>q;rcases hc with z|z
  ·rw[z];exact Pc b u e
  ·exact Pc c _ z
def MD{a b:À}{o:HO}(f:je X Ã H b)(h:b≠a):je X Ã (upd H a o) b:=⟨by rw[Ú h];exact f.1,f.2⟩
def yn{t':Nat}{fp:List À}{u1 u2:Á}{x1 x2:V}(I:Inv X Ã Y H s)(r1:RelV x1 u1)(r2:RelV x2 u2)(ht:∃o,h'.get? s.heap.objs.size=some o/\o= {cls:=.type "tuple",data:=.seq #[u1,u2]})
 (k:∀b o,b∉fp->s.heap.get? b=some o->h'.get? b=some o)(hf:∀b∈fp,je X Ã H b)(lP:∀b∈fp,b<s.heap.objs.size) :
 Inv X Ã Y (upd H s.heap.objs.size (.tup [x1,x2])) {s with heap:=h',toks:=t'}:=by
 have I1:Inv X Ã Y (upd H s.heap.objs.size (.tup [x1,x2])) {s with heap:=s.heap.push {cls:=.type "tuple",data:=.seq #[u1,u2]},toks:=s.toks}:=
  I.laid (t':=s.toks) (λb u e=>ö _ e) (î _) ⟨by show 2<=sizeLine;decide,[u1,u2],.cons r1 (.cons r2 .nil),⟨_,Ŀ _ rfl,rfl,_,rfl⟩⟩
 refine turns (fp:=fp) (s:={s with heap:=s.heap.push {cls:=.type "tuple",data:=.seq #[u1,u2]},toks:=s.toks}) (h':=h') (t':=t') I1 (λb o hb e=>?_) λb hb=>MD (hf b hb) (ħ (lP b hb));rcases zN e with⟨rfl,rfl⟩|e
 ·obtain⟨o,h1,h2⟩:=ht;rw[h1,h2]
 ·exact k b o hb e
end
section
end
def XW(K:KK):RR (List PV) V:=λc _ _ F H ò v=>∃a,v=.ref a/\(∃xs,ϒ K.K H a xs)/\xZ K c.L F (Pm K.K a) ò
def DX{K:KK}{L F:Hp}{ps:List PV}{v:V}(h:Ć K F (.lst ps) v):∃a,v=.ref a/\(∃xs,ϒ K.K F a xs)/\xZ K L F (Pm K.K a) ps:=by unfold Ć at h;obtain⟨a,vs,rfl,e1,e2⟩:=h;refine⟨a,rfl,⟨vs,e1⟩,?_⟩;intro c' i F2 H2 Y2 O2 Ę sF _;have hq:ϒ K.K H2 a vs:=(sF.trans Ę.sub).seq e1;refine⟨λp hp=>?_,λhi=>⟨vs,hq,by rw[hi,e2.length];exact î _⟩⟩;obtain⟨u,hu,ru⟩:=de e2.pr hp;refine⟨⟨vs,u,hq,hu⟩,λx H' ⟨hH,hx⟩=>?_⟩;subst hH;have:vs[i]?=some x:=hx vs hq;rw[hu] at this;cases this;exact⟨F2,Ę,Õ.refl _,Õ.refl _,Ć.same sF p u ru⟩
@[simp] def Ia(m:M PV)(O:ć):ĳ (List PV):= (m O).bind fun p O1=>match p with
  | .lst ps=>.ok ps O1
  |_=>.bad
section
variable{X:Cx}{cm:String->À}{E:Ą->XK}{e:Æ}{m:M PV}
def VG(h:PE X e (tV (kk X cm) E m)):PE X e (tG (kk X cm) E (XW (kk X cm)) (Ia m)):=PE.wk h λY H Q ⟨c,F,O,rel,h⟩=>⟨c,F,O,rel,h.bind λp O1 v F1 H1 Ù s1 s2 q h1=>by
 cases p with
 |lst ps=>obtain⟨a,e1,⟨xs,e2⟩,e3⟩:=DX (L:=c.L) (show Ć (kk X cm) F1 (.lst ps) v from q);exact h1 v F1 H1 Ù Ď Ď ⟨a,e1,⟨xs,Ù.sub.seq e2⟩,e3⟩
 |_=>exact h1.elim⟩
noncomputable def Ł:Nat->List PV->List PV
 |_,[]=>[]
 |k,p::ps=>.tup [.int k,p]::Ł (k+1) ps
theorem rS:∀(k:Nat) (ps:List PV),(Ł k ps).length=ps.length
 |_,[]=>rfl
 |k,_::ps=>congrArg (·+ 1) (rS (k+1) ps)
theorem rT:∀(k:Nat) (ps:List PV) (i:Nat),(Ł k ps)[i]?=ps[i]?.map λp=>.tup [.int ((k+i:Nat):Int),p]
 |_,[],_=>rfl
 |k,p::ps,0=>rfl
 |k,p::ps,i+1=>by show(Ł (k+1) ps)[i]?=_;rw[rT (k+1) ps i,fA,show k+1+i=k+(i+1) by lia]
def GJ{K:KK}{c:Ctx}{F H:Hp}{Y:Ą}{O:ć}{T:À}{p q:PV}{x y:V}(rel:ę K c F H Y O)(hT:H T=none)(r1:Ć K F p x)(r2:Ć K F q y):ę K c (upd F T (.tup [x,y])) (upd H T (.tup [x,y])) Y O/\Ć K (upd F T (.tup [x,y])) (.tup [p,q]) (.ref T):=by have hF:=rel.sub.free hT;refine⟨rel.alloc hT,?_⟩;unfold Ć;exact⟨T,[x,y],rfl,eQ.of ã,Û.cons (Ć.same (Õ.upd hF) p x r1) (Û.cons (Ć.same (Õ.upd hF) q y r2) Û.nil)⟩
@[simp] def DZ(i:Nat)(mo:M RV)(O:ć):ĳ Fl:= match O[i]? with
  |some (.ow _)=>(mo O).bind λr O1=>match O1[i]?,r with
   |some (.ow ps),.ow qs=>if ps.length+qs.length<=16777216 then .ok .nx (O1.set i (.ow (ps++qs))) else .bad
   |_,_=>.bad
  |_=>.bad
def uU{i:Nat}{mo:M RV}{D:Ends}{Y:Ą}{H:Hp}(h:tS (kk X cm) E (DZ i mo) D Y H):on (OR X.K "list" Af (gF i) (Cz (tO (kk X cm) E mo) Cy)) D Y H:=by
 obtain⟨c,F,O,rel,h⟩:=h;unfold DZ at h;cases e1:O[i]? with
 |none=>rw[e1] at h;exact h.elim
 |some sl=>
  rw[e1] at h;cases sl with
  |ow XD=>
   obtain⟨a,XE,z1,z2,z3,z4,z5,z6⟩:=rel.ow e1;refine⟨.ref a,z1,.inl ⟨rfl,_,ϒ.of z2⟩,c,F,O,rel,?_⟩;refine Œ.bind h λr O1 v F1 H1 Ù s1 q h1=>?_;cases e2:O1[i]? with
   |none=>simp only[e2] at h1;exact h1.elim
   |some FA=>
    simp only[e2] at h1;cases FA with
    |ow ps=>
     cases r with
     |ow qs=>
      obtain⟨b,us,eb,hb1,hb2,hb3,hb4,XX⟩:=q;subst eb;obtain⟨a2,vs,w1,w2,w3,w4,w5,w6⟩:=Ù.ow e2;rw[z1] at w1;cases w1;dsimp only at h1;split at h1
      ·rename_i hz;refine⟨a,b,vs,us,rfl,rfl,w2,hb1,by rw[<-w5.length,<-XX.length,č];exact hz,h1 Y F1 _ (Ù.write w6 z1 ⟨a,vs++us,rfl,ã,w3,w4,Û.append w5 XX⟩ λ_ z=>(V.ref.inj z).symm) Ď⟩
      ·exact h1.elim
     |_=>exact h1.elim
    |_=>exact h1.elim
  |_=>exact h.elim
end
section
end
section
end
section
end
section
end
section
end
def Ib(b:Bool)(h:Ð)(it l:À)(i:Nat):Prop:=if b=true then h.IsTupleIter it l i else h.IsListIter it l i
def nmB(b:Bool):String:=if b=true then "tuple_iterator" else "list_iterator"
def Ib.ex{b:Bool}{h:Ð}{it l:À}{i:Nat}(x:Ib b h it l i):∃o,h.get? it=some o/\o.cls=.type (nmB b)/\o.data=.fields #[.ref l,.int i 0]:=by
 cases b with
 |true=>exact x
 |false=>exact x
section
end
section
end
section
end
section
end
def ME(K:É)(Hl:Bool):R2:=λx y H Q=>∃d es a xs,Rp K H d x/\y=.ref a/\(ϒ K H a xs\/eQ K H a xs)/\lE K H es xs/\d.canLay0=true/\fP es=true/\d.depth<=60/\Q (.bl (if Hl then !(es.any λe=>ī e d) else es.any λe=>ī e d)) H
open Classical in
noncomputable def Fw(h:Ð)(d:Ϟ)(y:Á):Bool:=if ∃e as,Reads h y e as/\e.canLay0=true/\ī e d=true then true else false
def D_{h:Ð}{d e:Ϟ}{y:Á}{as:List À}(r:Reads h y e as)(hc:e.canLay0=true):Fw h d y=ī e d:=by
 unfold Fw;cases q:ī e d with
 |true=>rw[if_pos ⟨e,as,r,hc,q⟩]
 |false=>rw[if_neg];rintro ⟨e',as',r',Qqq7,q'⟩;have:=SeqAt.Reads.unique e e' y as as' hc r r';subst this;rw[q] at q';cases q'
theorem uV{h:Ð}{d:Ϟ}:∀{us:List Á} {es:List Ϟ} {as:List À},ReadsAll h us es as->fP es=true->us.any (Fw h d)=es.any λe=>ī e d
 |_,_,_,.nil,_=>rfl
 |_,_,_,.cons r rs,hc=>by unfold fP at hc;rw[ē] at hc;rw[iq,iq,D_ r hc.1,uV rs hc.2]
theorem uW{A:à}{s:Â}{d:Ϟ}{v:Á}{bs:List À}(rv:Reads s.heap v d bs)(hd:d.canLay0=true)(hu:A.units+d.depth<ϝ):∀{us:List Á} {es:List Ϟ} {as:List À},ReadsAll s.heap us es as->fP es=true->∀u∈us,SeqAt.EqAt A s u v (Fw s.heap d u)
 |_,_,_,.nil,_=>λu hu=>by cases hu
 |_,_,_,.cons r rs,hc=>λu hm=>by
  unfold fP at hc;rw[ē] at hc;rcases Č.mp hm with rfl|hm
  ·rw[D_ r hc.1];exact SeqAt.eqAt_reads _ _ A s _ _ _ _ r rv hc.1 hd (by lia)
  ·exact uW rv hd hu rs hc.2 u hm
section
variable{X:Cx}
def MG(hu:X.A.units+64<ϝ):aD X (ı .In) (ME X.K false):=by
 intro Ã s Y H x y v u Q I rx ry h;obtain⟨d,es,a,xs,h1,rfl,hq,h3,h4,h5,h6,q⟩:=h;cases ry;obtain⟨as,ra⟩:=Rp.reads I d x v h1 rx;have hu1:X.A.in1.units+d.depth<ϝ:=by have:X.A.in1.units=X.A.units+1:=rfl;lia
 rcases hq with hq|hq
 ·obtain⟨ě,r,pl,hz⟩:=I.list hq;obtain⟨bs,rb⟩:=lE.reads I es xs ě h3 r;refine SeqAt.in_listAt (Fw s.heap d) pl.isList (λw hw=>uW ra h4 hu1 rb h5 w (by simpa using hw)) ⟨.bl _,H,I,rfl,?_⟩;rw[show ě.toArray.any (Fw s.heap d)=ě.any (Fw s.heap d) by simp,uV rb h5];exact q
 ·obtain⟨ě,r,pl,hz⟩:=I.tuple hq;obtain⟨bs,rb⟩:=lE.reads I es xs ě h3 r;refine SeqAt.in_tupleAt (Fw s.heap d) pl (λw hw=>uW ra h4 hu1 rb h5 w (by simpa using hw)) ⟨.bl _,H,I,rfl,?_⟩;rw[show ě.toArray.any (Fw s.heap d)=ě.any (Fw s.heap d) by simp,uV rb h5];exact q
end
noncomputable def B1(Hl:Bool)(p q:PV):Option PV:=match q with
 | .lst ps=>if Ž p && aE ps && decide (qT p<=60) then some (.bl (if Hl then !(ps.any λy=>bT y p) else ps.any λy=>bT y p)) else none
 | .tup ps=>if Ž p && aE ps && decide (qT p<=60) then some (.bl (if Hl then !(ps.any λy=>bT y p) else ps.any λy=>bT y p)) else none
 |_=>none
theorem uX{p:PV}(h:Ž p=true):∀{ps:List PV},aE ps=true->(eY ps).any (λe=>ī e (eS p))=ps.any λy=>bT y p
 | [],_=>rfl
 |y::ps,hp=>by unfold aE at hp;rw[ē] at hp;unfold eY;rw[iq,iq,uM y p hp.1 h,uX h hp.2]
def MJ{K:KK}{Hl:Bool}:kM K (ME K.K Hl) (B1 Hl):=by
 intro c F H Y O p q pv v u Q rel r1 r2 e k;unfold B1 at e;split at e
 ·rename_i ps;split at e
  ·rename_i hc;rw[ē,ē,decide_eq_true_eq] at hc;cases e;obtain⟨a,xs,rfl,h1,h2⟩:=r2.lst rel.sub;refine⟨eS p,eY ps,a,xs,iU rel.sub hc.1.1 r1,rfl,.inl h1,lE.same rel.sub _ _ (iS ps xs hc.1.2 h2),gf p hc.1.1,hJ ps hc.1.2,by rw[gh];exact hc.2,?_⟩;rw[uX hc.1.1 hc.1.2];exact k _ F H rel Ď Ď Ć.bl
  ·cases e
 ·rename_i ps;split at e
  ·rename_i hc;rw[ē,ē,decide_eq_true_eq] at hc;cases e;obtain⟨a,xs,rfl,h1,h2⟩:=r2.tup rel.sub;refine⟨eS p,eY ps,a,xs,iU rel.sub hc.1.1 r1,rfl,.inr h1,lE.same rel.sub _ _ (iS ps xs hc.1.2 h2),gf p hc.1.1,hJ ps hc.1.2,by rw[gh];exact hc.2,?_⟩;rw[uX hc.1.1 hc.1.2];exact k _ F H rel Ď Ď Ć.bl
  ·cases e
 ·cases e
def GK{x:Int}{n:Nat}(h1: -(2 ^ n:Int)<x)(h2:x<2 ^ n):Fm x<=n:=by
 refine intBits_le_iff.mpr ?_;have e:((2 ^ n:Nat):Int)=(2:Int) ^ n:=by simp
 have:((x.natAbs:Nat):Int)<((2 ^ n:Nat):Int):=by rw[e];lia
 lia
def Qs{x y:Int}(h:y≠0)(h1: -18446744073709551616<y)(h2:y<18446744073709551616):oR x y=true:=Qi h (ϲ (GK (n:=64) (by lia) (by lia)) (by decide))
@[simp] theorem SX{x:Int}{n:Nat}(h:n≠0)(h2:n<18446744073709551616):oR x (no_index (Ŗ n):Int)=true:=by have e:(no_index (Ŗ n):Int)=(n:Int):=rfl;rw[e];exact Qs (by lia) (by lia) (by lia)
@[simp] theorem Qt{x:Int}{n:Nat}(h:n<18446744073709551616):Ϭ x (no_index (Ŗ n):Int)=true:=by have e:(no_index (Ŗ n):Int)=(n:Int):=rfl;rw[e];exact R0 (by lia) (by lia)
@[simp] theorem Qu{x:Int}{n:Nat}(h:n<18446744073709551616):Ϭ (no_index (Ŗ n):Int) x=true:=by have e:(no_index (Ŗ n):Int)=(n:Int):=rfl;rw[e];exact eo (by lia) (by lia)
@[simp] theorem SY{m n:Nat}(h:m<18446744073709551616)(h2:n≤1000000):wu (no_index (Ŗ m):Int) (no_index (Ŗ n):Int)=true:=by have e:(no_index (Ŗ m):Int)=(m:Int):=rfl;have e2:(no_index (Ŗ n):Int)=(n:Int):=rfl;rw[e,e2];unfold wu;simp;lia
@[simp] theorem Qv{x:Int}{n:Nat}:x.fdiv (no_index (Ŗ n):Int)=x / (no_index (Ŗ n):Int):=zi x (Int.natCast_nonneg n)
@[simp] theorem Qw{x:Int}{n:Nat}:x.fmod (no_index (Ŗ n):Int)=x % (no_index (Ŗ n):Int):=fg x (Int.natCast_nonneg n)
def dG{xs ys:List PV}(h:xs.length+ys.length<=16777216):ô (.lst xs) (.lst ys)=some (.ow (xs++ys)):=by unfold ô;simp[h]
mutual
theorem o_:∀p:PV,Ž p=true->bT p p=true
 | .non,_=>by unfold bT;rfl
 | .bl b,_=>by unfold bT;simp
 | .int i,_=>by unfold bT;simp
 | .str x,_=>by unfold bT;simp
 | .lst xs,h=>by unfold Ž at h;unfold bT;exact lJ xs h
 | .tup xs,h=>by unfold Ž at h;unfold bT;exact lJ xs h
 | .ins _ _ _,h=>by simp[Ž] at h
 | .xc _ _ _,h=>by simp[Ž] at h
 | .ty _,h=>by simp[Ž] at h
 | .cls _,h=>by simp[Ž] at h
theorem lJ:∀ps:List PV,aE ps=true->lG ps ps=true
 | [],_=>by unfold lG;rfl
 |p::ps,h=>by unfold aE at h;rw[ē] at h;unfold lG;rw[o_ p h.1,lJ ps h.2];rfl
end
def BE{p:PV}(h:Ž p=true)(hd:qT p<=60):ń p p=some (.bl true):=by unfold ń qB;rw[h,o_ p h,decide_eq_true (by lia:min (qT p) (qT p)<=60)];rfl
def ϯ{a b:Str}(ha:Ĩ a=true)(hb:Ĩ b=true):ń (.str a) (.str b)=some (.bl (decide (a=b))):=by
 have h:bT (.str a) (.str b)=decide (a=b):=by unfold bT;rfl
 unfold ń qB;rw[show Ž (.str a)=true by unfold Ž;exact ha,show Ž (.str b)=true by unfold Ž;exact hb,h];rfl
section
variable{g:Tg}{mt:M Bool}{me:M PV}
theorem gj{α:Type}(c f:α->PV)(q:α->Bool)(I:ć->Prop):∀(xs:List α) (O:ć) (acc:List PV),I O->acc.length+xs.length<=16777216->
 (∀x∈xs,∀O,I O->∃O1 O2,g (c x) O=some O1/\mt O1=.ok (q x) O2/\(q x=false->I O2)/\(q x=true->∃O3,me O2=.ok (f x) O3/\I O3))->Ũ g mt me (xs.map c) O acc=some (acc++(xs.filter q).map f)
 | [],O,acc,_,_,_=>by simp[Ũ]
 |x::xs,O,acc,h,hz,hs=>by
  obtain⟨O1,O2,h1,h2,h3,h4⟩:=hs x ű O h;cases e:q x with
  |true=>obtain⟨O3,h5,h6⟩:=h4 e;rw[e] at h2;rw[Ý,Ũ,h1];dsimp only;rw[h2];dsimp only;rw[h5];dsimp only;rw[if_pos (by simp at hz;lia),gj c f q I xs O3 (acc ++ [f x]) h6 (by simp at hz ⊢;lia) λy hy=>hs y (í _ hy)];simp[e]
  |false=>rw[e] at h2;rw[Ý,Ũ,h1];dsimp only;rw[h2];dsimp only;rw[gj c f q I xs O2 acc (h3 e) (by simp at hz ⊢;lia) λy hy=>hs y (í _ hy)];simp[e]
end
def VH(K:É)(n:Nat)(t:Ci):TG:=λv Y H Q=>∃a xs,v=.ref a/\ϒ K H a xs/\xs.length=n/\t xs Y H Q
section
variable{X:Cx}{cm:String->À}{pos:Pos}
def MK{es:List Æ}{k:Nat}{t:Ci}{n:Nat}(hc:X.calm=true)(h:xG X es t)
 (hn:(Ŵ es X.env).length=n:=by rfl)(vU:(Ŵ es X.env).findIdx? (·.1)=none:=by rfl):PG X (.Tuple es k pos) (VH X.K n t):=by
 intro Ã s Y H v u Q I r hw;obtain⟨a,xs,e1,hq,hl,hw⟩:=hw;subst e1;cases r;obtain⟨ě,rv,ht,hz⟩:=I.list hq;rw[assign_Tuple];refine Ë (cJ ?_);unfold unpack;rw[show(Ŵ es X.env).length=ě.toArray.size by simp[hn,<-hl,rv.length],vU];refine Ë (aJ (PySem.W.kun_itemsOf (I.ok.hd hc) ht.isList λh' hx=>?_));have I1:Inv X Ã Y H {s with heap:=h'}:=I.kept (t':=s.toks) λb o e=>hx b o (ħ (ñ e)) e;exact h Ã _ Y H xs _ Q I1 (by simpa using rv) hw
noncomputable def gS(n:Nat)(gs:B8):Tg:=λp O=>match p with
 | .tup ps=>if ps.length=n then gs ps O else none
 | .lst ps=>if ps.length=n then gs ps O else none
 |_=>none
@[simp] theorem VI{n:Nat}{gs:B8}{ps:List PV}{O:ć}:gS n gs (.tup ps) O=if ps.length=n then gs ps O else none:=rfl
@[simp] theorem VJ{n:Nat}{gs:B8}{ps:List PV}{O:ć}:gS n gs (.lst ps) O=if ps.length=n then gs ps O else none:=rfl
def D0{es:List Æ}{k:Nat}{gs:B8}{n:Nat}(hc:X.calm=true)(h:xG X es (P7 (kk X cm) gs))(hn:(Ŵ es X.env).length=n:=by rfl)(vU:(Ŵ es X.env).findIdx? (·.1)=none:=by rfl):PG X (.Tuple es k pos) (tT (kk X cm) (gS n gs)):=by
 intro Ã s Y H v u Q I r hw;obtain⟨c,F,O,p,rel,rp,hw⟩:=hw;cases p with
 |tup ps=>
  unfold Ć at rp;obtain⟨a,xs,h1,h2,h3⟩:=rp;unfold gS at hw;dsimp only at hw;split at hw
  ·rename_i hl;exact ux hc h hn vU Ã s Y H v u Q I r ⟨a,xs,h1,Õ.tup rel.sub h2,by rw[<-h3.length];exact hl,c,F,O,ps,rel,h3,hw⟩
  ·exact hw.elim
 |lst ps=>
  unfold Ć at rp;obtain⟨a,xs,h1,h2,h3⟩:=rp;unfold gS at hw;dsimp only at hw;split at hw
  ·rename_i hl;exact MK hc h hn vU Ã s Y H v u Q I r ⟨a,xs,h1,rel.sub.seq h2,by rw[<-h3.length];exact hl,c,F,O,ps,rel,h3,hw⟩
  ·exact hw.elim
 |_=>exact hw.elim
end
section
end
def ę.keep{K:KK}{c:Ctx}{F H H':Hp}{Y:Ą}{O:ć}(r:ę K c F H Y O)(e:Õ H H'):ę K c F H' Y O:= r.call ⟨e,Õ.refl F,r.sub.trans e,λ_ _ h=>h⟩
def ę.ML{K:KK}{c:Ctx}{F H:Hp}{Y:Ą}{O:ć}(r:ę K c F H Y O){i:Nat}{ps qs rs:List PV}(e:O[i]?=some (.ot ps qs rs)):∃F',Õ F F'/\ę K c F' H Y (O.set i (.sh (.tup (ps ++ .lst qs::rs)))):=by
 obtain⟨p,a,xs,vs,ys,h1,h2,h3,h4,h5,h6,h7,h8⟩:=r.slot i _ e;obtain⟨m1,m2⟩:=r.move (a:=a) ⟨_,_,e,ŏ h1,p,xs,ys,rfl,h2,h3.length.symm⟩;have ra:Ć K (upd F a (.lst vs)) (.lst qs) (.ref a):=by unfold Ć;exact⟨a,vs,rfl,ϒ.of ã,h7.same (Õ.upd h5) qs vs⟩
 have rp:Ć K (upd F a (.lst vs)) (.tup (ps ++ .lst qs::rs)) (.ref p):=by unfold Ć;exact⟨p,_,rfl,eQ.of (Õ.upd h5 _ _ h2),Û.append (h3.same (Õ.upd h5) ps xs) (Û.cons ra (h8.same (Õ.upd h5) rs ys))⟩
 have q:=(m1.freeze h4 h6 h5 m2).C4 (i:=i) (s:=.sh (.tup (ps ++ .lst qs::rs))) rfl (show ϩ K c _ H _ (.sh (.tup (ps ++ .lst qs::rs))) from⟨.ref p,by rw[ŏ h1];rfl,rp⟩);rw[List.set_set] at q;exact⟨_,Õ.upd h5,q⟩
noncomputable def rW(i:Nat)(m:M Bool):M Bool:=λO=>match O[i]? with
 |some (.ot ps qs rs)=>match m (O.set i (.sh (.tup (ps ++ .lst qs::rs)))) with
  | .ok b _=>.ok b O
  |_=>.bad
 |_=>m O
section
variable{X:Cx}{cm:String->À}{E:Ą->XK}{e o:Æ}{es:List Æ}{pos:Pos}{m:M Bool}{mo:M RV}{ma:M PV}
def MM(i:Nat)(h:PT X e (tB (kk X cm) E m)):PT X e (tB (kk X cm) E (rW i m)):=PT.wk h λY H Q ⟨c,F,O,rel,h⟩=>by
 unfold rW at h;cases e1:O[i]? with
 |none=>rw[e1] at h;exact⟨c,F,O,rel,h⟩
 |some s=>
  rw[e1] at h;cases s with
  |ot ps qs rs=>
   obtain⟨F',sF,Ś⟩:=rel.ML e1;refine⟨c,F',_,Ś,?_⟩;dsimp only at h;cases em:m (O.set i (.sh (.tup (ps ++ .lst qs::rs)))) with
   |ok b O1=>rw[em] at h;exact λv F2 H2 r1 s1 s2 q=>h v F H2 (rel.keep s2) Ď s2 q
   |exc x O1=>rw[em] at h;exact h.elim
   |bad=>rw[em] at h;exact h.elim
  |_=>exact⟨c,F,O,rel,h⟩
structure MN where
 ps:List PV
 r:RV
 rs:List PV
def S_(K:KK):RR MN (List V):=λc Y O F H r vs=>∃xs v ys,vs=xs++v::ys/\Û K F r.ps xs/\rO K c Y O F H r.r v/\Û K F r.rs ys
@[simp] def Ic(mo:M RV)(O:ć):ĳ MN:= (mo O).bind λr O1=>.ok ⟨[],r,[]⟩ O1
@[simp] def yo(ma:M PV)(mr:M MN)(O:ć):ĳ MN:= (ma O).bind λp O1=>(mr O1).bind λr O2=>.ok ⟨p::r.ps,r.r,r.rs⟩ O2
def MO(he:PE X e (tO (kk X cm) E mo))(hs:Ö [e] X.env=(false,eval e X.env)::Ö [] X.env:=by exact ώ rfl):PA X [e] (tG (kk X cm) E (S_ (kk X cm)) (Ic mo)):=
 PA.wk (Ϥ he aN hs) λY H Q ⟨c,F,O,rel,h⟩=>⟨c,F,O,rel,h.bind λr O1 v F1 H1 Ù _ _ r1 h1=>h1 _ F1 H1 Ù Ď Ď ⟨[],v,[],rfl,Û.nil,r1,Û.nil⟩⟩
def AN{mr:M MN}(ha:PE X e (tV (kk X cm) E ma))(hr:PA X es (tG (kk X cm) E (S_ (kk X cm)) mr))(hs:Ö (e::es) X.env=(false,eval e X.env)::Ö es X.env:=by exact ώ rfl):PA X (e::es) (tG (kk X cm) E (S_ (kk X cm)) (yo ma mr)):=
 PA.wk (Ϥ ha hr hs) λY H Q ⟨c,F,O,rel,h⟩=>⟨c,F,O,rel,h.bind λp O1 v F1 H1 Ù _ _ r1 h1=>⟨c,F1,O1,Ù,h1.bind λr O2 vs F2 H2 Ę sF sH ⟨xs,u,ys,e1,e2,e3,e4⟩ h2=>h2 _ F2 H2 Ę Ď Ď ⟨v::xs,u,ys,by rw[e1];rfl,Û.cons (Ć.same sF p v r1) e2,e3,e4⟩⟩⟩
@[simp] def Ie(mr:M MN)(O:ć):ĳ RV:= (mr O).bind fun r O1=>if r.ps.length+r.rs.length<16777216 then(match r.r with
  | .ow qs=>.ok (.ot r.ps qs r.rs) O1
  | .sh p=>.ok (.sh (.tup (r.ps++p::r.rs))) O1
  |_=>.bad) else .bad
def MP{x1}{mr:M MN}(h:PA X es (tG (kk X cm) E (S_ (kk X cm)) mr)):PE X (.Tuple es x1 pos) (tO (kk X cm) E (Ie mr)):=PE.wk (CA h) λY H Q ⟨c,F,O,rel,h⟩=>
 ⟨c,F,O,rel,h.bind fun r O1 vs F1 H1 Ù _ _ ⟨xs,v,ys,e1,e2,e3,e4⟩ h1=>by
   subst e1;split at h1
   ·rename_i hz;refine⟨by rw[Ī,<-e2.length,č];simp only[þ,<-e4.length];lia,λp hp=>?_⟩;have Ę:=Ù.alloc (o:=.tup (xs++v::ys)) hp;have sF:Õ F1 (upd F1 p (.tup (xs++v::ys))):=Õ.upd (Ù.sub.free hp);obtain⟨ps,rv,rs⟩:=r;cases rv with
    |sh q=>refine h1 _ _ _ Ę sF (Õ.upd hp) ?_;show Ć _ _ _ _;unfold Ć;exact⟨p,_,rfl,eQ.of ã,Û.append (e2.same sF ps xs) (Û.cons (Ć.same sF q v e3) (e4.same sF rs ys))⟩
    |ow qs=>
     obtain⟨a,vs,rfl,q1,q2,q3,q4,q5⟩:=e3;have na:a≠p:=λz=>by rw[z,hp] at q1;cases q1
     exact h1 _ _ _ Ę sF (Õ.upd hp) ⟨p,a,xs,vs,ys,rfl,ã,e2.same sF ps xs,by rw[Ú na];exact q1,by rw[Ú na];exact q2,q3,Ù.gU sF q4,q5.same sF qs vs,e4.same sF rs ys⟩
    |ot _ _ _=>exact h1.elim
    |bn _ _ _ _=>exact h1.elim
   ·exact h1.elim⟩
@[simp] theorem VL{ps qs rs:List PV}:(RV.ot ps qs rs).val=.tup (ps ++ .lst qs::rs):=rfl
@[simp] theorem VM{ps qs rs:List PV}:(RV.ot ps qs rs).slot=.ot ps qs rs:=rfl
@[simp] theorem S0{i:Nat}{O:ć}:rW i m O=(match O[i]? with
  |some (.ot ps qs rs)=>match m (O.set i (.sh (.tup (ps ++ .lst qs::rs)))) with
   | .ok b _=>.ok b O
   |_=>.bad
  |_=>m O):=rfl
end
section
end
section
end
section
end
section
end
section
end
section
end
section
end
open M5
section
end
section
end
section
end
section
end
def Qx(K:É):R2:=λx y H Q=>∃a b xs,x=.ref a/\y=.ref b/\ϒ K H a xs/\ϒ K H b []/\Q (.bl (!xs.isEmpty)) H
def D2{X:Cx}(hu:X.A.units+64<ϝ):aD X (ı .NotEq) (Qx X.K):=by
 intro Ã s Y H x y v u Q I rx ry h;obtain⟨a,b,xs,rfl,rfl,h1,h2,q⟩:=h;cases rx;cases ry;obtain⟨ě,rv,⟨o,n,e,hc,hdd,hd⟩,hz⟩:=I.list h1;obtain⟨its',rv',⟨o',n',e',Qqq7,Zad,KC⟩,hz'⟩:=I.list h2;have l:=rv.length;have l':=rv'.length;cases xs with
 |nil=>cases rv;cases rv';exact PySem.SeqAt.RcNeAt.lists (e:=λ_=>true) ⟨o,e,hc,n,hd⟩ ⟨o',e',Qqq7,n',KC⟩ rfl (by lia) (λj j1 _=>absurd j1 (Nat.not_lt_zero _)) _ _ _ _ ⟨.bl _,H,I,rfl,q⟩
 |cons x xs=>exact PySem.SeqAt.RcNeAt.lists_lengths ⟨o,e,hc,n,hd⟩ ⟨o',e',Qqq7,n',KC⟩ (by simp at l l' ⊢;lia) (by lia) _ _ _ _ ⟨.bl _,H,I,rfl,q⟩
noncomputable def wM(p q:PV):Option PV:=match p,q with
 | .lst xs,.lst []=>some (.bl (!xs.isEmpty))
 |_,_=>none
theorem wN{K:KK}{F:Hp}:∀{ps:List PV} {vs:List V},Û K F ps vs->vs.isEmpty=ps.isEmpty
 | [],vs,h=>by unfold Û at h;rw[h];rfl
 |p::ps,vs,h=>by unfold Û at h;obtain⟨x,t,rfl,_,_⟩:=h;rfl
def wO{K:KK}{c:Ctx}{F H:Hp}{Y:Ą}{O:ć}{ps:List PV}{v:V}(s:Õ F H)(r:rR K c Y O F H (.lst ps) v):∃a vs,v=.ref a/\ϒ K.K H a vs/\vs.isEmpty=ps.isEmpty:=by
 rcases r with r|r
 ·unfold Ć at r;obtain⟨a,vs,h1,h2,h3⟩:=r;exact⟨a,vs,h1,s.seq h2,wN h3⟩
 ·obtain⟨a,vs,h1,h3,h4⟩:=r;exact⟨a,vs,h1,ϒ.of h3,wN h4⟩
def D3{K:KK}:kM K (Qx K.K) wM:=by
 intro c F H Y O p q pv v u Q rel r1 r2 e k;unfold wM at e;split at e
 ·cases e;obtain⟨a,xs,h1,h2,h3⟩:=wO rel.sub r1;obtain⟨b,ys,k1,k2,k3⟩:=wO rel.sub r2;have:ys=[]:=by simpa using k3
  subst this;refine⟨a,b,xs,h1,k1,h2,k2,?_⟩;rw[h3];exact k _ F H rel Ď Ď Ć.bl
 ·cases e
@[simp] theorem VN{xs:List PV}:wM (.lst xs) (.lst [])=some (.bl (!xs.isEmpty)):=rfl
section
end
def BN:Nat->(List Á->Prop)->Prop
 |0,p=>p []
 |n+1,p=>∀u,BN n λus=>p (u::us)
theorem uY:∀{n:Nat} {p:List Á->Prop},BN n p->∀us,us.length=n->p us
 |0,p,h,[],_=>h
 |0,p,h,_::_,e=>by cases e
 |n+1,p,h,[],e=>by cases e
 |n+1,p,h,u::us,e=>uY (h u) us (Nat.succ.inj e)
structure Df(K:É)(mg:Str->Option Á)(x:Str)(st:Ò)(ps:List Str)(f:À)(fd:Ė):Prop where
 F:B6 K x x st f fd
 m:mg x=some (.ref f)
 b:Binds K fd ps []
 bb:∀(s:Â) (us:List Á),us.length=ps.length->cG s fd ⟨us,[]⟩ (ps.zip us)
structure Dm(K:É)(C:À)(x q:Str)(st:Ò)(ps:List Str)(f:À)(fd:Ė):Prop where
 F:B6 K x q st f fd
 b:Binds K fd ps []
section
variable{K:É}{h:Ð}{mg:Str->Option Á}{x q:Str}{st:Ò}{ps:List Str}{f C:À}{oc kV dc pm cd ct:Á}{od an:Option À}{sl:Array (Option Á)}
def Į(X:K.In h)(G:h.Ns Ϛ mg)(hb:∀(kV dc pm:Á) (an:Option À) (cd ct:Á),BN ps.length λus=>bindArgs (Ϣ x x (bJ st) (Ŧ st) (Ó st) .none kV dc pm an cd ct) ⟨us,[]⟩=ç (ps.zip us))
 (a:PySem.W.nsIn K Ϛ x=some (some (.ref f)))(l:K.lookup f=some ⟨oc,od,.func (Ϣ x x (bJ st) (Ŧ st) (Ó st) .none kV dc pm an cd ct),sl⟩)(c:iO K cd x=true)(k:Ţ K (.ref f)=true) :
 Df K mg x st ps f (Ϣ x x (bJ st) (Ŧ st) (Ó st) .none kV dc pm an cd ct):=
 have F:=CI (st:=st) l c k
 ⟨F,ģ X G a,F.binds λkV dc pm an cd ct us hl=>uY (hb kV dc pm an cd ct) us hl,λs us hl=>.of_eq (uY (hb kV dc pm an cd ct) us hl)⟩
def l_(hb:∀(kV dc pm:Á) (an:Option À) (cd ct:Á),BN ps.length λus=>bindArgs (Ϣ x q (bJ st) (Ŧ st) (Ó st) .none kV dc pm an cd ct) ⟨us,[]⟩=ç (ps.zip us))
 (a:Ĭ K (.ref C) x=some (some (.ref f)))(l:K.lookup f=some ⟨oc,od,.func (Ϣ x q (bJ st) (Ŧ st) (Ó st) .none kV dc pm an cd ct),sl⟩)(c:iO K cd q=true)(k:Ţ K (.ref f)=true) :
 Dm K C x q st ps f (Ϣ x q (bJ st) (Ŧ st) (Ó st) .none kV dc pm an cd ct):=
 have F:=CI (st:=st) l c k
 ⟨F,F.binds λkV dc pm an cd ct us hl=>uY (hb kV dc pm an cd ct) us hl⟩
end
def dr{N ps:List Str}{sc:õ}(h1:sc.kind=.function:=by rfl)(h2:sc.isCoroutine=false:=by rfl)(h3:sc.isGenerator=false:=by rfl)(h4:N.Nodup:=by decide +kernel)(h5:N.take ps.length=ps:=by rfl)(h6:∀x∈ps,sc.names.lookup x=some .local\/sc.names.lookup x=some .cell:=by decide +kernel)
 (h7:∀y∈sc.names,y.2≠ .free:=by decide +kernel):æ N ps sc:=⟨h1,h2,h3,h4,h5,h6,h7⟩
section
variable{X:Cx}{cm:String->À}{E:Ą->XK}{CX:ji}{k j n:Nat}{f:À}{fd:Ė}{ps:List Str}{mf:MF}{mr:M (List Slot)}{x:Str}{st:Ò}{p pos:Pos}{e:Æ}{es:List Æ}
def è(F:Ě X.prog X.w X.K X.mg X.base CX k f fd ps (bM (kk X cm) n mf))(D:Df X.K X.mg x st ps f fd)(hr:ϊ j X.A)(hx:ϥ CX X E)
 (ha:PA X (e::es) (tA (kk X cm) E mr))(hlen:∀{ps:List Slot},(∃r,mf ps=r/\∀z,r=z->z≠ .bad)->ps.length=n:=by exact aQ)(hg:Gl X x:=by rfl)(Xf:k<=j:=by decide)(lq:(x== ("__debug__" :Str))=false:=by decide)(he:Ö (e::es) X.env=(false,eval e X.env)::Ö es X.env:=by exact ώ rfl)(hpl:(ĝ pos (Ö es X.env)).any (·.1)=false:=by rfl) :
 PE X (.Call (.Name x p) (e::es) [] pos) (tO (kk X cm) E (ā mf mr)):=LZ F hlen (hr.mono Xf) hg D.m D.F.kp D.b hx ha lq he hpl
end
section
variable{Pg:Þ}{w:Ø}{K:É}{mg:Str->Option Á}{base:Ð}{CX:ji}{cm:String->À}
def ύ{x ý:Str}{st:Ò}{f:À}{fd:Ė}{N ps:List Str}{k n j:Nat}{mb:M Fl}{mf:MF}(F:B6 K x ý st f fd)(S:æ N ps (Ó st))
 (dF:∀(ĺ:Á) (A:à) (outer:List Env) (s:Â) (H:Hp) (E:XK),ϊ k (A.deeper (ú ý (Ó st) s.heap.objs.size f ĺ))→(A.deeper (ú ý (Ó st) s.heap.objs.size f ĺ)).units+64<ϝ→
   ay (ŭ CX Pg w K mg base N ý (Ó st) f ĺ A outer s H E) (Ŧ st) (tS ⟨K,cm⟩ (λ_=>E) mb))(hn:ps.length=n:=by rfl)(hj:N.length=j:=by rfl)(hf:mf=ś n j mb:=by rfl):Ě Pg w K mg base CX (k+1) f fd ps (bM ⟨K,cm⟩ n mf):=
 fnQ F S hn hj hf λĺ A outer s H E hr=>dF ĺ A outer s H E hr hr.units
end
section
end
noncomputable def tgN:Æ->List Str
 | .Name x _=>[x]
 | .Tuple es _ _=>es.flatMap fun e=>match e with
   | .Name x _=>[x]
   |_=>[]
 |_=>[]
def cN(X:Cx)(js:List Nat)(tg:Æ):List Str:=js.map (λ(j:Nat)=>(X.N[j]?).getD "")++tgN tg
def ndB{l:List Str}(h:decide l.Nodup=true):l.Nodup:=of_decide_eq_true h
def frB{a b:õ}(h:(a.names.all λy=>decide (y.2=.free->(b.names.lookup y.1=some .cell\/b.names.lookup y.1=some .free)))=true):∀y∈a.names,y.2=.free->(b.names.lookup y.1=some .cell\/b.names.lookup y.1=some .free):=λy hy=>of_decide_eq_true (aH.mp h y hy)
section
end
section
end
section
end
section
variable{X:Cx}{cm:String->À}{E:Ą->XK}{a b e:Æ}{es:List Æ}{ma mb m:M PV}{mo:M RV}{pos p:Pos}
def Ñ{i j pos}:PE X (.Constant (.int i) j pos) (tR (kk X cm) E (mC (.int i))):=ï œ
def AO{j pos}:PE X (.Constant .none j pos) (tR (kk X cm) E (mC .non)):=ï lS
def Ź{x j pos}:PE X (.Constant (.str x) j pos) (tR (kk X cm) E (mC (.str x))):=ï û
def bN(ha:PE X a (tR (kk X cm) E ma))(hb:PE X b (tR (kk X cm) E mb))(hs:nP b:=by exact λ_ _=>rfl):PE X (.Subscript a b pos) (tV (kk X cm) E (Ô ė ma mb)):=UE Qb PK ha hb hs
def Ŕ(ha:PE X a (tR (kk X cm) E ma))(hb:PE X b (tR (kk X cm) E mb))(hs:nP b:=by exact λ_ _=>rfl):PE X (.Subscript a b pos) (tR (kk X cm) E (Ô ė ma mb)):=ï (bN ha hb hs)
def v_mod(ha:PE X a (tR (kk X cm) E ma))(hb:PE X b (tR (kk X cm) E mb)):PE X (.BinOp a .Mod b pos) (tV (kk X cm) E (Ô ğ ma mb)):=rD Md LA ha hb
def Ĵ(ha:PE X a (tR (kk X cm) E ma))(hb:PE X b (tR (kk X cm) E mb)):PE X (.BinOp a .Mod b pos) (tR (kk X cm) E (Ô ğ ma mb)):=ï (v_mod ha hb)
def v_mul(ha:PE X a (tR (kk X cm) E ma))(hb:PE X b (tR (kk X cm) E mb)):PE X (.BinOp a .Mult b pos) (tV (kk X cm) E (Ô Ş ma mb)):=rD Me Gb ha hb
def jo(ha:PE X a (tR (kk X cm) E ma))(hb:PE X b (tR (kk X cm) E mb)):PE X (.BinOp a .Mult b pos) (tR (kk X cm) E (Ô Ş ma mb)):=ï (v_mul ha hb)
def v_sub(ha:PE X a (tR (kk X cm) E ma))(hb:PE X b (tR (kk X cm) E mb)):PE X (.BinOp a .Sub b pos) (tV (kk X cm) E (Ô aY ma mb)):=rD Mb Ly ha hb
def AQ(ha:PE X a (tR (kk X cm) E ma))(hb:PE X b (tR (kk X cm) E mb)):PE X (.BinOp a .Sub b pos) (tR (kk X cm) E (Ô aY ma mb)):=ï (v_sub ha hb)
def D4(ha:PE X a (tR (kk X cm) E ma))(hb:PE X b (tR (kk X cm) E mb)):PE X (.BinOp a .FloorDiv b pos) (tV (kk X cm) E (Ô jm ma mb)):=rD Mc FX ha hb
def AR(ha:PE X a (tR (kk X cm) E ma))(hb:PE X b (tR (kk X cm) E mb)):PE X (.BinOp a .FloorDiv b pos) (tR (kk X cm) E (Ô jm ma mb)):=ï (D4 ha hb)
def ci(ha:PE X a (tR (kk X cm) E ma))(hb:PE X b (tR (kk X cm) E mb)):PE X (.BinOp a .Add b pos) (tO (kk X cm) E (Ĉ ô ma mb)):=P_ L8 L7 ha hb
def v_add(ha:PE X a (tR (kk X cm) E ma))(hb:PE X b (tR (kk X cm) E mb)):PE X (.BinOp a .Add b pos) (tV (kk X cm) E (ß (Ĉ ô ma mb))):=ÿ (ci ha hb)
def ag(ha:PE X a (tR (kk X cm) E ma))(hb:PE X b (tR (kk X cm) E mb)):PE X (.BinOp a .Add b pos) (tR (kk X cm) E (ß (Ĉ ô ma mb))):=ï (v_add ha hb)
def bR(hu:X.A.units+64<ϝ)(ha:PE X a (tR (kk X cm) E ma))(hb:PE X b (tR (kk X cm) E mb)):PT X (.Compare a [.Eq] [b] pos) (tB (kk X cm) E (bU (Ô ń ma mb))):=df HN (CS hu) ha hb (ŷ _)
def D5(hu:X.A.units+64<ϝ)(ha:PE X a (tR (kk X cm) E ma))(hb:PE X b (tR (kk X cm) E mb)):PT X (.Compare a [.NotEq] [b] pos) (tB (kk X cm) E (bU (Ô jC ma mb))):=df HP (CT hu) ha hb (ŷ _)
def v_eq(hu:X.A.units+64<ϝ)(ha:PE X a (tR (kk X cm) E ma))(hb:PE X b (tR (kk X cm) E mb)):PE X (.Compare a [.Eq] [b] pos) (tV (kk X cm) E (Ô ń ma mb)):=lU HN (CS hu) ha hb (ŷ _)
def aa(he:PE X e (tO (kk X cm) E mo)):ay X [.Return (some e) pos] (tS (kk X cm) E (Ħ mo)):=Ĝ (P6 he)
def ş(he:PE X e (tV (kk X cm) E m)):ay X [.Return (some e) pos] (tS (kk X cm) E (Ħ (aw m))):=aa (jf he)
def GL{N ps:List Str}{sc:õ}{i:Nat}{x:Str}{bW:Pos}(S:æ N ps sc)(he:PE X e (tO (kk X cm) E mo))(hN:X.N=N:=by rfl)(hi:X.N[i]?=some x:=by rfl)(hx:Loc X.env.scope x:=by first|exact ĕ rfl|exact ĉ rfl)(hs:ŗ e (some (.Name x bW)) pos.line X.env=ç false:=by rfl)(hf:X.fn x=true\/X.env.scope.names.lookup x=some .local:=by first|exact .inl rfl|exact .inr rfl|assumption) :
 PS X (.Assign [.Name x bW] e pos) (tS (kk X cm) E (Ń i mo)):=P5 (hN▸S.nd) hi hx he hs hf
def ů{N ps:List Str}{sc:õ}{i:Nat}{x:Str}{bW:Pos}{ü:List Ò}{m2:M Fl}(S:æ N ps sc)(he:PE X e (tO (kk X cm) E mo))(h2:ay X ü (tS (kk X cm) E m2))(hN:X.N=N:=by rfl)(hi:X.N[i]?=some x:=by rfl)(hx:Loc X.env.scope x:=by first|exact ĕ rfl|exact ĉ rfl)(hs:ŗ e (some (.Name x bW)) pos.line X.env=ç false:=by rfl)(hf:X.fn x=true\/X.env.scope.names.lookup x=some .local:=by first|exact .inl rfl|exact .inr rfl|assumption) :
 ay X (.Assign [.Name x bW] e pos::ü) (tS (kk X cm) E (ą (Ń i mo) m2)):=å (GL S he hN hi hx hs hf) h2
def gk{N ps:List Str}{sc:õ}{i:Nat}{x:Str}(S:æ N ps sc)(hN:X.N=N:=by rfl)(hi:X.N[i]?=some x:=by rfl)(hx:Loc X.env.scope x:=by first|exact ĕ rfl|exact ĉ rfl)(hf:X.fn x=true\/X.env.scope.names.lookup x=some .local:=by first|exact .inl rfl|exact .inr rfl|assumption):PG X (.Name x pos) (tT (kk X cm) (gN i)):=C8 (hN▸S.nd) hi hx hf
def gH{i:Nat}{x:Str}(hN:X.N.Nodup:=by exact ndB (by kernel_rfl))(hi:X.N[i]?=some x:=by rfl)(hx:Loc X.env.scope x:=by first|exact ĕ rfl|exact ĉ rfl)(hf:X.fn x=true\/X.env.scope.names.lookup x=some .local:=by first|exact .inl rfl|exact .inr rfl):PG X (.Name x pos) (tT (kk X cm) (gN i)):=C8 hN hi hx hf
def Ċ(i:Nat){x:Str}{px:Pos}{ms:M (List Slot)}(hr:PA X es (tA (kk X cm) E ms))(hN:X.N[i]?=some x:=by rfl)(hv:Bi X.env.scope x:=by first|exact ĕ rfl|exact ĉ (ĕ rfl)|exact ĉ (ĉ rfl))(hd:(x== ("__debug__" :Str))=false:=by decide)
 (gE:(x== ("__classdict__" :Str))=false:=by decide)(hs:Ö (.Name x px::es) X.env=(false,eval (.Name x px) X.env)::Ö es X.env:=by exact ώ rfl):PA X (.Name x px::es) (tA (kk X cm) E (ä i ms)):=Gd i hN hv hd gE hr hs
def ź{id:String}{x:Str}{r:List V->Hp->VK->Prop}{f:List PV->Option PV}{mr:M (List PV)}(hc:Ŝ X (.builtin id) r)(hf:dh (kk X cm) r f)(hm:X.mg x=none)(hv:bv x=some (.builtin id))(ha:PA X (e::es) (Fs (kk X cm) E mr))(hg:Gl X x:=by rfl)(hn:x≠ "__name__" := by decide)(lq:(x== ("__debug__" :Str))=false:=by decide)
 (he:Ö (e::es) X.env=(false,eval e X.env)::Ö es X.env:=by rfl)(hpl:(ĝ pos (Ö es X.env)).any (·.1)=false:=by rfl):PE X (.Call (.Name x p) (e::es) [] pos) (tV (kk X cm) E (aP f mr)):=PE.wk (oz hc hg hm hv ha hn lq he hpl) λ_ _ _ h=>P4 hf h
def wP{T:String}{x:Str}{r:List V->Hp->VK->Prop}{f:List PV->Option PV}{mr:M (List PV)}(hc:Ŝ X (.type T) r)(hf:dh (kk X cm) r f)(hm:X.mg x=none)(hv:bv x=some (.type T))(ha:PA X (e::es) (Fs (kk X cm) E mr))(hg:Gl X x:=by rfl)(hn:x≠ "__name__" := by decide)(lq:(x== ("__debug__" :Str))=false:=by decide)
 (he:Ö (e::es) X.env=(false,eval e X.env)::Ö es X.env:=by rfl)(hpl:(ĝ pos (Ö es X.env)).any (·.1)=false:=by rfl):PE X (.Call (.Name x p) (e::es) [] pos) (tV (kk X cm) E (aP f mr)):=PE.wk (rj hc hg hm hv ha hn lq he hpl) λ_ _ _ h=>P4 hf h
def uZ{T:String}{x:Str}{r:List V->Hp->VK->Prop}{f:List PV->Option RV}{mr:M (List PV)}(hc:Ŝ X (.type T) r)(hf:C5 (kk X cm) r f)(hm:X.mg x=none)(hv:bv x=some (.type T))(ha:PA X (e::es) (Fs (kk X cm) E mr))(hg:Gl X x:=by rfl)(hn:x≠ "__name__" := by decide)(lq:(x== ("__debug__" :Str))=false:=by decide)
 (he:Ö (e::es) X.env=(false,eval e X.env)::Ö es X.env:=by rfl)(hpl:(ĝ pos (Ö es X.env)).any (·.1)=false:=by rfl):PE X (.Call (.Name x p) (e::es) [] pos) (tO (kk X cm) E (uL f mr)):=PE.wk (rj hc hg hm hv ha hn lq he hpl) λ_ _ _ h=>UH hf h
end
section
variable{X:Cx}{cm:String->À}{E:Ą->XK}{elt tg iter:Æ}{ifs:List Æ}{scope:õ}{pos:Pos}{mi:M (List PV)}{g:Tg}{mt:M Bool}{me:M PV}{js:List Nat}{nl:Nat}
structure CF(X:Cx)(js:List Nat)(nl:Nat)(tg iter:Æ)(scope:õ):Prop where
 hcap:jj X.Ŭ X.env.scope scope (cN X js tg) js
 hcalm:X.calm=true
 hlen:js.length+nl=(cN X js tg).length
 hk:scope.kind=.function
 hcell:∀y∈scope.names,y.2=.cell->scope.names.lookup y.1=some .cell
 hnames:∀y∈scope.names,y.2=.local->scope.names.lookup y.1=some .local
 hfree:∀y∈scope.names,y.2=.free->(X.env.scope.names.lookup y.1=some .cell\/X.env.scope.names.lookup y.1=some .free)
 hs:∀x,bA iter X.env x=ç x
def cf(hcap:jj X.Ŭ X.env.scope scope (cN X js tg) js:=by repeat' first|exact True.intro|refine⟨rfl,⟨rfl,by first|exact ĕ rfl|exact ĉ rfl⟩,?_⟩)(hcalm:X.calm=true:=by rfl)(hlen:js.length+nl=(cN X js tg).length:=by rfl)
 (hk:scope.kind=.function:=by rfl)(hcell:∀y∈scope.names,y.2=.cell->scope.names.lookup y.1=some .cell:=by decide +kernel)(hnames:∀y∈scope.names,y.2=.local->scope.names.lookup y.1=some .local:=by decide +kernel)
 (hfree:∀y∈scope.names,y.2=.free->(X.env.scope.names.lookup y.1=some .cell\/X.env.scope.names.lookup y.1=some .free):=by exact frB (by kernel_rfl))(hs:∀x,bA iter X.env x=ç x:=by intro _;rfl):CF X js nl tg iter scope:=⟨hcap,hcalm,hlen,hk,hcell,hnames,hfree,hs⟩
def VO(hi:PI X.Ŭ tg iter (tG (kk X cm) E (Dd (kk X cm)) mi))(hg:∀{cl C s H fp},PG (dH X.Ŭ (cN X js tg) scope cl C s H fp) tg (tT (kk X cm) g))(ht:∀{cl C s H fp},Bs (dH X.Ŭ (cN X js tg) scope cl C s H fp) ifs (tB (kk X cm) EF mt))(he:∀{cl C s H fp},PE (dH X.Ŭ (cN X js tg) scope cl C s H fp) elt (tV (kk X cm) EF me))(h:CF X js nl tg iter scope:=by exact cf) :
 PE X (.ListComp elt [⟨tg,iter,ifs,0⟩] scope pos) (tO (kk X cm) E (ϻ js nl mi g mt me)):=Gi (cN X js tg) js nl X.env.scope rfl h.hcalm hi (λ_ _ _ _ _=>hg) (λ_ _ _ _ _=>ht) (λ_ _ _ _ _=>he) h.hcap h.hlen h.hk h.hcell h.hnames h.hfree h.hs
def kT(hi:PI X.Ŭ tg iter (tI (kk X cm) E mi))(hg:∀{cl C s H fp},PG (dH X.Ŭ (cN X js tg) scope cl C s H fp) tg (tT (kk X cm) g))(ht:∀{cl C s H fp},Bs (dH X.Ŭ (cN X js tg) scope cl C s H fp) ifs (tB (kk X cm) EF mt))(he:∀{cl C s H fp},PE (dH X.Ŭ (cN X js tg) scope cl C s H fp) elt (tV (kk X cm) EF me))(h:CF X js nl tg iter scope:=by exact cf) :
 PE X (.ListComp elt [⟨tg,iter,ifs,0⟩] scope pos) (tO (kk X cm) E (ϻ js nl mi g mt me)):=VO (HI hi) hg ht he h
def Qy{N ps:List Str}{sc:õ}{i:Nat}{y:Str}{py xF:Pos}(S:æ N ps sc)(hi:PI X.Ŭ tg iter (tI (kk X cm) E mi))(hg:∀{cl C s H fp},PG (dH X.Ŭ (cN X js tg) scope cl C s H fp) tg (tT (kk X cm) g))(ht:∀{cl C s H fp},Bs (dH X.Ŭ (cN X js tg) scope cl C s H fp) ifs (tB (kk X cm) EF mt))(he:∀{cl C s H fp},PE (dH X.Ŭ (cN X js tg) scope cl C s H fp) elt (tV (kk X cm) EF me))
 (h:CF X js nl tg iter scope:=by exact cf)(hN:X.N=N:=by rfl)(Xd:X.N[i]?=some y:=by rfl)(hy:X.env.scope.names.lookup y=some .local:=by rfl)(R9:ŗ (.ListComp elt [⟨tg,iter,ifs,0⟩] scope pos) (some (.Name y py)) xF.line X.env=ç true:=by rfl) :
 PS X (.Assign [.Name y py] (.ListComp elt [⟨tg,iter,ifs,0⟩] scope pos) xF) (tS (kk X cm) E (Ń i (ϻ js nl mi g mt me))):=MC (hN▸S.nd) Xd hy (cN X js tg) js nl X.env.scope rfl h.hcalm hi (λ_ _ _ _ _=>hg) (λ_ _ _ _ _=>ht) (λ_ _ _ _ _=>he) h.hcap h.hlen h.hk h.hcell h.hnames h.hfree h.hs R9
end
end P
namespace M5
open PySem PySem.Spec PyProof.Rows L2 M2 M3
section
end
section
end
end M5
namespace P
open PySem PySem.Spec PyProof.Rows L2 M2 M3 M5
section
end
end P
namespace PySem
namespace F
end F
section
end
end PySem
namespace P
open PySem PySem.Spec PyProof.Rows L2 M2 M3 M4
section
end
section
end
section
end
section
end
section
end
section
end
section
end
section
end
abbrev QA(α:Type):=Ctx->Hp->α->V->Prop
def QB{α:Type}(K:KK)(RI:QA α)(Lh F:Hp)(J:It)(ò:List α):Prop:=∀(c:Ctx) (i:Nat) (F2 H:Hp) (Y:Ą) (O:ć),ę K c F2 H Y O->Õ F F2->Õ Lh H->Õ Lh c.L->
 (∀p,ò[i]?=some p->J.go i H/\∀x H',J.Pk i H x H'->∃F3,ę K c F3 H' Y O/\Õ F2 F3/\Õ H H'/\RI c F3 p x)/\(i=ò.length->J.stop i H)
def MQ{α:Type}(K:KK)(RI:QA α):RR (List α) It:=λ_ _ _ F H ò J=>QB K RI (bo F H).L F J ò
def VP{α:Type}(K:KK)(RI:QA α)(g:α->ć->Option ć):TG:=λv Y H Q=>∃c F O p,ę K c F H Y O/\RI c F p v/\LY K c F H Q (g p O)
noncomputable def du{α:Type}(g:α->ć->Option ć)(mt:M Bool)(me:M PV):List α->ć->List PV->Option (List PV)
 | [],_,acc=>some acc
 |p::ps,O,acc=>match g p O with
  |none=>none
  |some O1=>match mt O1 with
   | .ok true O2=>match me O2 with
     | .ok q O3=>if acc.length<16777216 then du g mt me ps O3 (acc ++ [q]) else none
     |_=>none
   | .ok false O2=>du g mt me ps O2 acc
   |_=>none
def jH{α:Type}(js:List Nat)(nl:Nat)(mi:M (List α))(g:α->ć->Option ć)(mt:M Bool)(me:M PV):M RV:=λO=>(mi O).bind λò O1=>match du g mt me ò (kP js nl O1) [] with
 |some ps=>.ok (.ow ps) O1
 |none=>.bad
section
variable{α:Type}{RI:QA α}{X:Cx}{cm:String->À}{E:Ą->XK}{elt tg iter:Æ}{ifs:List Æ}{scope:õ}{pos:Pos}{mi:M (List α)}{g:α->ć->Option ć}{mt:M Bool}{me:M PV}
def BF{js:List Nat}{nl:Nat}{Y:Ą}{H:Hp}{Q:VK}(h:tO (kk X cm) E (jH js nl mi g mt me) Y H Q):Aj js nl (tG (kk X cm) E (MQ (kk X cm) RI) mi) (VP (kk X cm) RI g) (tB (kk X cm) EF mt) (tV (kk X cm) EF me) Y H Q:=by
 obtain⟨c,F,O,rel,h⟩:=h;refine⟨c,F,O,rel,h.bind λò O1 J F1 H1 Ù s1 s2 OG h1=>?_⟩;intro D hD;have hF:F1 D=none:=Ù.sub.free hD;cases ec:du g mt me ò (kP js nl O1) [] with
 |none=>rw[ec] at h1;exact h1.elim
 |some res=>
  rw[ec] at h1;refine⟨λi m Y' H'=>∃F' O' ys acc,i<=ò.length/\m=ò.length-i/\ę (kk X cm) (qz F1 H1 (upd H1 D (.lst ys))) F' H' Y' O'/\Û (kk X cm) F' acc ys/\du g mt me (ò.drop i) O' acc=some res,
   ⟨_,F1,_,[],[],ϳ _,rfl,?_,Û.nil,ec⟩,?_⟩
  ·exact Ù.cap js nl hD
  ·rintro i m Y2 H2 ⟨F2,O2,ys,acc,hle,rfl,Ę,ra,h2⟩;have OH:Õ F1 F2:=Ę.f0;obtain⟨go,stop⟩:=OG _ i F2 H2 Y2 O2 Ę OH (λb u e=>(Ę.lent b u e).1) Ď;have WZ:H2 D=some (.lst ys):=Ę.base D _ (show upd H1 D _ D=_ from ã);have fD:F2 D=none:=Ę.bS D (by show upd H1 D _ D≠none;rw[ã];intro z;cases z) hF;by_cases lP:i<ò.length
   ·obtain⟨g1,g2⟩:=go ò[i] (ž lP);rw[dN lP] at h2;unfold du at h2;refine .inr ⟨g1,_,λY' H' z=>z,λx H3 hy=>?_⟩;obtain⟨F3,dJ,s3,UM,rp⟩:=g2 x H3 hy;refine⟨_,F3,O2,ò[i],dJ,rp,?_⟩;cases eg:g ò[i] O2 with
    |none=>rw[eg] at h2;cases h2
    |some O3=>
     rw[eg] at h2;dsimp only at h2;intro Y4 qv;refine⟨_,F3,O3,qv,?_⟩;cases em:mt O3 with
     |bad=>rw[em] at h2;cases h2
     |exc x O4=>rw[em] at h2;cases h2
     |ok b O4=>
      rw[em] at h2;intro b' F5 H5 qA s5 s5' eb;have W_:b=b':=eb;subst W_;cases b with
      |false=>rw[if_neg ϖ];dsimp only at h2;exact⟨ò.length-(i+1),by lia,F5,O4,ys,acc,lP,rfl,qA,Û.same (s3.trans s5) acc ys ra,h2⟩
      |true=>
       rw[if_pos rfl];dsimp only at h2;refine⟨_,F5,O4,qA,?_⟩;cases ee:me O4 with
       |bad=>rw[ee] at h2;cases h2
       |exc x O5=>rw[ee] at h2;cases h2
       |ok q O5=>
        rw[ee] at h2;dsimp only at h2;intro y F6 H6 ye s6 s6' rq;split at h2
        ·rename_i hz;have P8:=Û.same ((s3.trans s5).trans s6) acc ys ra;refine⟨ys,ye.base D _ (show upd H1 D _ D=_ from ã),by rw[<-P8.length,č];exact hz,?_⟩;exact⟨ò.length-(i+1),by lia,F6,O5,ys ++ [y],acc ++ [q],lP,rfl,ye.rebase hD hF,Û.append P8 (Û.cons rq Û.nil),h2⟩
        ·cases h2
   ·have e:i=ò.length:=by lia
    refine .inl ⟨stop e,?_⟩;rw[cy (by lia)] at h2;unfold du at h2;cases h2;have gr:Gr F1 H1 F2 H2:=⟨λb u e=>Ę.base b u (by show upd H1 D _ b=_;rw[Ú (é e hD)];exact e),OH,Ę.sub,λb hb hf=>Ę.bS b (by
     show upd H1 D _ b≠none;by_cases RY:b=D
     ·rw[RY,ã];intro z;cases z
     ·rw[Ú RY];exact hb) hf⟩
    have L6:=Ù.call gr;exact h1 _ F2 H2 L6 OH gr.h ⟨D,ys,rfl,WZ,fD,Ù.base.free hD,Ù.gU gr.f (Ù.fresh hD),ra⟩
def AS(N':List Str)(js:List Nat)(nl:Nat)(sc:õ)(Bc:X.env.scope=sc)(hcalm:X.calm=true)
 (hi:PI X.Ŭ tg iter (tG (kk X cm) E (MQ (kk X cm) RI) mi))(hg:∀cl C s H fp,PG (dH X.Ŭ N' scope cl C s H fp) tg (VP (kk X cm) RI g))(ht:∀cl C s H fp,Bs (dH X.Ŭ N' scope cl C s H fp) ifs (tB (kk X cm) EF mt))(he:∀cl C s H fp,PE (dH X.Ŭ N' scope cl C s H fp) elt (tV (kk X cm) EF me))
 (hcap:jj X.Ŭ sc scope N' js)(hlen:js.length+nl=N'.length:=by rfl)
 (hk:scope.kind=.function:=by rfl)(hcell:∀y∈scope.names,y.2=.cell->scope.names.lookup y.1=some .cell:=by decide +kernel)(hnames:∀y∈scope.names,y.2=.local->scope.names.lookup y.1=some .local:=by decide +kernel)
 (hfree:∀y∈scope.names,y.2=.free->(sc.names.lookup y.1=some .cell\/sc.names.lookup y.1=some .free):=by decide +kernel)
 (hs:∀x,bA iter X.env x=ç x:=by intro _;rfl) :
 PE X (.ListComp elt [⟨tg,iter,ifs,0⟩] scope pos) (tO (kk X cm) E (jH js nl mi g mt me)):=
 PE.wk (PE.Ŭ (Ak N' js nl sc Bc hcalm hi hg ht he hcap hlen hk hcell hnames hfree hs)) λ_ _ _ h=>BF h
end
def QC(K:KK):QA (List PV×List PV):=λc F d v=>∃t xs b vs,v=.ref t/\F t=some (.tup (xs ++ [.ref b]))/\Û K F d.1 xs/\c.L b=some (.lst vs)/\Û K F d.2 vs
def jI(i:Nat):M (List (List PV×List PV)):=λO=>match O[i]? with
 |some (.dw eR)=>.ok eR O
 |_=>.bad
section
variable{X:Cx}{cm:String->À}{E:Ą->XK}{tg:Æ}
def QD(i:Nat){x:Str}{px:Pos}(hN:X.N[i]?=some x:=by rfl)(hv:Bi X.env.scope x:=by first|exact ĕ rfl|exact ĉ (ĕ rfl)|exact ĉ (ĉ rfl))(hd:(x== ("__debug__" :Str))=false:=by decide)
 (gE:(x== ("__classdict__" :Str))=false:=by decide):PI X tg (.Name x px) (tG (kk X cm) E (MQ (kk X cm) (QC (kk X cm))) (jI i)):=λÃ s Y H R I h=>by
 obtain⟨c,F,O,rel,h⟩:=h;unfold jI at h;cases e:O[i]? with
 |none=>rw[e] at h;exact h.elim
 |some sl=>
  rw[e] at h;cases sl with
  |dw eR=>
   obtain⟨a,ts,h1,h2,h3⟩:=rel.slot i _ e;refine x_ (gL hN hv hd gE) Ã s Y H R I ⟨.ref a,ŏ h1,.inl ⟨a,rfl,⟨_,ϒ.of (rel.lent a _ h2).1⟩,h _ F H rel Ď Ď ?_⟩⟩;intro c' j F2 H2 Y2 O2 Ę sF sL sc;have hq:ϒ X.K H2 a (ts.map V.ref):=ϒ.of (sL a _ (De rel h2));refine⟨λd hp=>?_,λhi=>⟨_,hq,by rw[hi,ď,Paired.length h3];exact î _⟩⟩;obtain⟨t,ht,xs,b,vs,k1,k2,k3,k4⟩:=Am h3 hp;have hu:(ts.map V.ref)[j]?=some (.ref t):=by rw[Ņ,ht];rfl
   refine⟨⟨_,.ref t,hq,hu⟩,λx H' ⟨hH,hx⟩=>?_⟩;subst hH;have:(ts.map V.ref)[j]?=some x:=hx _ hq;rw[hu] at this;cases this;exact⟨F2,Ę,Õ.refl _,Õ.refl _,t,xs,b,vs,rfl,sF _ _ k1,k2.same sF d.1 xs,sc _ _ (De rel k3),k4.same sF d.2 vs⟩
  |_=>exact h.elim
noncomputable def gD(i j k:Nat):(List PV×List PV)->ć->Option ć:=λd O=>match d with
 |([p,q],qs)=>some (((O.set i (.sh p)).set j (.sh q)).set k (.bw qs))
 |_=>none
def QE{i j k:Nat}{x y z:Str}{px py pz pos:Pos}{n:Nat}(hc:X.calm=true)(hN:X.N.Nodup)(hi:X.N[i]?=some x)(hj:X.N[j]?=some y)(hk:X.N[k]?=some z)(hx:Loc X.env.scope x)(hy:Loc X.env.scope y)(hz:Loc X.env.scope z)
 (fx:X.fn x=true\/X.env.scope.names.lookup x=some .local:=by first|exact .inl rfl|exact .inr rfl)(fy:X.fn y=true\/X.env.scope.names.lookup y=some .local:=by first|exact .inl rfl|exact .inr rfl)(fz:X.fn z=true\/X.env.scope.names.lookup z=some .local:=by first|exact .inl rfl|exact .inr rfl) :
 PG X (.Tuple [.Name x px,.Name y py,.Name z pz] n pos) (VP (kk X cm) (QC (kk X cm)) (gD i j k)):=
 PG.UI (ux hc (eU (iQ hN hi hx fx) (eU (iQ hN hj hy fy) (eU (iQ hN hk hz fz) uw rfl) rfl) rfl) rfl rfl) fun v Y H Q ⟨c,F,O,d,rel,⟨t,xs,b,vs,hv,k1,k2,k3,k4⟩,h⟩=>by
   subst hv;obtain⟨ps,qs⟩:=d;unfold gD at h
   rcases ps with _|⟨p,_|⟨q,_|⟨_,_⟩⟩⟩
   ·exact h.elim
   ·exact h.elim
   ·unfold Û at k2;obtain⟨u,r,rfl,r1,k2⟩:=k2;unfold Û at k2;obtain⟨w,r',rfl,r2,k2⟩:=k2;unfold Û at k2;subst k2;refine⟨t,_,rfl,eQ.of (rel.sub _ _ k1),rfl,u,_,rfl,w,_,rfl,.ref b,_,rfl,rfl,?_⟩;have e1:=rel.put (i:=i) (x:=some u) (s:=.sh p) rfl ⟨u,rfl,r1⟩;have e2:=e1.put (i:=j) (x:=some w) (s:=.sh q) rfl ⟨w,rfl,r2⟩;exact h _ (e2.put (i:=k) (x:=some (.ref b)) (s:=.bw qs) rfl ⟨b,vs,rfl,k3,k4⟩)
   ·exact h.elim
end
open M5
section
end
noncomputable def d31(r:PV):Slot:=.dw [([.str "ab",.int 3],[r,.non]),([.str "a",.int 1],[.non])]
section
def e_{F:Hp}{Y:Ą}{O:ć}{a:À}{i:Nat}{x:Option V}{s:Slot}(hs:s.own=false)(h:eW F Y O a):eW F (Y.set i x) (O.set i s) a:=λj q=>by
 have hj:j≠i:=λz=>by
  subst z;obtain⟨s',y,q1,_,q2⟩:=q;rcases ř q1 with⟨_,rfl,_⟩|⟨q,_⟩
  ·have:=gb q2;rw[hs] at this;cases this
  ·exact q rfl
 exact h j (q.off hj)
end
def MR(i:Nat)(O:ć):Bool:=match O[i]? with
 |some (.dw _)=>true
 |_=>false
def S1(b:ć->Bool)(m1 m2:M RV):M RV:=λO=>if b O=true then m1 O else m2 O
def VQ{X:Cx}{cm:String->À}{E:Ą->XK}{e:Æ}{m1 m2:M RV}(b:ć->Bool)(h1:PE X e (tO (kk X cm) E m1))(h2:PE X e (tO (kk X cm) E m2)):PE X e (tO (kk X cm) E (S1 b m1 m2)):=λÃ s Y H Q I ⟨c,F,O,rel,h⟩=>by
 unfold S1 at h;split at h
 ·exact h1 Ã s Y H Q I ⟨c,F,O,rel,h⟩
 ·exact h2 Ã s Y H Q I ⟨c,F,O,rel,h⟩
inductive WR where
 |t (i:Nat) (p:PV)|d (i:Nat) (ps:List PV)|l (i:Nat) (p:PV)
def WR.ix:WR->Nat
 | .t i _=>i
 | .d i _=>i
 | .l i _=>i
noncomputable def WR.to(j:Nat):WR->WR
 | .t _ p=>.t j p
 | .d _ ps=>.d j ps
 | .l _ p=>.l j p
def lu(Y:Ą)(i:Nat):Option V:=(Y[i]?).getD none
def wQ(K:KK)(L B F' H':Hp)(o:Option V)(H2:Hp):WR->Prop
 | .t _ p=>∃a vs v,o=some (.ref a)/\L a=some (.lst vs)/\Ć K F' p v/\vs.length<sizeLine/\H2=upd H' a (.lst (vs ++ [v]))
 | .d _ ps=>∃a us t xs b,o=some (.ref a)/\L a=some (.lst us)/\F' t=some (.tup (xs ++ [.ref b]))/\Û K F' ps xs/\H' b=some (.lst [])/\F' b=none/\B b=none/\H2=upd H' a (.lst (us ++ [.ref t]))
 | .l _ p=>∃a us t xs b vs v,o=some (.ref a)/\L a=some (.lst (us ++ [.ref t]))/\F' t=some (.tup (xs ++ [.ref b]))/\L b=some (.lst vs)/\Ć K F' p v/\H2=upd H' b (.lst (vs ++ [v]))
theorem wQ.to{K:KK}{L B F' H':Hp}{o:Option V}{H2:Hp}{w:WR}{j:Nat}(h:wQ K L B F' H' o H2 w):wQ K L B F' H' o H2 (w.to j):=by cases w<;>exact h
def Ig{w:WR}{j:Nat}:(w.to j).ix=j:=by cases w<;>rfl
def ia(K:KK)(E:Ą->XK)(c:Ctx)(F:Hp)(Y:Ą)(n:Nat)(D:Ends):ĳ WR->Prop
 | .ok w O'=>∀Y' F' H' H2,ę K c F' H' Y' O'->Õ F F'->(∀i,i<n->lu Y' i=lu Y i)->wQ K c.L c.B F' H' (lu Y' w.ix) H2 w->D.nx Y' H2
 | .exc x O'=>∀Y' C d F' H',ę K c F' H' Y' O'->Õ F F'->wr K F' x C d->E Y' C d H'
 | .bad=>False
def tW(K:KK)(E:Ą->XK)(n:Nat)(m:M WR):TS:=λD Y H=>∃c F O,ę K c F H Y O/\ia K E c F Y n D (m O)
section
variable{K:KK}{E:Ą->XK}{c:Ctx}{F F1:Hp}{Y:Ą}{n:Nat}{D:Ends}
def ia.mono{r:ĳ WR}(h:ia K E c F Y n D r)(sF:Õ F F1):ia K E c F1 Y n D r:=by
 cases r with
 |ok w O'=>exact λY' F' H' H2 rel s1 e q=>h Y' F' H' H2 rel (sF.trans s1) e q
 |exc x O'=>exact λY' C d F' H' rel s1 q=>h Y' C d F' H' rel (sF.trans s1) q
 |bad=>exact h
theorem ia.bind{α β:Type}{R:RR α β}{H:Hp}{Q:β->Hp->Prop}{r:ĳ α}{f:α->ć->ĳ WR}(h:ia K E c F Y n D (r.bind f))
 (k:∀p O1 v F1 H1,ę K c F1 H1 Y O1->Õ F F1->Õ H H1->R c Y O1 F1 H1 p v->ia K E c F1 Y n D (f p O1)->Q v H1):ϔ K E R c F H Y Q r:=by
 cases r with
 |ok p O'=>exact λv F' H' rel s1 s2 q=>k p O' v F' H' rel s1 s2 q (ia.mono (show ia K E c F Y n D (f p O') from h) s1)
 |exc x O'=>exact λC d F' H' rel s1 q=>h Y C d F' H' rel s1 q
 |bad=>exact h
end
section
variable{X:Cx}{cm:String->À}{E:Ą->XK}{a e:Æ}{pos:Pos}{n:Nat}{mt:M Bool}{mo:M RV}{me:M PV}{mb:M Fl}{mr m1 m2:M WR}{ss ü RX:List Ò}
@[simp] def pb(mt:M Bool)(mb:M Fl)(mr:M WR)(O:ć):ĳ WR:= (mt O).bind fun b O1=>if b=true then(match mb O1 with
  | .exc x O2=>.exc x O2
  |_=>.bad) else mr O1
def nW(hc:PT X a (tB (kk X cm) E mt))(hb:ay X ss (tS (kk X cm) E mb))(hr:ay X ü (tW (kk X cm) E n mr)):ay X (.If a ss [] pos::ü) (tW (kk X cm) E n (pb mt mb mr)):=
 ay.wk (db (Ch hc hb uv) hr) λD Y H ⟨c,F,O,rel,h⟩=>⟨c,F,O,rel,ia.bind h λb O1 v F1 H1 Ù s1 _ q h1=>by
  have e:b=v:=q;subst e;cases b with
  |true=>
   rw[if_pos rfl] at h1 ⊢;refine⟨c,F1,O1,Ù,?_⟩;cases em:mb O1 with
   |exc x O2=>rw[em] at h1;exact h1
   |ok f O2=>rw[em] at h1;exact h1.elim
   |bad=>rw[em] at h1;exact h1.elim
  |false=>rw[if_neg ϖ] at h1 ⊢;exact⟨c,F1,O1,Ù,h1⟩⟩
@[simp] def MS(mt:M Bool)(m1 m2:M WR)(O:ć):ĳ WR:= (mt O).bind λb O1=>if b=true then m1 O1 else m2 O1
def QF(hc:PT X a (tB (kk X cm) E mt))(h1:ay X ss (tW (kk X cm) E n m1))(h2:ay X RX (tW (kk X cm) E n m2)):ay X [.If a ss RX pos] (tW (kk X cm) E n (MS mt m1 m2)):=
 ay.wk (fX (Ch hc h1 h2)) λD Y H ⟨c,F,O,rel,h⟩=>⟨c,F,O,rel,ia.bind h λb O1 v F1 H1 Ù s1 _ q h1=>by
  have e:b=v:=q;subst e;cases b with
  |true=>rw[if_pos rfl] at h1 ⊢;exact⟨c,F1,O1,Ù,h1⟩
  |false=>rw[if_neg ϖ] at h1 ⊢;exact⟨c,F1,O1,Ù,h1⟩⟩
def nX{Y:Ą}{i j:Nat}{v:Option V}(h:i≠j):lu (Y.set j v) i=lu Y i:=by unfold lu;rw[fi (Đ h)]
@[simp] def AT(i:Nat)(mo:M RV)(mr:M WR)(O:ć):ĳ WR:= (mo O).bind λr O1=>mr (O1.set i r.slot)
def ia.set{K:KK}{E:Ą->XK}{c:Ctx}{F:Hp}{Y Y1:Ą}{D:Ends}{r:ĳ WR}(hs:∀i,i<n->lu Y1 i=lu Y i)(h:ia K E c F Y n D r):ia K E c F Y1 n D r:=by
 cases r with
 |ok w O'=>exact λY' F' H' H2 rel s1 e q=>h Y' F' H' H2 rel s1 (λi hi=>(e i hi).trans (hs i hi)) q
 |exc x O'=>exact h
 |bad=>exact h
def QG{i:Nat}{x:Str}{bW:Pos}(hN:X.N.Nodup)(hi:X.N[i]?=some x)(hx:Loc X.env.scope x)(he:PE X e (tO (kk X cm) E mo))(hr:ay X ü (tW (kk X cm) E n mr))(hn:n<=i:=by decide)(hs:ŗ e (some (.Name x bW)) pos.line X.env=ç false:=by rfl)(hf:X.fn x=true\/X.env.scope.names.lookup x=some .local:=by first|exact .inl rfl|exact .inr rfl|assumption) :
 ay X (.Assign [.Name x bW] e pos::ü) (tW (kk X cm) E n (AT i mo mr)):=ay.wk (db (uy hN hi hx he hs hf) hr) λD Y H ⟨c,F,O,rel,h⟩=>⟨c,F,O,rel,ia.bind h λr O1 v F1 H1 Ù s1 _ q h1=>by
 have h2:ia (kk X cm) E c F1 (Y.set i (some v)) n D (mr (O1.set i r.slot)):=ia.set (λj hj=>nX (by lia)) h1;cases r with
 |sh p=>exact⟨c,F1,_,Ù.put (s:=.sh p) rfl ⟨v,rfl,q⟩,h2⟩
 |ow ps=>obtain⟨a,vs,rfl,q1,q2,q3,q4,q5⟩:=q;exact⟨c,F1,_,Ù.Bv (s:=.ow ps) ⟨a,vs,rfl,q1,q2,q3,q5⟩ λ_ z=>V.ref.inj z▸q4,h2⟩
 |ot ps qs rs=>obtain⟨p,a,xs,vs,ys,rfl,q0,qx,q1,q2,q3,q4,q5,q6⟩:=q;exact⟨c,F1,_,Ù.Bv (s:=.ot ps qs rs) ⟨p,a,xs,vs,ys,rfl,q0,qx,q1,q2,q3,q5,q6⟩ λ_ z=>kK (ps:=ps) (qs:=qs) (rs:=rs) z ⟨p,xs,ys,rfl,q0,qx.length.symm⟩▸q4,h2⟩
 |bn t ps qs rows=>exact⟨c,F1,_,Ù.LX q,h2⟩⟩
def u_{Y:Ą}{i:Nat}{v:V}(h:Y[i]?=some (some v)):lu Y i=some v:=by unfold lu;rw[h];rfl
def rX(i:Nat)(me:M PV):M WR:=λO=>match O[i]? with
 |some (.bw _)=>(me O).bind λp O1=>match O1[i]? with
  |some (.bw ps)=>if ps.length<16777216 then .ok (.t i p) O1 else .bad
  |_=>.bad
 |_=>.bad
def D6{i:Nat}{D:Ends}{Y:Ą}{H:Hp}(h:tW (kk X cm) E n (rX i me) D Y H):on (OR X.K "list" kG (gF i) (tL (kk X cm) E (Å me á))) D Y H:=by
 obtain⟨c,F,O,rel,h⟩:=h;unfold rX at h;cases e1:O[i]? with
 |none=>rw[e1] at h;exact h.elim
 |some sl=>
  rw[e1] at h;cases sl with
  |bw XD=>
   obtain⟨a,XE,z1,z2,z3⟩:=rel.slot i _ e1;refine⟨.ref a,ŏ z1,.inl ⟨rfl,_,ϒ.of (rel.lent a _ z2).1⟩,c,F,O,rel,?_⟩;dsimp only at h;unfold Å;cases em:me O with
   |bad=>rw[em] at h;exact h
   |exc x O1=>rw[em] at h;exact λC d F' H' Ś s1 q=>h Y C d F' H' Ś s1 q
   |ok p O1=>
    rw[em] at h;intro us F1 H1 Ù s1 s2 r1;have jc:Û (kk X cm) F1 [p] us:=r1;cases jc.pr with
    |cons rp t=>
     rename_i v jh;cases t;cases e2:O1[i]? with
     |none=>simp only[ĳ.bK,e2] at h;exact h.elim
     |some FA=>
      simp only[ĳ.bK,e2] at h;cases FA with
      |bw ps=>
       obtain⟨a2,vs,w1,w2,w5⟩:=Ù.slot i _ e2;rw[z1] at w1;cases w1;dsimp only at h;split at h
       ·rename_i hz;have hl:vs.length<sizeLine:=by rw[<-w5.length,č];exact hz
        exact⟨a,vs,v,rfl,rfl,(Ù.lent a _ w2).1,hl,h Y F1 H1 _ Ù s1 (λ_ _=>rfl) ⟨a,vs,v,u_ (ŏ z1),w2,rp,hl,rfl⟩⟩
       ·exact h.elim
      |_=>exact h.elim
  |_=>exact h.elim
def MT{i:Nat}{x:Str}{px ap cp:Pos}(ho:PE X (.Name x px) (gF i))(he:PE X e (tV (kk X cm) E me))(il:bB (.Name x px) "append" X.env (eval (.Name x px) X.env)=eval (.Name x px) X.env:=by rfl)
 (qi:((ĝ cp (Ö [e] X.env)).all (λx=>!x.1) && (fH cp (fJ [] X.env)).all (λx=>x.1.isSome) && decide ([e].length+([]:List ϴ).length+(if([]:List ϴ).isEmpty then 0 else 1)<30))=true:=by rfl)
 (im:(ap.endLine== cp.line)=true:=by rfl)(vU:Ö [e] X.env=(false,eval e X.env)::Ö [] X.env:=by exact ώ rfl)(hpl:(ĝ cp (Ö [] X.env)).any (·.1)=false:=by rfl)(hs:ŗ (.Call (.Attribute (.Name x px) "append" ap) [e] [] cp) none pos.line X.env=ç false:=by rfl) :
 ay X [.Expr (.Call (.Attribute (.Name x px) "append" ap) [e] [] cp) pos] (tW (kk X cm) E n (rX i me)):=
 ay.wk (fX (ť (bY ϟ am aK Ő ho (Ç he ë vU) il qi im vU hpl) hs)) λ_ _ _ h=>D6 h
noncomputable def wR(i j:Nat):M WR:=λO=>match O[i]?,O[j]? with
 |some (.dw eR),some (.ot ps [] [])=>if eR.length<16777216 then .ok (.d i ps) (O.set j .no) else .bad
 |_,_=>.bad
def D7{i j:Nat}{D:Ends}{Y:Ą}{H:Hp}(h:tW (kk X cm) E n (wR i j) D Y H):on (OR X.K "list" kG (gF i) (Cz (gF j) Cy)) D Y H:=by
 obtain⟨c,F,O,rel,h⟩:=h;unfold wR at h;split at h
 ·rename_i eR ps e1 e2;split at h
  ·rename_i hz;obtain⟨a,ts,z1,z2,z3⟩:=rel.slot i _ e1;obtain⟨p,b,xs,vs,ys,y1,y2,y3,y4,y5,y6,y7,y8⟩:=rel.slot j _ e2;unfold Û at y7 y8;subst y7 y8;have hl:(ts.map V.ref).length<sizeLine:=by rw[ď,Paired.length z3,č];exact hz
   refine⟨.ref a,ŏ z1,.inl ⟨rfl,_,ϒ.of (rel.lent a _ z2).1⟩,.ref p,ŏ y1,a,_,.ref p,rfl,rfl,(rel.lent a _ z2).1,hl,?_⟩;obtain⟨m1,_⟩:=rel.move ⟨_,_,e2,ŏ y1,⟨p,xs,[],rfl,y2,y3.length.symm⟩⟩;exact h Y F H _ m1 Ď (λ_ _=>rfl) ⟨a,_,p,xs,b,u_ (ŏ z1),z2,y2,y3,y4,y5,y6,rfl⟩
  ·exact h.elim
 ·exact h.elim
def MU{i j:Nat}{x y:Str}{px py ap cp:Pos}(ho:PE X (.Name x px) (gF i))(he:PE X (.Name y py) (gF j))(il:bB (.Name x px) "append" X.env (eval (.Name x px) X.env)=eval (.Name x px) X.env:=by rfl)
 (qi:((ĝ cp (Ö [.Name y py] X.env)).all (λx=>!x.1) && (fH cp (fJ [] X.env)).all (λx=>x.1.isSome) && decide ([Expr.Name y py].length+([]:List ϴ).length+(if([]:List ϴ).isEmpty then 0 else 1)<30))=true:=by rfl)
 (im:(ap.endLine== cp.line)=true:=by rfl)(vU:Ö [.Name y py] X.env=(false,eval (.Name y py) X.env)::Ö [] X.env:=by exact ώ rfl)(hpl:(ĝ cp (Ö [] X.env)).any (·.1)=false:=by rfl)(hs:ŗ (.Call (.Attribute (.Name x px) "append" ap) [.Name y py] [] cp) none pos.line X.env=ç false:=by rfl) :
 ay X [.Expr (.Call (.Attribute (.Name x px) "append" ap) [.Name y py] [] cp) pos] (tW (kk X cm) E n (wR i j)):=
 ay.wk (fX (ť (bY ϟ am aK Ő ho (Ϥ he aN vU) il qi im vU hpl) hs)) λ_ _ _ h=>D7 h
def GN{α:Type}{l:List α}{x:α}:oA (l ++ [x]) (-1)=some x:=by unfold oA HB;rw[if_neg (by lia),if_pos (by simp;lia)];show(l ++ [x])[(-1+((l ++ [x]).length:Int)).toNat]?=some x;rw[show(-1+((l ++ [x]).length:Int)).toNat=l.length by simp;lia];simp
abbrev QH(K:É)(i:Nat):TE:=Hy (Uk K) (Hy (Uk K) (gF i) (Xu (rU λi=>.int (-i)) (tC (.int 1)))) (tC (.int 2))
theorem AU{α β:Type}{G:α->β->Prop}:∀{l:List α} {m:List β} {y:β},Paired G l m->m.getLast?=some y->∃k x,l=k ++ [x]/\G x y
 |_,_,_,.nil,h=>by cases h
 | [a],[b],y,.cons r .nil,h=>by cases h;exact⟨[],a,rfl,r⟩
 |a::a'::l,b::b'::m,y,.cons r t,h=>by obtain⟨k,x,e,g⟩:=AU t (by rw[zn] at h;exact h);exact⟨a::k,x,by rw[e];rfl,g⟩
def AV{K:KK}{c:Ctx}{F H:Hp}{Y:Ą}{O:ć}{i:Nat}{eR:List (List PV×List PV)}{d:List PV×List PV}(rel:ę K c F H Y O)(e:O[i]?=some (.dw eR))(hd:eR.getLast?=some d) :
 ∃a us t xs b vs,Y[i]?=some (some (.ref a))/\c.L a=some (.lst (us ++ [.ref t]))/\F t=some (.tup (xs ++ [.ref b]))/\Û K F d.1 xs/\c.L b=some (.lst vs)/\Û K F d.2 vs:=by
 obtain⟨a,ts,z1,z2,z3⟩:=rel.slot i _ e;obtain⟨k,t,rfl,xs,b,vs,k1,k2,k3,k4⟩:=AU z3 hd;exact⟨a,k.map V.ref,t,xs,b,vs,ŏ z1,by rw[z2,Ģ];rfl,k1,k2,k3,k4⟩
def VR{xs:List V}{y:V}(h:xs.length=2):oA (xs ++ [y]) 2=some y:=by
 match xs,h with
 | [a,b],_=>unfold oA HB;rw[if_pos (by lia),if_pos (by simp)];rfl
def Ea{K:É}{H:Hp}{Y:Ą}{i:Nat}{a t b:À}{us xs:List V}{Q:VK}(h1:Y[i]?=some (some (.ref a)))(h2:H a=some (.lst (us ++ [.ref t])))(h3:H t=some (.tup (xs ++ [.ref b])))(hl:xs.length=2)(q:Q (.ref b) H):QH K i Y H Q:=
 ⟨.ref a,h1,1,rfl,.inl ⟨a,_,-1,.ref t,rfl,rfl,ϒ.of h2,GN,.inr (.inl ⟨t,_,2,.ref b,rfl,rfl,eQ.of h3,VR hl,q⟩)⟩⟩
def rY(i:Nat)(me:M PV):M WR:=λO=>match O[i]? with
 |some (.dw eR)=>match eR.getLast? with
  |some d=>if d.1.length=2/\d.2.length<16777216 then(me O).bind λp O1=>.ok (.l i p) O1 else .bad
  |none=>.bad
 |_=>.bad
def Eb{i:Nat}{D:Ends}{Y:Ą}{H:Hp}(h:tW (kk X cm) E n (rY i me) D Y H):on (OR X.K "list" kG (QH X.K i) (tL (kk X cm) E (Å me á))) D Y H:=by
 obtain⟨c,F,O,rel,h⟩:=h;unfold rY at h;split at h
 ·rename_i eR e1;split at h
  ·rename_i d hd;split at h
   ·rename_i hz;obtain⟨a,us,t,xs,b,vs,z1,z2,z3,z4,z5,z6⟩:=AV rel e1 hd;refine Ea z1 (rel.lent a _ z2).1 (rel.sub _ _ z3) (by rw[<-z4.length];exact hz.1) ⟨.inl ⟨rfl,_,ϒ.of (rel.lent b _ z5).1⟩,c,F,O,rel,?_⟩;unfold Å;cases em:me O with
    |bad=>rw[em] at h;exact h
    |exc x O1=>rw[em] at h;exact λC d F' H' Ś s1 q=>h Y C d F' H' Ś s1 q
    |ok p O1=>
     rw[em] at h;intro ws F1 H1 Ù s1 s2 r1;have jc:Û (kk X cm) F1 [p] ws:=r1;cases jc.pr with
     |cons rp u=>rename_i v jh;cases u;exact⟨b,vs,v,rfl,rfl,(Ù.lent b _ z5).1,by rw[<-z6.length,č];exact hz.2,h Y F1 H1 _ Ù s1 (λ_ _=>rfl) ⟨a,us,t,xs,b,vs,v,u_ z1,z2,s1 _ _ z3,z5,rp,rfl⟩⟩
   ·exact h.elim
  ·exact h.elim
 ·exact h.elim
def MV{i:Nat}{o:Æ}{ap cp:Pos}(ho:PE X o (QH X.K i))(he:PE X e (tV (kk X cm) E me))(il:bB o "append" X.env (eval o X.env)=eval o X.env:=by rfl)
 (qi:((ĝ cp (Ö [e] X.env)).all (λx=>!x.1) && (fH cp (fJ [] X.env)).all (λx=>x.1.isSome) && decide ([e].length+([]:List ϴ).length+(if([]:List ϴ).isEmpty then 0 else 1)<30))=true:=by rfl)
 (im:(ap.endLine== cp.line)=true:=by rfl)(vU:Ö [e] X.env=(false,eval e X.env)::Ö [] X.env:=by exact ώ rfl)(hpl:(ĝ cp (Ö [] X.env)).any (·.1)=false:=by rfl)(hs:ŗ (.Call (.Attribute o "append" ap) [e] [] cp) none pos.line X.env=ç false:=by rfl) :
 ay X [.Expr (.Call (.Attribute o "append" ap) [e] [] cp) pos] (tW (kk X cm) E n (rY i me)):=
 ay.wk (fX (ť (bY ϟ am aK Ő ho (Ç he ë vU) il qi im vU hpl) hs)) λ_ _ _ h=>Eb h
def MX{i:Nat}{x:Str}{px p1 p2 p3 p4 p5:Pos}{j1 j2:Nat}(ho:PE X (.Name x px) (gF i)):PE X (.Subscript (.Subscript (.Name x px) (.UnaryOp .USub (.Constant (.int 1) j1 p1) p2) p3) (.Constant (.int 2) j2 p4) p5) (QH X.K i):=
 CD xV (CD xV ho (HA Cq uu) λ_ _=>rfl) uu λ_ _=>rfl
noncomputable def pc(i:Nat):M PV:=λO=>match O[i]? with
 |some (.dw eR)=>.ok (.int eR.length) O
 |_=>.bad
noncomputable def pd(i:Nat):M PV:=λO=>match O[i]? with
 |some (.dw eR)=>match eR.getLast? with
  |some d=>if d.1.length=2 then .ok (.int d.2.length) O else .bad
  |none=>.bad
 |_=>.bad
end
inductive FW where
 |ok (w:WR)|exc (x:PX)|bad
abbrev MW:=List Slot->FW
def Ż(n k:Nat)(mb:M WR):MW:=λas=>if as.length=n then(match mb (đ k as) with
 | .ok w _=>if w.ix<n then .ok w else .bad
 | .exc x _=>.exc x
 | .bad=>.bad) else .bad
def QI(K:KK)(E:XK)(F H:Hp)(vs:List V)(Q:VK):FW->Prop
 | .ok w=>∀F' H' H2,Gr F H F' H'->wQ K (bo F H).L H F' H' (vs[w.ix]?) H2 w->Q .non H2
 | .exc x=>∀C d F' H',Gr F H F' H'->wr K F' x C d->E C d H'
 | .bad=>False
def MY(K:KK)(n:Nat)(mf:MW):Sp:=λvs H Q E=>∃F as,as.length=n/\Õ F H/\Paired (aW K F H) as vs/\QI K E F H vs Q (mf as)
def BG{N:List Str}{vs:List V}{i:Nat}(h:i<vs.length):lu (L2.start N vs) i=vs[i]?:= by
 unfold lu L2.start;rw[aG (by simpa using h),Ņ,ž h];rfl
section
variable{Pg:Þ}{w:Ø}{K:É}{cm:String->À}{mg:Str->Option Á}{base:Ð}{CX:ji}
def S2{x ý:Str}{st:Ò}{f:À}{fd:Ė}{N ps:List Str}{k n j:Nat}{mb:M WR}{mf:MW}(F:B6 K x ý st f fd)(S:æ N ps (Ó st))
 (dF:∀(ĺ:Á) (A:à) (outer:List Env) (s:Â) (H:Hp) (E:XK),ϊ k (A.deeper (ú ý (Ó st) s.heap.objs.size f ĺ))→(A.deeper (ú ý (Ó st) s.heap.objs.size f ĺ)).units+64<ϝ→
   ay (ŭ CX Pg w K mg base N ý (Ó st) f ĺ A outer s H E) (Ŧ st) (tW ⟨K,cm⟩ (λ_=>E) ps.length mb))(hn:ps.length=n:=by rfl)(hj:N.length=j:=by rfl)(hf:mf=Ż n j mb:=by rfl):Ě Pg w K mg base CX (k+1) f fd ps (MY ⟨K,cm⟩ n mf):=by
 subst hn hj hf;obtain⟨oc,od,kV,mW,pm,an,ĺ,ct,qS,rfl,lk,gE⟩:=F.ex;refine Ac lk gE S (λvs H Q E ⟨F,KH,h1,_,h2,_⟩=>by rw[<-Paired.length h2];exact h1) λA outer s H vs Q E hr Ba=>?_;obtain⟨F,KH,h1,h2,h3,h4⟩:=Ba;refine⟨_,dF ĺ A outer s H E hr hr.units,bo F H,F,đ N.length KH,ę.start h2 h3,?_⟩;unfold Ż at h4;rw[if_pos h1] at h4;cases e:mb (đ N.length KH) with
 |bad=>rw[e] at h4;exact h4
 |exc x O'=>rw[e] at h4;exact λY' C d F' H' rel s1 q=>h4 C d F' H' rel.gr q
 |ok w O'=>
  rw[e] at h4;dsimp only at h4;split at h4
  ·rename_i hw;intro Y' F' H' H2 rel s1 hs q;refine h4 F' H' H2 rel.gr ?_;rw[hs _ hw,BG (by rw[<-Paired.length h3,h1];exact hw)] at q;exact q
  ·exact h4.elim
end
noncomputable def cj(O:ć):List Nat->Option (List Slot)
 | []=>some []
 |i::is=>((O[i]?).bind bL).bind λs=>(cj O is).map (s:: ·)
theorem pf{K:KK}{c:Ctx}{F H:Hp}{Y:Ą}{O:ć}(rel:ę K c F H Y O):∀{ns:List Nat} {as:List Slot},cj O ns=some as->∃vs:List V,ns.map (lu Y)=vs.map some/\Paired (aW K F H) as vs
 | [],as,h=>by cases h;exact⟨[],rfl,.nil⟩
 |i::ns,as,h=>by unfold cj at h;obtain⟨s,e1,h⟩:=sR.mp h;obtain⟨as',e2,rfl⟩:=ki.mp h;obtain⟨v,v1,v2⟩:=nR rel e1;obtain⟨vs,q1,q2⟩:=pf rel e2;exact⟨v::vs,by rw[Ý,Ý,q1,u_ v1],.cons v2 q2⟩
def QJ(ns:List Nat):TA:=λY H Q=>∃vs:List V,ns.map (lu Y)=vs.map some/\Q vs H
def mM:WR->Option Slot->Bool
 | .t _ _,some (.bw _)=>true
 | .d _ _,some (.dw _)=>true
 | .l _ _,some (.dw _)=>true
 |_,_=>false
def ō(mf:MW)(ns:List Nat):M WR:=λO=>match cj O ns with
 |none=>.bad
 |some as=>match mf as with
  | .ok w=>(match ns[w.ix]? with
    |some j=>if mM w O[j]?=true then .ok (w.to j) O else .bad
    |none=>.bad)
  | .exc x=>.exc x O
  | .bad=>.bad
section
variable{X:Cx}{cm:String->À}{E:Ą->XK}{CX:ji}{k j n m:Nat}{f:À}{fd:Ė}{ps:List Str}{mf:MW}{x:Str}{st:Ò}{p pos Sa:Pos}{e:Æ}{es:List Æ}
def vb:PA X [] (QJ []):=PA.wk aN λY H Q ⟨vs,h1,h2⟩=>by
 cases vs with
 |nil=>exact h2
 |cons _ _=>cases h1
def yq{Y:Ą}{i:Nat}{v:V}(h:lu Y i=some v):Y[i]?=some (some v):=ŏ h
def Ϧ(i:Nat){ns:List Nat}{px:Pos}(ho:PE X (.Name x px) (gF i))(hr:PA X es (QJ ns))(hs:Ö (.Name x px::es) X.env=(false,eval (.Name x px) X.env)::Ö es X.env:=by exact ώ rfl):PA X (.Name x px::es) (QJ (i::ns)):=
 PA.wk (Ϥ ho hr hs) fun Y H Q ⟨vs,h1,h2⟩=>by
   cases vs with
   |nil=>cases h1
   |cons v vs=>
    rw[Ý,Ý] at h1;injection h1 with h3 h4
    exact⟨v,yq h3,vs,h4,h2⟩
def wS{sp:Sp}{ta:TA}(F:Ě X.prog X.w X.K X.mg X.base CX k f fd ps sp)(hr:ϊ k X.A)(hg:Gl X x)(hm:X.mg x=some (.ref f))(hk:Ţ X.K (.ref f)=true)(hb:Binds X.K fd ps [])(hx:ϥ CX X E)
 (ha:PA X (e::es) ta)(lq:(x== ("__debug__" :Str))=false:=by decide)(he:Ö (e::es) X.env=(false,eval e X.env)::Ö es X.env:=by exact ώ rfl)(hpl:(ĝ pos (Ö es X.env)).any (·.1)=false:=by rfl) :
 PE X (.Call (.Name x p) (e::es) [] pos) (λY H Q=>ta Y H λvs H1=>sp vs H1 Q (E Y)):=by
 intro Ã s Y H Q I h;refine cI (bI I hg hm ?_ lq);refine kD (h₀:= X.base) I.ok.mod.Hw hk (ŝ (ha pos Ã s Y H _ I h) λus s1 ⟨vs,H1,I1,r,q⟩=>⟨I1.da,?_⟩) he hpl;exact nS F hr hb hx I1 r q
def rZ{n k:Nat}{mb:M WR}{ps:List Slot}(h:Ż n k mb ps≠ .bad):ps.length=n:=by
 unfold Ż at h;by_cases hl:ps.length=n
 ·exact hl
 ·rw[if_neg hl] at h;exact absurd rfl h
def MZ{j:Nat}{p:PV}{o:Option Slot}(h:mM (.t j p) o=true):∃ps,o=some (.bw ps):=by
 cases o with
 |none=>cases h
 |some s=>cases s<;>first|exact⟨_,rfl⟩|cases h
def M_{j:Nat}{p:List PV}{o:Option Slot}(h:mM (.d j p) o=true):∃ps,o=some (.dw ps):=by
 cases o with
 |none=>cases h
 |some s=>cases s<;>first|exact⟨_,rfl⟩|cases h
def M0{j:Nat}{p:PV}{o:Option Slot}(h:mM (.l j p) o=true):∃ps,o=some (.dw ps):=by
 cases o with
 |none=>cases h
 |some s=>cases s<;>first|exact⟨_,rfl⟩|cases h
def wT{F:Hp}{t b b':À}{xs ys:List V}(h:F t=some (.tup (xs ++ [.ref b])))(h':F t=some (.tup (ys ++ [.ref b']))):b=b':=by
 rw[h] at h';injection h' with h'
 injection h' with h'
 have:=(List.append_inj' h' rfl).2;injection this with this
 injection this
def QK{K:KK}{c:Ctx}{F H F' H' H2:Hp}{Y:Ą}{O:ć}{i:Nat}{w:WR}(rel:ę K c F H Y O)(g:Gr F H F' H')(hs:mM w O[i]?=true)(h:wQ K (bo F H).L H F' H' (lu Y i) H2 w):wQ K c.L c.B F' H' (lu Y i) H2 w:=by
 have XY:∀{eR:List (List PV×List PV)} {a:À} {us:List V},O[i]?=some (.dw eR)->lu Y i=some (.ref a)->(bo F H).L a=some (.lst us)->c.L a=some (.lst us)/\∃ts:List À,us=ts.map V.ref/\∀t∈ts,∃xs b vs,F t=some (.tup (xs ++ [.ref b]))/\c.L b=some (.lst vs):=by intro eR a us e h1 h2;obtain⟨a',ts,q1,q2,q3⟩:=rel.slot i _ e;have e2:=ŏ q1;rw[yq h1] at e2;cases e2;have e3:=(rel.lent a _ q2).1;rw[(ϓ h2).1] at e3;cases e3;refine⟨q2,ts,rfl,λt ht=>?_⟩;obtain⟨j,hj⟩:=zo ht;obtain⟨d,_,xs,b,vs,k1,_,k3,_⟩:=de q3 hj;exact⟨xs,b,vs,k1,k3⟩
 cases w with
 |t j p=>obtain⟨ps,e⟩:=MZ hs;obtain⟨a,vs,v,h1,h2,h3⟩:=h;obtain⟨a',jh,q1,q2,q3⟩:=rel.slot i _ e;have e2:=ŏ q1;rw[yq h1] at e2;cases e2;have e3:=(rel.lent a _ q2).1;rw[(ϓ h2).1] at e3;cases e3;exact⟨a,vs,v,h1,q2,h3⟩
 |d j ps=>obtain⟨eR,e⟩:=M_ hs;obtain⟨a,us,t,xs,b,h1,h2,h3,h4,h5,h6,h7,h8⟩:=h;exact⟨a,us,t,xs,b,h1,(XY e h1 h2).1,h3,h4,h5,h6,rel.base.free h7,h8⟩
 |l j p=>
  obtain⟨eR,e⟩:=M0 hs;obtain⟨a,us,t,xs,b,vs,v,h1,h2,h3,h4,h5⟩:=h;obtain⟨g1,ts,g2,g3⟩:=XY e h1 h2;have ht:t∈ts:=by
   have:V.ref t∈ts.map V.ref:=by rw[<-g2];simp
   obtain⟨t',m1,m2⟩:=Ĕ.mp this;injection m2 with m2
   exact m2▸m1
  obtain⟨xs',b',jh,k1,k2⟩:=g3 t ht;have eb:=wT (g.f _ _ k1) h3;subst eb;have e3:=(rel.lent b' _ k2).1;rw[(ϓ h4).1] at e3;cases e3;exact⟨a,us,t,xs,b',vs,v,h1,g1,h3,k2,h5⟩
def w_call(F:Ě X.prog X.w X.K X.mg X.base CX k f fd ps (MY (kk X cm) m mf))(D:Df X.K X.mg x st ps f fd)(hr:ϊ j X.A)(hx:ϥ CX X E){ns:List Nat}(ha:PA X (e::es) (QJ ns))
 (hlen:∀{as:List Slot},mf as≠ .bad->as.length=m:=by exact rZ)(hg:Gl X x:=by rfl)(Xf:k<=j:=by decide)(lq:(x== ("__debug__" :Str))=false:=by decide)(he:Ö (e::es) X.env=(false,eval e X.env)::Ö es X.env:=by exact ώ rfl)(hpl:(ĝ pos (Ö es X.env)).any (·.1)=false:=by rfl)(hs:ŗ (.Call (.Name x p) (e::es) [] pos) none Sa.line X.env=ç false:=by rfl) :
 ay X [.Expr (.Call (.Name x p) (e::es) [] pos) Sa] (tW (kk X cm) E n (ō mf ns)):=
 ay.wk (fX (ť (wS F (hr.mono Xf) hg D.m D.F.kp D.b hx ha lq he hpl) hs)) λD Y H ⟨c,F,O,rel,h⟩=>by
  unfold ō at h;cases el:cj O ns with
  |none=>rw[el] at h;exact h.elim
  |some as=>
   rw[el] at h;dsimp only at h;obtain⟨vs,v1,v2⟩:=pf rel el;refine⟨vs,v1,F,as,hlen λz=>?_,rel.sub,v2,?_⟩
   ·rw[z] at h;exact h
   ·cases em:mf as with
    |bad=>rw[em] at h;exact h
    |exc x=>rw[em] at h;exact λC d F' H' g rx=>h Y C d F' H' (rel.call g) g.f rx
    |ok w=>
     rw[em] at h;dsimp only at h;cases ej:ns[w.ix]? with
     |none=>rw[ej] at h;exact h.elim
     |some i=>
      rw[ej] at h;dsimp only at h;split at h
      ·rename_i hok;intro F' H' H2 g hw;have ev:vs[w.ix]?=lu Y i:=by
        have:=congrArg (λl=>l[w.ix]?) v1;simp only[Ņ,ej,Option.map_some] at this;cases ev:vs[w.ix]? with
        |none=>rw[ev] at this;cases this
        |some v=>rw[ev] at this;injection this with this;exact this.symm
       rw[ev] at hw;have:=QK rel g hok hw;refine h Y F' H' H2 (rel.call g) g.f (λ_ _=>rfl) ?_;rw[Ig];exact this.to
      ·exact h.elim
end
section
variable{X:Cx}{cm:String->À}{E:Ą->XK}{e:Æ}{p pos:Pos}
def vc(i:Nat){x:Str}{px:Pos}(hm:X.mg "len" =none)(ho:PE X (.Name x px) (gF i))(hg:Gl X "len" := by rfl)(he:Ö [.Name x px] X.env=(false,eval (.Name x px) X.env)::Ö [] X.env:=by exact ώ rfl)(hpl:(ĝ pos (Ö [] X.env)).any (·.1)=false:=by rfl) :
 PE X (.Call (.Name "len" p) [.Name x px] [] pos) (tV (kk X cm) E (pc i)):=PE.wk (oz ő hg hm ķ (Ϥ ho aN he) (he:=he) (hpl:=hpl)) λY H Q ⟨c,F,O,rel,h⟩=>by
 unfold pc at h;split at h
 ·rename_i eR e;obtain⟨a,ts,z1,z2,z3⟩:=rel.slot i _ e;refine⟨.ref a,ŏ z1,ts.map V.ref,.inl (ϒ.of (rel.lent a _ z2).1),h _ F H rel Ď Ď ?_⟩;show Ć _ _ _ _;unfold Ć;rw[ď,Paired.length z3]
 ·exact h.elim
def Ec(i:Nat){o:Æ}(hm:X.mg "len" =none)(ho:PE X o (QH X.K i))(hg:Gl X "len" := by rfl)(he:Ö [o] X.env=(false,eval o X.env)::Ö [] X.env:=by exact ώ rfl)(hpl:(ĝ pos (Ö [] X.env)).any (·.1)=false:=by rfl) :
 PE X (.Call (.Name "len" p) [o] [] pos) (tV (kk X cm) E (pd i)):=PE.wk (oz ő hg hm ķ (Ϥ ho aN he) (he:=he) (hpl:=hpl)) λY H Q ⟨c,F,O,rel,h⟩=>by
 unfold pd at h;split at h
 ·rename_i eR e;split at h
  ·rename_i d hd;split at h
   ·rename_i hl;obtain⟨a,us,t,xs,b,vs,z1,z2,z3,z4,z5,z6⟩:=AV rel e hd;refine Ea z1 (rel.lent a _ z2).1 (rel.sub _ _ z3) (by rw[<-z4.length];exact hl) ⟨vs,.inl (ϒ.of (rel.lent b _ z5).1),h _ F H rel Ď Ď ?_⟩;show Ć _ _ _ _;unfold Ć;rw[z6.length]
   ·exact h.elim
  ·exact h.elim
 ·exact h.elim
end
@[simp] theorem S3{i:Nat}{O:ć}:pc i O=(match O[i]? with
  |some (.dw eR)=>.ok (.int eR.length) O
  |_=>.bad):=rfl
@[simp] theorem QL{i:Nat}{O:ć}:pd i O=(match O[i]? with
  |some (.dw eR)=>match eR.getLast? with
   |some d=>if d.1.length=2 then .ok (.int d.2.length) O else .bad
   |none=>.bad
  |_=>.bad):=rfl
abbrev DL:=List (List PV×List PV)
def ae:Slot->Bool
 | .no=>true
 | .sh _=>true
 | .ow _=>true
 | .bw _=>true
 |_=>false
def jp(s:Slot):Slot:=(bL s).getD .no
def Ū(iT iD:Nat)(T:List PV)(D:DL)(O:ć):ć:=((O.map jp).set iT (.bw T)).set iD (.dw D)
noncomputable def wU(iT iD:Nat)(w:WR)(T:List PV)(D:DL):Option (List PV×DL):=match w with
 | .t k p=>if k=iT then some (T ++ [p],D) else none
 | .d k ps=>if k=iD then some (T,D ++ [(ps,[])]) else none
 | .l k p=>if k=iD then(match D.getLast? with
   |some d=>some (T,D.dropLast ++ [(d.1,d.2 ++ [p])])
   |none=>none) else none
noncomputable def dz(i j iT iD:Nat)(mw:M WR):List PV->ć->List PV->DL->ĳ (List PV×DL)
 | [],O,T,D=>.ok (T,D) O
 |p::ps,O,T,D=>match p with
  | .tup [q1,q2]=>(match mw (Ū iT iD T D ((O.set i (.sh q1)).set j (.sh q2))) with
    | .ok w _=>(match wU iT iD w T D with
      |some (T',D')=>dz i j iT iD mw ps ((O.set i (.sh q1)).set j (.sh q2)) T' D'
      |none=>.bad)
    | .exc x _=>.exc x ((O.set i (.sh q1)).set j (.sh q2))
    | .bad=>.bad)
  |_=>.bad
def O_(i j iT iD:Nat)(mi:M (List PV))(mw:M WR)(mt:M Fl):M Fl:=fun O=>if O.all ae=true∧iT < O.length∧iD < O.length then
    (match mi ((O.set iT .no).set iD .no) with
    | .ok ò O1=>if O1.all ae=true then(dz i j iT iD mw ò O1 [] []).bind fun td O2=>(match mt (Ū iT iD td.1 td.2 O2) with
      | .ok (.rt (.sh p)) _=>.ok (.rt (.sh p)) O2
      | .exc x _=>.exc x O2
      |_=>.bad) else .bad
    |_=>.bad)
 else .bad
def ph(K:KK)(F H:Hp)(x:À×À)(d:List PV×List PV):Prop:=∃xs vs,F x.1=some (.tup (xs ++ [.ref x.2]))/\Û K F d.1 xs/\H x.2=some (.lst vs)/\Û K F d.2 vs
def Ex(K:KK)(c:Ctx)(F H:Hp)(Y:Ą)(O:ć)(iT iD:Nat)(T:List PV)(D:DL)(pT pD:À)(tb:List (À×À)):Prop:=
 lu Y iT=some (.ref pT)/\lu Y iD=some (.ref pD)/\(∃us,H pT=some (.lst us)/\Û K F T us)/\H pD=some (.lst (tb.map λx=>.ref x.1))/\Paired (ph K F H) tb D/\(pT::pD::tb.map (·.2)).Nodup/\∀a∈pT::pD::tb.map (·.2),F a=none/\c.B a=none/\eW F Y O a
section
variable{K:KK}{c:Ctx}{F H F' H':Hp}{Y:Ą}{O:ć}{iT iD:Nat}{T:List PV}{D:DL}{pT pD:À}{tb:List (À×À)}
def M1{x:À}(h:Paired (ph K F H) tb D)(hx:x∈tb.map (·.2)):H x≠none:=by obtain⟨y,hy,rfl⟩:=Ĕ.mp hx;obtain⟨k,hk⟩:=zo hy;obtain⟨d,_,xs,vs,_,_,h3,_⟩:=de h hk;rw[h3];intro z;cases z
def Ex.some(h:Ex K c F H Y O iT iD T D pT pD tb){a:À}(ha:a∈pT::pD::tb.map (·.2)):H a≠none:=by
 obtain⟨_,_,⟨us,h1,_⟩,h2,h3,_⟩:=h;rcases Č.mp ha with rfl|ha
 ·rw[h1];intro z;cases z
 rcases Č.mp ha with rfl|ha
 ·rw[h2];intro z;cases z
 ·exact M1 h3 ha
def Ex.call(rel:ę K c F H Y O)(h:Ex K c F H Y O iT iD T D pT pD tb)(g:Gr F H F' H'):Ex K c F' H' Y O iT iD T D pT pD tb:=by have hs:=fun{a}=>h.some (a:=a);obtain⟨k1,k2,⟨us,h1,Bf⟩,h2,h3,h4,h5⟩:=h;exact⟨k1,k2,⟨us,g.h _ _ h1,Bf.same g.f T us⟩,g.h _ _ h2,Paired.KY h3 λx d ⟨xs,vs,q1,q2,q3,q4⟩=>⟨xs,vs,g.f _ _ q1,q2.same g.f d.1 xs,g.h _ _ q3,q4.same g.f d.2 vs⟩,h4,λa ha=>⟨g.out a (hs ha) (h5 a ha).1,(h5 a ha).2.1,rel.gU g.f (h5 a ha).2.2⟩⟩
def ę.yr{a:À}{o:HO}(r:ę K c F H Y O)(hF:F a=none)(hB:c.B a=none)(hf:eW F Y O a):ę K c F (upd H a o) Y O where
 sub:=λb u e=>by
  have hb:b≠a:=λz=>by rw[z,hF] at e;cases e
  rw[Ú hb];exact r.sub b u e
 base:=λb u e=>by
  have hb:b≠a:=λz=>by rw[z,hB] at e;cases e
  rw[Ú hb];exact r.base b u e
 f0:=r.f0
 bS:=r.bS
 lent:=λb u e=>by
  have hb:b≠a:=λz=>by rw[z,r.lb a hB] at e;cases e
  rw[Ú hb];exact r.lent b u e
 lb:=r.lb
 len:=r.len
 slot:=λj s e=>(r.slot j s e).grow (Õ.refl F) λb u ⟨y,e1,e2⟩ h1 h2 h3=>by
  have hb:b≠a:=λz=>by subst z;exact hf j ⟨s,y,e,xY e1,e2⟩
  exact⟨by rw[Ú hb];exact h1,h2⟩
 sep:=r.sep
def vd{p:Slot->Bool}{s:Slot}{i:Nat}(h:O.all p=true)(e:O[i]?=some s):p s=true:=by rw[aH] at h;exact h s (fu e)
noncomputable def Ctx.qE(c:Ctx)(A:List À)(H:Hp):Ctx:=⟨λb=>if b∈A then H b else c.B b,c.F₀,c.L,c.S⟩
theorem ę.qE{A:List À}(r:ę K c F H Y O)(hA:∀a∈A,H a≠none/\F a=none/\c.B a=none/\eW F Y O a)(hp:O.all ae=true):ę K (c.qE A H) F H Y O where
 sub:=r.sub
 base:=λb u e=>by
  have e':(if b∈A then H b else c.B b)=some u:=e;split at e'
  ·exact e'
  ·exact r.base b u e'
 f0:=r.f0
 bS:=λa h1 h2=>by
  have Bf:(if a∈A then H a else c.B a)≠none:=h1;split at Bf
  ·rename_i q;exact(hA a q).2.1
  ·exact r.bS a Bf h2
 lent:=r.lent
 lb:=fun a h=>by
   have h':(if a∈A then H a else c.B a)=none:=h;split at h'
   ·rename_i q;exact absurd h' (hA a q).1
   ·exact r.lb a h'
 len:=r.len
 slot:=λi s e=>by
  have hs:=vd hp e;have q:=r.slot i s e;cases s with
  |no=>trivial
  |sh p=>exact q
  |bw ps=>exact q
  |ow ps=>obtain⟨a,vs,q1,q2,q3,q4,q5⟩:=q;refine⟨a,vs,q1,q2,q3,?_,q5⟩;show(if a∈A then H a else c.B a)=none;rw[if_neg λz=>(hA a z).2.2.2 i ⟨_,_,e,ŏ q1,rfl⟩];exact q4
  |_=>cases hs
 sep:=r.sep
def ę.Ed{A:List À}{H₀:Hp}(r:ę K (c.qE A H₀) F H Y O)(hA:∀a∈A,H₀ a≠none/\c.B a=none)(hl:∀a,c.B a=none->c.L a=none)(hp:O.all ae=true):ę K c F H Y O where
 sub:=r.sub
 base:=λb u e=>r.base b u (by
  show(if b∈A then H₀ b else c.B b)=some u;rw[if_neg λz=>by rw[(hA b z).2] at e;cases e];exact e)
 f0:=r.f0
 bS:=λa h1 h2=>r.bS a (by
  show(if a∈A then H₀ a else c.B a)≠none;rw[if_neg λz=>h1 (hA a z).2];exact h1) h2
 lent:=r.lent
 lb:=hl
 len:=r.len
 slot:=λi s e=>by
  have hs:=vd hp e;have q:=r.slot i s e;cases s with
  |no=>trivial
  |sh p=>exact q
  |bw ps=>exact q
  |ow ps=>
   obtain⟨a,vs,q1,q2,q3,q4,q5⟩:=q;have XZ:(if a∈A then H₀ a else c.B a)=none:=q4;refine⟨a,vs,q1,q2,q3,?_,q5⟩;split at XZ
   ·rename_i z;exact(hA a z).2
   ·exact XZ
  |_=>cases hs
 sep:=r.sep
def ę.lend(r:ę K c F H Y O)(hp:O.all ae=true)(h:Ex K c F H Y O iT iD T D pT pD tb)(n:iT≠iD):ę K (bo F H) F H Y (Ū iT iD T D O) where
 sub:=r.sub
 base:=Õ.refl H
 f0:=Õ.refl F
 bS:=λ_ _ h=>h
 lent:=λ_ _ e=>ϓ e
 lb:=fun a e=>by
   cases q:(bo F H).L a with
   |none=>rfl
   |some u=>have e':H a=none:=e;rw[(ϓ q).1] at e';cases e'
 len:=by unfold Ū;simpa using r.len
 slot:= λi s e=>by
  obtain⟨k1,k2,⟨us,h1,Bf⟩,h2,h3,h4,h5⟩:=h;have L:∀{a u},H a=some u->F a=none->(bo F H).L a=some u:=fun{a u} e1 e2=>by show(match F a with|none=>H a|some _=>none)=some u;rw[e2];exact e1
  unfold Ū at e;rcases ř e with⟨rfl,rfl,_⟩|⟨hj,e⟩
  ·refine⟨pD,tb.map (·.1),k2,L (by rw[h2,ľ];rfl) (h5 pD (by simp)).1,?_⟩;have:∀{B2:List (À×À)} {D':DL},(∀x∈B2,F x.2=none)->Paired (ph K F H) B2 D'->Paired (λ(t:À) (d:List PV×List PV)=>∃xs b vs,F t=some (.tup (xs ++ [.ref b]))/\Û K F d.1 xs/\(bo F H).L b=some (.lst vs)/\Û K F d.2 vs) (B2.map (·.1)) D':=by
    intro B2 D' hn hq
    induction hq with
    |nil=>exact .nil
    |@cons x d l m q t ih=>obtain⟨xs,vs,q1,q2,q3,q4⟩:=q;exact .cons ⟨xs,x.2,vs,q1,q2,L q3 (hn x (by simp)),q4⟩ (ih λy hy=>hn y (í _ hy))
   exact this (λx hx=>(h5 x.2 (í _ (í _ (Ĕ.mpr ⟨x,hx,rfl⟩)))).1) h3
  ·rcases ř e with⟨rfl,rfl,_⟩|⟨TV,e⟩
   ·exact⟨pT,us,k1,L h1 (h5 pT (by simp)).1,Bf⟩
   ·rw[Ņ] at e;cases e0:O[i]? with
    |none=>rw[e0] at e;cases e
    |some s0=>
     rw[e0] at e;have es:jp s0=s:=Š e;subst es;unfold jp;cases el:bL s0 with
     |none=>trivial
     |some s1=>obtain⟨v,v1,v2⟩:=nR r (show(O[i]?).bind bL=some s1 by rw[e0];exact el);rw[v1];exact(aW.slot v2).1
 sep:=λi j a h1 _=>by
  obtain⟨s',y,q1,_,q2⟩:=h1;have q2:=gb q2;exfalso;have:s'.own=false:=by
   unfold Ū at q1;rcases ř q1 with⟨_,rfl,_⟩|⟨_,q1⟩
   ·rfl
   ·rcases ř q1 with⟨_,rfl,_⟩|⟨_,q1⟩
    ·rfl
    ·rw[Ņ] at q1;cases e0:O[i]? with
     |none=>rw[e0] at q1;cases q1
     |some s0=>rw[e0] at q1;have es:jp s0=s':=Š q1;subst es;have hs:=vd hp e0;cases s0<;>first|rfl|cases hs
  rw[this] at q2;cases q2
def r_{A:List À}{a b:À}(h:(a::A).Nodup)(hb:b∈A):b≠a:=λz=>(cw.mp h).1 (z▸hb)
def yt{a:À}{o:HO}{tb:List (À×À)}{D:DL}(hn:∀x∈tb,x.2≠a)(h:Paired (ph K F H) tb D):Paired (ph K F (upd H a o)) tb D:=by
 induction h with
 |nil=>exact .nil
 |@cons x d l m q t ih=>obtain⟨xs,vs,q1,q2,q3,q4⟩:=q;exact .cons ⟨xs,vs,q1,q2,by rw[Ú (hn x (by simp))];exact q3,q4⟩ (ih λy hy=>hn y (í _ hy))
theorem wV{α β:Type}{G:α->β->Prop}:∀{l:List α} {m:List β} {d:β},Paired G l m->m.getLast?=Option.some d->∃l0 x,l=l0 ++ [x]/\Paired G l0 m.dropLast/\G x d
 |_,_,_,.nil,h=>by cases h
 | [a],[b],y,.cons r .nil,h=>by cases h;exact⟨[],a,rfl,.nil,r⟩
 |a::a'::l,b::b'::m,y,.cons r t,h=>by obtain⟨k,x,e,g1,g2⟩:=wV t (by rw[zn] at h;exact h);exact⟨a::k,x,by rw[e];rfl,.cons r g1,g2⟩
def Ex.put{H2:Hp}{w:WR}{T':List PV}{D':DL}(rel:ę K c F H Y O)(h:Ex K c F H Y O iT iD T D pT pD tb)(g:Gr F H F' H')(hw:wQ K (bo F H).L H F' H' (lu Y w.ix) H2 w)(hp:wU iT iD w T D=Option.some (T',D')) :
 ę K c F' H2 Y O/\∃B2,Ex K c F' H2 Y O iT iD T' D' pT pD B2:=by
 have Ś:=rel.call g;have hs:=fun{a}=>h.some (a:=a);have h0:=h;have h':=Ex.call rel h g;obtain⟨k1,k2,⟨us,h1,Bf⟩,h2,h3,h4,h5⟩:=h';cases w with
 |t k p=>
  unfold wU at hp;dsimp only at hp;split at hp
  ·rename_i ek;subst ek;cases hp;obtain⟨a,vs,v,w1,w2,w3,w4,rfl⟩:=hw;have ea:pT=a:=by
    have:lu Y k=Option.some (.ref a):=w1;rw[k1] at this;injection this with this
    injection this
   subst ea;obtain⟨f1,f2,f3⟩:=h5 pT (by simp);have ev:us=vs:=by have:=g.h _ _ (ϓ w2).1;rw[h1] at this;cases this;rfl
   subst ev;refine⟨Ś.yr f1 f2 f3,tb,k1,k2,⟨us ++ [v],ã,Û.append Bf (Û.cons w3 Û.nil)⟩,?_,?_,h4,h5⟩
   ·rw[Ú (r_ h4 (by simp))];exact h2
   ·exact yt (λx hx=>r_ h4 (í _ (Ĕ.mpr ⟨x,hx,rfl⟩))) h3
  ·cases hp
 |d k ps=>
  unfold wU at hp;dsimp only at hp;split at hp
  ·rename_i ek;subst ek;cases hp;obtain⟨a,us',t,xs,b,w1,w2,w3,w4,w5,w6,w7,rfl⟩:=hw;have ea:pD=a:=by
    have:lu Y k=Option.some (.ref a):=w1;rw[k2] at this;injection this with this
    injection this
   subst ea;obtain⟨f1,f2,f3⟩:=h5 pD (by simp);have ev:us'=tb.map λx=>.ref x.1:=by have:=g.h _ _ (ϓ w2).1;rw[h2] at this;cases this;rfl
   subst ev;have hb:∀x∈pT::pD::tb.map (·.2),x≠b:=λx hx z=>hs hx (by rw[z];exact w7);have bD:b≠pD:=λz=>hb pD (by simp) z.symm;refine⟨Ś.yr f1 f2 f3,tb ++ [(t,b)],k1,k2,⟨us,?_,Bf⟩,?_,?_,?_,?_⟩
   ·rw[Ú (Đ (r_ h4 (by simp)))];exact h1
   ·rw[ã,Ģ];rfl
   ·refine oH (yt (λx hx=>?_) h3) (.cons ⟨xs,[],w3,w4,by rw[Ú bD];exact w5,Û.nil⟩ .nil);exact r_ (cw.mp h4).2 (Ĕ.mpr ⟨x,hx,rfl⟩)
   ·rw[Ģ,<-ſ,<-ſ,ke];refine⟨h4,by simp,λx hx y hy=>?_⟩;have:y=b:=by simpa using hy
    subst this;exact hb x hx
   ·intro x hx;rw[Ģ,<-ſ,<-ſ] at hx;rcases Ų.mp hx with hx|hx
    ·exact h5 x hx
    ·have:x=b:=by simpa using hx
     subst this;exact⟨w6,rel.base.free w7,rel.gU g.f (rel.fresh w7)⟩
  ·cases hp
 |l k p=>
  unfold wU at hp;dsimp only at hp;split at hp
  ·rename_i ek;subst ek;split at hp
   ·rename_i d hd;cases hp;obtain⟨a,us',t,xs,b,vs,v,w1,w2,w3,w4,w5,rfl⟩:=hw;have ea:pD=a:=by
     have:lu Y k=Option.some (.ref a):=w1;rw[k2] at this;injection this with this
     injection this
    subst ea;obtain⟨S4,x,rfl,p1,⟨ys,ws,p2,p3,p4,p5⟩⟩:=wV h3 hd;have et:x.1=t:=by
     have:=g.h _ _ (ϓ w2).1;rw[h2,Ģ] at this;injection this with this
     injection this with this
     have:=(List.append_inj' this rfl).2;injection this with this
     injection this
    subst et;have eb:=wT p2 w3;have OM:x.2∈pT::pD::(S4 ++ [x]).map (·.2):=by simp
    obtain⟨f1,f2,f3⟩:=h5 x.2 OM;subst eb;have ev:ws=vs:=by have:=g.h _ _ (ϓ w4).1;rw[p4] at this;cases this;rfl
    subst ev;have n1:=r_ h4 (show x.2∈pD::(S4 ++ [x]).map (·.2) by simp);have n2:=r_ (cw.mp h4).2 (show x.2∈(S4 ++ [x]).map (·.2) by simp);refine⟨Ś.yr f1 f2 f3,S4 ++ [x],k1,k2,⟨us,?_,Bf⟩,?_,?_,h4,h5⟩
    ·rw[Ú (Đ n1)];exact h1
    ·rw[Ú (Đ n2)];exact h2
    ·refine oH (yt (λy hy z=>?_) p1) (.cons ⟨ys,ws ++ [v],p2,p3,ã,Û.append p5 (Û.cons w5 Û.nil)⟩ .nil);have h6:=(cw.mp (cw.mp h4).2).2;rw[Ģ,ke] at h6;exact h6.2.2 y.2 (Ĕ.mpr ⟨y,hy,rfl⟩) x.2 (by simp) z
   ·cases hp
  ·cases hp
theorem Ex.qE{O':ć}{F3 H3:Hp}(h:Ex K c F H Y O iT iD T D pT pD tb)(r:ę K (c.qE (pT::pD::tb.map (·.2)) H) F3 H3 Y O')(s:Õ F F3)(f0:Õ c.F₀ F):Ex K c F3 H3 Y O' iT iD T D pT pD tb:=by
 have hs:=fun{a}=>h.some (a:=a);obtain⟨k1,k2,⟨us,h1,Bf⟩,h2,h3,h4,h5⟩:=h;have up:∀a u,a∈pT::pD::tb.map (·.2)->H a=Option.some u->H3 a=Option.some u:=λa u ha e=>r.base a u (by
  show(if a∈pT::pD::tb.map (·.2) then H a else c.B a)=Option.some u;rw[if_pos ha];exact e)
 have bn:∀a,a∈pT::pD::tb.map (·.2)->(c.qE (pT::pD::tb.map (·.2)) H).B a≠none:=λa ha=>by show(if a∈pT::pD::tb.map (·.2) then H a else c.B a)≠none;rw[if_pos ha];exact hs ha
 have go:∀{B2:List (À×À)} {D':DL},(∀x∈B2,x.2∈pT::pD::tb.map (·.2))->Paired (ph K F H) B2 D'->Paired (ph K F3 H3) B2 D':=by
  intro B2 D' hn hq
  induction hq with
  |nil=>exact .nil
  |@cons x d l m q t ih=>obtain⟨xs,vs,q1,q2,q3,q4⟩:=q;exact .cons ⟨xs,vs,s _ _ q1,q2.same s d.1 xs,up _ _ (hn x (by simp)) q3,q4.same s d.2 vs⟩ (ih λy hy=>hn y (í _ hy))
 refine⟨k1,k2,⟨us,up _ _ (by simp) h1,Bf.same s T us⟩,up _ _ (by simp) h2,go (λx hx=>í _ (í _ (Ĕ.mpr ⟨x,hx,rfl⟩))) h3,h4,λa ha=>⟨?_,(h5 a ha).2.1,λi q=>?_⟩⟩
 ·refine r.bS a (bn a ha) ?_;cases q:c.F₀ a with
  |none=>exact q
  |some u=>have:=f0 _ _ q;rw[(h5 a ha).1] at this;cases this
 ·exact bn a ha (r.owned q).2.2
def ve{i:Nat}{s:Slot}(h:O.all ae=true)(hs:ae s=true):(O.set i s).all ae=true:=by
 rw[aH] at h ⊢;intro x hx;rcases List.mem_or_eq_of_mem_set hx with q|q
 ·exact h x q
 ·rw[q];exact hs
def Ex.sets{i:Nat}{v:V}{s:Slot}(h:Ex K c F H Y O iT iD T D pT pD tb)(hs:s.own=false)(n1:iT≠i)(n2:iD≠i):Ex K c F H (Y.set i (Option.some v)) (O.set i s) iT iD T D pT pD tb:=by obtain⟨k1,k2,h1,h2,h3,h4,h5⟩:=h;exact⟨by rw[nX n1];exact k1,by rw[nX n2];exact k2,h1,h2,h3,h4,λa ha=>⟨(h5 a ha).1,(h5 a ha).2.1,e_ hs (h5 a ha).2.2⟩⟩
def AW{i:Nat}{v:V}(h:i < Y.length):lu (Y.set i (Option.some v)) i=Option.some v:=by unfold lu;rw[j_ h];rfl
def Ex.start(rel:ę K c F H Y O)(lT:iT < O.length)(lD:iD < O.length)(n:iT≠iD)(h1:H pT=none)(h2:upd H pT (.lst []) pD=none) :
 ę K c F (upd (upd H pT (.lst [])) pD (.lst [])) ((Y.set iT (Option.some (.ref pT))).set iD (Option.some (.ref pD))) ((O.set iT .no).set iD .no)/\Ex K c F (upd (upd H pT (.lst [])) pD (.lst [])) ((Y.set iT (Option.some (.ref pT))).set iD (Option.some (.ref pD))) ((O.set iT .no).set iD .no) iT iD [] [] pT pD []:=by
 have hl:=rel.len;have r1:=(rel.made (o:=.lst []) h1).put (i:=iT) (x:=Option.some (.ref pT)) (s:=.no) rfl trivial;have r2:=(r1.made (o:=.lst []) h2).put (i:=iD) (x:=Option.some (.ref pD)) (s:=.no) rfl trivial;have ne:pD≠pT:=λz=>by rw[z,ã] at h2;cases h2
 have h3:H pD=none:=by rw[Ú ne] at h2;exact h2
 refine⟨r2,?_,?_,⟨[],?_,Û.nil⟩,ã,.nil,?_,λa ha=>?_⟩
 ·rw[nX n];exact AW (by lia)
 ·exact AW (by simp;lia)
 ·rw[Ú (Đ ne)];exact ã
 ·simp;exact Đ ne
 ·have:a=pT\/a=pD:=by simpa using ha
  rcases this with rfl|rfl
  ·exact⟨rel.sub.free h1,rel.base.free h1,e_ rfl (e_ rfl (rel.fresh h1))⟩
  ·exact⟨rel.sub.free h3,rel.base.free h3,e_ rfl (e_ rfl (rel.fresh h3))⟩
end
section
variable{X:Cx}{cm:String->À}{E:Ą->XK}{pos:Pos}
def VS{i j iT iD m:Nat}{s1 s2:Ò}{tg iter:Æ}{body tail:List Ò}{mi:M (List PV)}{mf:MW}{ns:List Nat}{mt:M Fl}(h1:PS X s1 (FG (Ll Cy) (qX iT)))(h2:PS X s2 (FG (Ll Cy) (qX iD)))
 (hp:ko (Ì X.prog X.w) X.A X.env X.xe)(hc:X.calm=true)(hi:PI X tg iter (tI (kk X cm) E mi))(hg:PG X tg (Pj X.K 2 (Cj (qX i) (Cj (qX j) Ph))))(hb:ay X body (on λY H Q=>QJ ns Y H λvs H1=>MY (kk X cm) m mf vs H1 Q (E Y)))
 (ht:ay X tail (tS (kk X cm) E mt))(hE:∀Y Y',E Y=E Y')(hlen:∀{as:List Slot},mf as≠ .bad->as.length=m:=by exact rZ)(n1:iT≠iD:=by decide)(n2:iT≠i:=by decide)(n3:iD≠i:=by decide)(n4:iT≠j:=by decide)(n5:iD≠j:=by decide)
 (hs:∀x,bA iter X.env x=ç x:=by intro _;rfl):ay X (s1::s2:: .For tg iter body [] pos::tail) (tS (kk X cm) E (O_ i j iT iD mi (ō mf ns) mt)):=
 ay.wk (db h1 (db h2 (db (Co hp hc hi hg hb hs) ht))) λD Y H ⟨c,F,O,rel,h⟩=>by
  unfold O_ at h;split at h
  ·rename_i Sb;obtain⟨hpl,lT,lD⟩:=Sb;refine⟨ϳ _,λpT hT=>⟨ϳ _,λpD hD=>?_⟩⟩;obtain⟨Ę,S5⟩:=Ex.start rel lT lD n1 hT hD;have VT:((O.set iT .no).set iD .no).all ae=true:=ve (ve hpl rfl) rfl;generalize (O.set iT .no).set iD .no=O2 at*;have pr:∀{F3 H3:Hp} {Y3:Ą} {O3:ć} {T:List PV} {D':DL} {tb:List (À×À)},ę (kk X cm) c F3 H3 Y3 O3->O3.all ae=true->Ex (kk X cm) c F3 H3 Y3 O3 iT iD T D' pT pD tb->ę (kk X cm) (c.qE (pT::pD::tb.map (·.2)) H3) F3 H3 Y3 O3:=λr hp e=>r.qE (λa ha=>⟨e.some ha,e.2.2.2.2.2.2 a ha⟩) hp;refine⟨_,F,O2,pr Ę VT S5,?_⟩;cases em:mi O2 with
   |bad=>rw[em] at h;exact h.elim
   |exc x O'=>rw[em] at h;exact h.elim
   |ok ò O1=>
    rw[em] at h;dsimp only at h;split at h
    ·rename_i QM;intro J F1 H1 Ù X_ _ OG;have ex1:=S5.qE Ù X_ Ę.f0;have VU:ę (kk X cm) c F1 H1 _ O1:=Ù.Ed (λa ha=>⟨S5.some ha,(S5.2.2.2.2.2.2 a ha).2.1⟩) Ę.lb QM;refine⟨λk m' Y' H'=>∃F2 O' T D' tb,k<=ò.length/\m'=ò.length-k/\ę (kk X cm) c F2 H' Y' O'/\Õ F1 F2/\O'.all ae=true/\Ex (kk X cm) c F2 H' Y' O' iT iD T D' pT pD tb/\
      Œ (kk X cm) E c F2 D ((dz i j iT iD (ō mf ns) (ò.drop k) O' T D').bind λtd O2=>(match mt (Ū iT iD td.1 td.2 O2) with
       | .ok (.rt (.sh p)) _=>.ok (.rt (.sh p)) O2
       | .exc x _=>.exc x O2
       |_=>.bad)),⟨_,F1,O1,[],[],[],ϳ _,rfl,VU,Õ.refl _,QM,ex1,Œ.mono h X_⟩,?_⟩
     rintro k m' Y3 H3 ⟨F3,O3,T,D',tb,hle,rfl,dJ,Sv,GO,QN,h3⟩;have rp3:=pr dJ GO QN;obtain⟨go,stop⟩:=OG _ k F3 H3 Y3 O3 rp3 Sv λb u e=>(dJ.lent b u e).1;by_cases lP:k<ò.length
     ·obtain⟨g1,g2⟩:=go ò[k] (ž lP);rw[dN lP] at h3;unfold dz at h3;refine .inr ⟨g1,_,λY' H' z=>z,λx H4 hy=>?_⟩;obtain⟨F4,qv,S6,_,rp⟩:=g2 x H4 hy;have ex4:=QN.qE qv S6 dJ.f0;have Ih:ę (kk X cm) c F4 H4 Y3 O3:=qv.Ed (λa ha=>⟨QN.some ha,(QN.2.2.2.2.2.2 a ha).2.1⟩) dJ.lb GO;cases ep:ò[k] with
      |tup qs=>
       rw[ep] at h3 rp;unfold Ć at rp;obtain⟨t,xs,rfl,ht,rx⟩:=rp
       match qs,rx,h3 with
       | [q1,q2],rx,h3=>
         unfold Û at rx;obtain⟨v1,r',rfl,r1,rx⟩:=rx;unfold Û at rx;obtain⟨v2,r'',rfl,r2,rx⟩:=rx;unfold Û at rx;subst rx;refine⟨t,[v1,v2],rfl,Õ.tup Ih.sub ht,rfl,v1,[v2],rfl,v2,[],rfl,rfl,?_⟩;have qA:ę (kk X cm) c F4 H4 ((Y3.set i (some v1)).set j (some v2)) ((O3.set i (.sh q1)).set j (.sh q2)):=(Ih.put (s:=.sh q1) rfl ⟨v1,rfl,r1⟩).put (s:=.sh q2) rfl ⟨v2,rfl,r2⟩;have X0:=(ex4.sets (i:=i) (v:=v1) (s:=.sh q1) rfl n2 n3).sets (i:=j) (v:=v2) (s:=.sh q2) rfl n4 n5;have QO:((O3.set i (.sh q1)).set j (.sh q2)).all ae=true:=ve (ve GO rfl) rfl;generalize (Y3.set i (some v1)).set j (some v2)=Y5 at*;dsimp only at h3;generalize (O3.set i (.sh q1)).set j (.sh q2)=O5 at*;have VV:=qA.lend QO X0 n1;unfold ō at h3;cases el:cj (Ū iT iD T D' O5) ns with
         |none=>rw[el] at h3;exact h3.elim
         |some as=>
          rw[el] at h3;dsimp only at h3;obtain⟨vs,X1,v2'⟩:=pf VV el;refine⟨vs,X1,F4,as,hlen λz=>?_,qA.sub,v2',?_⟩
          ·rw[z] at h3;exact h3
          ·cases VW:mf as with
           |bad=>rw[VW] at h3;exact h3.elim
           |exc x=>rw[VW] at h3;exact λC d F' H' g rx=>h3 Y5 C d F' H' (qA.call g) (S6.trans g.f) rx
           |ok w=>
            rw[VW] at h3;dsimp only at h3;cases ej:ns[w.ix]? with
            |none=>rw[ej] at h3;exact h3.elim
            |some i'=>
             rw[ej] at h3;dsimp only at h3;by_cases hok:mM w (Ū iT iD T D' O5)[i']?=true
             ·rw[if_pos hok] at h3;dsimp only at h3;cases VX:wU iT iD (w.to i') T D' with
              |none=>rw[VX] at h3;exact h3.elim
              |some td=>
               rw[VX] at h3;intro F' H' H6 g hw;have ev:vs[w.ix]?=lu Y5 i':=by
                have:=congrArg (λl=>l[w.ix]?) X1;simp only[Ņ,ej,Option.map_some] at this;cases ev:vs[w.ix]? with
                |none=>rw[ev] at this;cases this
                |some v=>rw[ev] at this;injection this with this;exact this.symm
               rw[ev] at hw;obtain⟨ye,B2,ex6⟩:=X0.put (w:=w.to i') (T':=td.1) (D':=td.2) qA g (by rw[Ig];exact hw.to) VX;exact⟨ò.length-(k+1),by lia,F',O5,td.1,td.2,B2,lP,rfl,ye,(Sv.trans S6).trans g.f,QO,ex6,Œ.mono h3 (S6.trans g.f)⟩
             ·rw[if_neg hok] at h3;exact h3.elim
       | [],_,h3=>exact h3.elim
       | [_],_,h3=>exact h3.elim
       |_::_::_::_,_,h3=>exact h3.elim
      |_=>rw[ep] at h3;exact h3.elim
     ·have e:k=ò.length:=by lia
      refine .inl ⟨stop e,?_⟩;rw[cy (by lia)] at h3;refine⟨_,F3,_,dJ.lend GO QN n1,?_⟩;have KP:Œ (kk X cm) E c F3 D (match mt (Ū iT iD T D' O3) with
       | .ok (.rt (.sh p)) _=>.ok (.rt (.sh p)) O3
       | .exc x _=>.exc x O3
       |_=>.bad):=h3
      cases VY:mt (Ū iT iD T D' O3) with
      |bad=>rw[VY] at KP;exact KP.elim
      |exc x O6=>rw[VY] at KP;exact λY' C d F' H' Ś s' q=>by rw[hE Y' Y3];exact KP Y3 C d F' H' (dJ.call Ś.gr) s' q
      |ok fl O6=>
       rw[VY] at KP;cases fl with
       |rt r=>
        cases r with
        |sh p=>exact λv Y' F' H' Ś s' q=>KP v Y3 F' H' (dJ.call Ś.gr) s' q
        |_=>exact KP.elim
       |_=>exact KP.elim
    ·exact h.elim
  ·exact h.elim
end
end P
namespace PySem
open AutoSeq1 (wpAny_loadPart')
namespace S7
def QP(a:Á)(t:Tok):checkTypeCall "enumerate" ⟨[a],[(Ä "start",.int 1 t)]⟩=ç ():=by kernel_rfl
def QQ(a:Á)(t:Tok):checkBuiltinCall "enumerate.__new__" ⟨[.type "enumerate",a],[(Ä "start",.int 1 t)]⟩=ç ():=by kernel_rfl
def Xh(l:À)(ò:Array Á)(n:Nat)(t:Tok)(Xi:Option À)(sl:Array (Option Á)) :
 Meets (dU.«enumerate.__new__» ⟨[.type "enumerate",.ref l],[(Ä "start",.int 1 t)]⟩) (λ_ R s=>s.heap.get? l=some {cls:=.type "list",dict:=Xi,data:=.seq ò n,slots:=sl}/\
  R (.ok (.ret (.ref (s.heap.push {cls:=.type "list_iterator",data:=.fields #[.ref l,.int 0 0]}).objs.size)))
    {s with heap:=(s.heap.push {cls:=.type "list_iterator",data:=.fields #[.ref l,.int 0 0]}).push {cls:=.type "enumerate",data:=.fields #[.none,.bool false,.ref s.heap.objs.size,ň 1,.none,.none]}}):=
 .of_wp fun prog w A R s h=>by
   obtain⟨hp,g,d,tk,os⟩:=s;obtain⟨hl,h⟩:=h;have B0:=sub_enumerate;have hL:Heap.IsList (Shared.heap ⟨hp,g,d,tk,os⟩) l ò:=⟨_,hl,rfl,n,rfl⟩
   wp_walk using wpAny_loadPart' hl
   refine wpAny_stack_any λst=>â ?_;split
   ·rename_i c _ _ _ _ _;cases(c== tJ "enumerate")
    ·wp_walk using wpAny_loadPart' hl,iE hL
     exact⟨_,rfl,h⟩
    ·wp_walk using wpAny_loadPart' hl,iE hL
     exact⟨_,rfl,h⟩
   ·wp_walk using wpAny_loadPart' hl,iE hL
    exact⟨_,rfl,h⟩
section
variable{prog:Þ}{w:Ø}{A:à}{E:Á->Â->Prop}{s:Â}
def QR{self a:Á}{t:Tok}:Meets (dU.«object.__init__» ⟨[self,a],[(Ä "start",.int 1 t)]⟩) (λ_ R s=>s.TypeIs self "enumerate" /\R (.ok (.ret .none)) s):=by
 have hl:=tj.init.lookup;have hm:=tj.made;refine Meets.of_wp λprog w A R s hs=>?_;obtain⟨hT,hq⟩:=hs
 repeat (any_goals (first|assumption|wp_step))
 exact⟨_,rfl,hq⟩
def QS(a b:Á)(t:Tok):argsOk "object.__init__" ⟨[a,b],[(Ä "start",.int 1 t)]⟩:=by unfold argsOk;kernel_rfl
def QT{l:À}{ò:Array Á}{t:Tok}{Q:Á->Â->Prop}(hL:s.heap.IsList l ò)
 (h:∀h',ϵ h' (s.heap.objs.size+1) s.heap.objs.size 1 .none->h'.IsListIter s.heap.objs.size l 0->h'.objs.size=s.heap.objs.size+2->(∀b o,s.heap.get? b=some o->h'.get? b=some o)->Q (.ref (s.heap.objs.size+1)) {s with heap:=h'}) :
 Î (Ì prog w) A (call (.type "enumerate") [.ref l] [(Ä "start",.int 1 t)]) Q E s:=by
 obtain⟨⟨c,Xi,dt,sl⟩,hl,hc,n,hd⟩:=hL
 replace hc:c=.type "list" := hc
 replace hd:dt=.seq ò n:=hd
 subst hc hd;have ft:=tj;obtain⟨c,tl,Zaj⟩:=ft.mro;have Zab:=ft.made;have B0:=ft.sub;have hct:=QP (.ref l) t;refine cK (codeAny_of_tree ?_);show Î _ _ (callAny (.type "enumerate") _) _ _ _;refine â ⟨ti _ (by decide +kernel),codeAny_builtin F.entry_type_call ?_⟩;rw[Around.under_plain (weight_type_call_type "enumerate" [.ref l] [(Ä "start",.int 1 t)]) (units_type_call_type "enumerate" [.ref l] [(Ä "start",.int 1 t)])];have h1:=ft.notType;have h2:=ft.canCreate
 repeat (any_goals (first|assumption|wp_step))
 refine dS (ku ft.plain F.entry_enumerate_new (wpAny_of_eq (QQ (.ref l) t) (Xh l ò n t Xi sl prog w A.in1 (wants (λobj s₁=>s₁.TypeIs obj "enumerate" /\Q obj s₁) E) s ⟨hl,?_⟩))) λr s₁ hr=>?_
 ·have hz:(s.heap.push {cls:=.type "list_iterator",data:=.fields #[.ref l,.int 0 0]}).objs.size=s.heap.objs.size+1:=bC ..;show _/\_;rw[hz];have he:ϵ ((s.heap.push {cls:=.type "list_iterator",data:=.fields #[.ref l,.int 0 0]}).push {cls:=.type "enumerate",data:=.fields #[.none,.bool false,.ref s.heap.objs.size,ň 1,.none,.none]}) (s.heap.objs.size+1) s.heap.objs.size 1 .none:=by
   have:=Ŀ (s.heap.push {cls:=.type "list_iterator",data:=.fields #[.ref l,.int 0 0]}) (o:={cls:=.type "enumerate",data:=.fields #[.none,.bool false,.ref s.heap.objs.size,ň 1,.none,.none]}) rfl;rw[hz] at this;exact this
  exact⟨⟨_,he,rfl⟩,h _ he ⟨_,ö _ (Ŀ _ rfl),rfl,rfl⟩ (by rw[bC,hz]) λb o x=>ö _ (ö _ x)⟩
 ·cases r with
  |error e=>exact hr
  |ok fl=>
   cases fl with
   |ret obj=>
    obtain⟨hT,hq⟩:=hr;have hli:=ft.init.lookup;have Qqq9:=ft.init.bind obj
    repeat (any_goals (first|assumption|wp_step))
    refine dS (ku ft.init.plain F.entry_object_init (ft.init.check _ _ _ _ _ _ _ _ hT (QS _ _ t) (QR prog w A.in1 (wants (λr s₂=>r=.none/\Q obj s₂) E) s₁ ⟨hT,rfl,hq⟩))) λr₂ s₂ Xj=>?_;cases r₂ with
    |error e=>exact Xj
    |ok fl₂=>
     cases fl₂ with
     |ret r=>
      obtain⟨rfl,hq⟩:=Xj
      repeat (any_goals (first|assumption|wp_step))
     |_=>exact Xj.elim
   |_=>exact hr.elim
def B3{e it l:À}{i:Nat}{k:Int}{ò:Array Á}{x jW:Á}{Q:Á->Â->Prop}(he:ϵ s.heap e it k jW)(Bg:s.heap.IsListIter it l i)(hl:s.heap.IsList l ò)(hx:ò[i]?=some x)(qU:e≠it)
 (hQ:∀h',IsEnumOut h' e it (k+1) x s.heap.objs.size->h'.IsListIter it l (i+1)->h'.get? s.heap.objs.size=some {cls:=.type "tuple",data:=.seq #[.int k s.toks,x]}->h'.objs.size=s.heap.objs.size+1->(∀b o,b≠e->b≠it->s.heap.get? b=some o->h'.get? b=some o)->Q (.ref s.heap.objs.size) {s with heap:=h',toks:=s.toks+1}) :
 Î (Ì prog w) A (dU.«enumerate.__next__» ⟨[.ref e],[]⟩) (λjP s'=>∃v,jP=.done (.ret v)/\Q v s') E s:=by
 obtain⟨hp,g,d,tk,os⟩:=s;show Î _ _ (field (.ref e) 2 >>= _) _ _ _;refine Ë (Ř he rfl (x:=.ref it) rfl ?_);refine Ë (wpAny_nextOf_list_item Bg hl hx λha Sc sa=>?_)
 replace sa:ao it hp ha:=sa
 have ea:ϵ ha e it k jW:=(sa.2 e qU).trans he;show Î _ _ (field (.ref e) 3 >>= _) _ _ ⟨ha,g,d,tk,os⟩;refine Ë (Ř ea rfl (x:=ň k) rfl ?_);show Î _ _ (field (.ref e) 4 >>= _) _ _ ⟨ha,g,d,tk,os⟩;refine Ë (Ř ea rfl (x:=.none) rfl ?_);show Î _ _ (mkInt k >>= _) _ _ ⟨ha,g,d,tk,os⟩;refine Ë (wpAny_mkInt ?_);show Î _ _ (setField (.ref e) 3 (ň (k+1)) >>= _) _ _ ⟨ha,g,d,tk+1,os⟩;refine Ë (kx ea (by simp) λhb eb sb=>?_)
 replace sb:ao e ha hb:=sb
 replace eb:ϵ hb e it (k+1) jW:=eb
 show Î _ _ (setField (.ref e) 4 .none >>= _) _ _ ⟨hb,g,d,tk+1,os⟩;refine Ë (kx eb (by simp) λhc ec sc=>?_)
 replace sc:ao e hb hc:=sc
 replace ec:ϵ hc e it (k+1) jW:=ec
 show Î _ _ (newTuple [.int k tk,x] >>= _) _ _ ⟨hc,g,d,tk+1,os⟩;refine Ë (wpAny_newTuple ?_);have ed:ϵ (hc.push {cls:=.type "tuple",data:=.seq #[.int k tk,x]}) e it (k+1) jW:=ö _ ec;generalize Sd:hc.push {cls:=.type "tuple",data:=.seq #[.int k tk,x]}=hd at ed;have y_:hc.objs.size=hp.objs.size:=by rw[sc.1,sb.1,sa.1]
 have Xk:e<hp.objs.size:=ñ he;have td:hd.get? hp.objs.size=some {cls:=.type "tuple",data:=.seq #[.int k tk,x]}:=by rw[<-Sd,<-y_];exact Ŀ _ rfl
 have zd:hd.objs.size=hp.objs.size+1:=by rw[<-Sd,bC,y_]
 have kd:∀b o,b≠e->b≠it->hp.get? b=some o->hd.get? b=some o:=λb o wa Qqq9 q=>by rw[<-Sd];exact ö _ (sc.extBut b o wa (sb.extBut b o wa (sa.extBut b o Qqq9 q)))
 have itd:hd.IsListIter it l (i+1):=by rw[<-Sd];obtain⟨o,ho,r⟩:=(Sc.extBut sb.extBut (Đ qU)).extBut sc.extBut (Đ qU);exact⟨o,ö _ ho,r⟩
 show Î _ _ (zB (.ref e) >>= _) _ _ ⟨hd,g,d,tk+1,os⟩;rw[y_];clear Sd ec sc eb sb ea sa Sc y_ hc hb ha;refine Ë ?_
 ·unfold zB;refine Ë (Ř ed rfl (x:=.none) rfl (â ?_));simp only[if_true];refine Ë (wpAny_rule ?_);refine Ë (Ř ed rfl (x:=jW) rfl ?_);refine Ë (kx ed (by simp) λh5 e5 s5=>?_)
  replace s5:ao e hd h5:=s5
  replace e5:ϵ h5 e it (k+1) x:=e5
  show Î _ _ (zC (.ref e) (.ref hp.objs.size) >>= _) _ _ ⟨h5,g,d,tk+1,os⟩;refine Ë ?_
  ·unfold zC;refine Ë (kx e5 (by simp) λh6 e6 s6=>?_)
   replace s6:ao e h5 h6:=s6
   replace e6:IsEnumOut h6 e it (k+1) x hp.objs.size:=e6
   refine kx e6 (by simp) λh7 e7 s7=>?_
   replace s7:ao e h6 h7:=s7
   replace e7:IsEnumOut h7 e it (k+1) x hp.objs.size:=e7
   refine Ë (wpAny_letGo (â ⟨_,rfl,hQ h7 e7 ?_ ?_ ?_ ?_⟩))
   ·exact((itd.extBut s5.extBut (Đ qU)).extBut s6.extBut (Đ qU)).extBut s7.extBut (Đ qU)
   ·exact s7.extBut _ _ (bt Xk) (s6.extBut _ _ (bt Xk) (s5.extBut _ _ (bt Xk) td))
   ·rw[s7.1,s6.1,s5.1,zd]
   ·exact λb o wa Qqq9 q=>s7.extBut b o wa (s6.extBut b o wa (s5.extBut b o wa (kd b o wa Qqq9 q)))
def M6{e it l:À}{i:Nat}{k:Int}{ò:Array Á}{x jW:Á}{Q:Option Á->Â->Prop}(he:ϵ s.heap e it k jW)(Bg:s.heap.IsListIter it l i)(hl:s.heap.IsList l ò)(hx:ò[i]?=some x)(qU:e≠it)
 (hQ:∀h',IsEnumOut h' e it (k+1) x s.heap.objs.size->h'.IsListIter it l (i+1)->h'.get? s.heap.objs.size=some {cls:=.type "tuple",data:=.seq #[.int k s.toks,x]}->h'.objs.size=s.heap.objs.size+1->(∀b o,b≠e->b≠it->s.heap.get? b=some o->h'.get? b=some o)->Q (some (.ref s.heap.objs.size)) {s with heap:=h',toks:=s.toks+1}) :
 Î (Ì prog w) A (fE (.ref e)) Q E s:=by
 have hT:s.TypeIs (.ref e) "enumerate" := ⟨_,he,rfl⟩;unfold fE;exact Ë (kv (wpAny_callSpecial?_slot (name:=Ä "__next__") hT nD (wpAny_call_entry nD hT zI (B3 he Bg hl hx qU λh' a b c d k=>â (hQ h' a b c d k)) (zJ _))))
def yu{e it l:À}{i:Nat}{k:Int}{ò:Array Á}{jW:Á}{Q:Option Á->Â->Prop}(hh:A.handled=none)(he:ϵ s.heap e it k jW)(Bg:s.heap.IsListIter it l i)(hl:s.heap.IsList l ò)(hx:ò[i]?=none)
 (hQ:∀h',Heap.ExtBut it s.heap h'->Q none {s with heap:=h'}):Î (Ì prog w) A (fE (.ref e)) Q E s:=by
 have hT:s.TypeIs (.ref e) "enumerate" := ⟨_,he,rfl⟩;unfold fE;refine Ë (kv (wpAny_callSpecial?_slot (name:=Ä "__next__") hT nD (wpAny_call_entry nD hT zI ?_ (zJ _))));show Î _ _ (field (.ref e) 2 >>= _) _ _ _;refine Ë (Ř he rfl (x:=.ref it) rfl ?_);refine Ë (wpAny_nextOf_list_end hh Bg hl hx λh' x Xl OI=>?_);obtain⟨o,ho,hc⟩:=OI;refine Ë (wpAny_isInstance (T:= "StopIteration") (b:=true) ⟨o,ho,hc⟩ isSubtype_stop ?_);exact â (hQ _ Xl)
end
end S7
end PySem
namespace P
open PySem PySem.Spec PyProof.Rows L2 M2 M3 M4
def M7(K:É)(a:À):It:=
 ⟨λi H=>∃xs x,ϒ K H a xs/\xs[i]?=some x,λi H y H'=>∃x T,(∀xs,ϒ K H a xs->xs[i]?=some x)/\H T=none/\y=.ref T/\H'=upd H T (.tup [.int (((i+1:Nat):Int)),x]),λi H=>∃xs,ϒ K H a xs/\xs.length<=i⟩
def yw{P:Þ}{w:Ø}{K:É}{elts:List Æ}{k:Nat}{pos:Pos}(a e it:À)(qU:e≠it):BZ P w K (.Tuple elts k pos) (M7 K a) [e,it] e (λi h=>(∃jW,ϵ h e it (((i+1:Nat):Int)) jW)/\h.IsListIter it a i) where
 mem:=by simp
 obj:=λi h st b hb=>by
  obtain⟨⟨jW,he⟩,Bg⟩:=st;rcases Č.mp hb with rfl|hb
  ·exact⟨_,he,fun v z=>by have z':Data.fields _=Data.cell v:=z;cases z'⟩
  ·have e':b=it:=by simpa using hb
   subst e';obtain⟨o,e1,c,d⟩:=Bg;exact⟨o,e1,λv z=>by rw[d] at z;cases z⟩
 keep:=λi h h' st k=>⟨let ⟨jW,he⟩:=st.1;⟨jW,k e (by simp) _ he⟩,st.2.at λo q=>k it (by simp) o q⟩
 item:=by
  intro X hP hw hK hc i Ã s Y H E I hf st hg;subst hP hw hK;obtain⟨⟨jW,he⟩,Bg⟩:=st;obtain⟨xs,x,hq,hx⟩:=hg;obtain⟨ě,rv,p,hz⟩:=I.list hq;obtain⟨u,hu,ru⟩:=rv.get hx;have elt:e<s.heap.objs.size:=ñ he;have ilt:it<s.heap.objs.size:=by obtain⟨_,q,_⟩:=Bg;exact ñ q
  refine S7.M6 he Bg p.isList (x:=u) (by simpa using hu) qU λh' ho Xm hT y_ hk=>?_;refine⟨.ref s.heap.objs.size,rfl,wpAny_letOwnedTupleGo_enum ho λTY Xl RW=>?_⟩;have Fe:ao e h' TY:=RW;have lP:∀b∈[e,it],b<s.heap.objs.size:=λb hb=>by
   rcases Č.mp hb with rfl|hb
   ·exact elt
   ·have e':b=it:=by simpa using hb
    subst e';exact ilt
  have I2:=yn (fp:=[e,it]) (h':=TY) (t':=s.toks+1) (x1:=.int (((i+1:Nat):Int))) I ⟨s.toks,rfl⟩ ru ⟨_,(Fe.2 _ (bt elt)).trans hT,rfl⟩ (λb o hb q=>by have wa:b≠e:=λz=>hb (by simp[z]);have Qqq9:b≠it:=λz=>hb (by simp[z]);exact(Fe.2 b wa).trans (hk b o wa Qqq9 q)) hf lP;refine⟨.ref s.heap.objs.size,_,I2,rfl,⟨x,s.heap.objs.size,λys hy=>by rw[I.wf hy hq];exact hx,I.fresh,rfl,rfl⟩,⟨⟨u,?_⟩,Xm.at λo q=>(Fe.2 it qU.symm).trans q⟩,λb hb=>?_⟩
  ·have Qqq8:ϵ TY e it ((((i+1:Nat):Int))+1) u:=Xl;show ϵ TY e it (((i+1+1:Nat):Int)) u;rw[show(((i+1+1:Nat):Int))=((i+1:Nat):Int)+1 by lia];exact Qqq8
  ·rw[Ú (ħ (lP b hb))];exact(hf b hb).1
 done:=by intro X hP hw hK hc i Ã s Y H E I hf st hg;subst hP hw hK;obtain⟨⟨jW,he⟩,Bg⟩:=st;obtain⟨xs,hq,hx⟩:=hg;obtain⟨ě,rv,p,hz⟩:=I.list hq;have hl:=rv.length;refine S7.yu (I.ok.hd hc) he Bg p.isList (by simp;lia) λh' eb=>⟨rfl,turns (fp:=[e,it]) (t':=s.toks) I (λb o hb q=>eb b o (λz=>hb (by simp[z])) q) hf⟩
 self:=λ_ _ _ _ _ st h=>let ⟨_,he⟩:=st.1;wpAny_pyIter_enum he h
section
variable{X:Cx}{elts:List Æ}{k:Nat}{tp:Pos}
def M8(K:É)(ta:TA):TI:=λY H R=>ta Y H λvs H1=>∃a,vs=[.ref a]/\(∃xs,ϒ K H1 a xs)/\R (M7 K a) H1
def QU{M:cC}{A:à}{E:Á->Â->Prop}{s:Â}{pos:Pos}{T:String}{args:List (Bool×Sem Á)}{keywords:List (Option Str×Sem Á)}{Q:Á->Â->Prop}(jR:args.any (·.1)=false)(hkw:keywords.any (·.1.isNone)=false)
 (h:Î M A (evalArgs (.type T) true args keywords) (λa s₁=>Î M A (call (.type T) a.pos a.kw) Q E s₁) E s):Î M A (callWith pos (.type T) [] args keywords) Q E s:=by
 unfold callWith;refine Ë (aJ (Ň h (λa s₁ h₁=>Ë (cJ ?_)) λ_ _ x=>x));simp only[jR,hkw,sv];refine Ë (â ?_);exact Ë (Ň h₁ (λr s₂ hr=>Ë (aJ (wpAny_point (â hr)))) λ_ _ x=>x)
def Ee{l:Æ}{ta:TA}{p pos cp kp:Pos}{j:Nat}(hg:Gl X "enumerate")(hm:X.mg "enumerate" =none)(ha:PA X [l] ta)(hs:Ö [l] X.env=[(false,eval l X.env)]:=by exact ώ rfl) :
 PI X (.Tuple elts k tp) (.Call (.Name "enumerate" p) [l] [⟨some "start",.Constant (.int 1) j cp,kp⟩] pos) (M8 X.K ta):=by
 intro Ã s Y H R I h;refine cI (om I hg hm boot_enumerate (QU (by rw[hs];rfl) rfl ?_));have h':=ha pos Ã s Y H _ I h;rw[hs] at h' ⊢;refine evalArgs_kwB rfl (ŝ h' λus s1 ⟨vs,H1,I1,r1,q1⟩=>kws_cons (ŝ (uu Ã s1 Y H1 (λx H'=>x=.int 1/\H'=H1) I1 ⟨rfl,rfl⟩) λv s2 ⟨x,H2,I2,r2,e1,e2⟩=>kws_nil ?_));subst e1 e2;obtain⟨t,rfl⟩:=r2;obtain⟨a,e,⟨xs,hq⟩,q⟩:=q1;subst e;obtain⟨u,rfl,ru⟩:=r1.one;cases ru;obtain⟨ě,rv,pl,hz⟩:=I2.list hq;refine S7.QT pl.isList λh' he Bg y_ hk=>?_;have I3:Inv X Ã Y H2 {s2 with heap:=h'}:=I2.kept (t':=s2.toks) hk;refine wpAny_pyIter_enum (s:={s2 with heap:=h'}) he ⟨s2.heap.objs.size+1,[s2.heap.objs.size+1,s2.heap.objs.size],_,_,H2,rfl,I3,yw a _ _ (Nat.succ_ne_self _),⟨⟨_,he⟩,Bg⟩,λb hb=>?_,q⟩;have hb':s2.heap.objs.size<=b:=by
  rcases Č.mp hb with rfl|hb
  ·exact sP _
  ·have e':b=s2.heap.objs.size:=by simpa using hb
   exact sM e'.symm
 exact I2.Cm hb' (I2.hok.fresh hb')
end
@[simp] def pi(m:M (List PV))(O:ć):ĳ (List PV):= (m O).bind λps O1=>.ok (Ł 1 ps) O1
def yx{K:KK}{L F:Hp}{a:À}{ps:List PV}(h:xZ K L F (Pm K.K a) ps):xZ K L F (M7 K.K a) (Ł 1 ps):=by
 intro c i F2 H2 Y2 O2 rel sF sL;obtain⟨go,st⟩:=h c i F2 H2 Y2 O2 rel sF sL;refine⟨λp hp=>?_,λhi=>st (by rw[hi,rS])⟩;rw[rT] at hp;cases eq:ps[i]? with
 |none=>rw[eq] at hp;cases hp
 |some q=>rw[eq] at hp;have hp':PV.tup [.int ((1+i:Nat):Int),q]=p:=Š hp;subst hp';obtain⟨⟨xs,x,hq,hx⟩,g2⟩:=go q eq;refine⟨⟨xs,x,hq,hx⟩,λy H' ⟨x',T,h1,hT,ey,eH⟩=>?_⟩;subst ey eH;obtain⟨F3,dJ,s3,_,rp⟩:=g2 x' H2 ⟨rfl,h1⟩;obtain⟨r1,r2⟩:=GJ (p:=.int (((i+1:Nat):Int))) (x:=.int (((i+1:Nat):Int))) dJ hT (by unfold Ć;rfl) rp;refine⟨_,r1,s3.trans (Õ.upd (dJ.sub.free hT)),Õ.upd hT,?_⟩;rw[iu 1 i];exact r2
section
variable{X:Cx}{cm:String->À}{E:Ą->XK}{e:Æ}
def GP{elts:List Æ}{k j:Nat}{tp p pos cp kp:Pos}{mi:M (List PV)}(hg:Gl X "enumerate")(hm:X.mg "enumerate" =none)(hl:PE X e (tG (kk X cm) E (XW (kk X cm)) mi))(hs:Ö [e] X.env=[(false,eval e X.env)]:=by exact ώ rfl) :
 PI X (.Tuple elts k tp) (.Call (.Name "enumerate" p) [e] [⟨some "start",.Constant (.int 1) j cp,kp⟩] pos) (tI (kk X cm) E (pi mi)):=λÃ s Y H R I h=>Ee hg hm (Ϥ hl aN hs) hs Ã s Y H R I (by
 obtain⟨c,F,O,rel,h⟩:=h;refine⟨c,F,O,rel,h.bind λps O1 v F1 H1 Ù s1 s2 q h1=>?_⟩;obtain⟨a,e1,e2,e3⟩:=q;subst e1;exact⟨a,rfl,e2,h1 _ F1 H1 Ù Ď Ď (yx e3)⟩)
end
end P
namespace Sp
open PySem PySem.Builtin PySem.Builtin.Str PySem.StrLaws
abbrev S(l:List Nat):š:=⟨l.toArray⟩
noncomputable def ĥ(c:Nat):List Nat->List (List Nat)
 | []=>[[]]
 |x::xs=>if x=c then[]::ĥ c xs else(match ĥ c xs with
  | []=>[[x]]
  |p::ps=>(x::p)::ps)
theorem fb(c:Nat):∀l,∃p ps,ĥ c l=p::ps
 | []=>⟨_,_,rfl⟩
 |x::xs=>by
  unfold ĥ;split
  ·exact⟨_,_,rfl⟩
  ·split<;>exact⟨_,_,rfl⟩
noncomputable def mO(c:Nat):Nat->List Nat->List Nat
 |_,[]=>[]
 |k,x::xs=>if x=c then k::mO c (k+1) xs else mO c (k+1) xs
theorem vf(x:š)(c:Nat):∀(m a:Nat) (st:Array Nat×Nat),a+m=x.length+1->st.1.size<=a->st.2<=a->(forIn (ir a m) st (occBody x (S [c]) x.length (x.length+1))).run.fst.toList=st.1.toList++mO c a (x.cps.toList.drop a)
 |0,a,st,h,_,_=>by have:x.cps.toList.drop a=[]:=cy (by simp[ar] at h ⊢;lia);rw[this];simp[mO]
 |m+1,a,st,h,h1,h2=>by
  rw[sC,nc];unfold occBody;have hl:x.cps.toList.length=x.length:=by simp[ar]
  by_cases ha:a<x.length
  ·have hd:x.cps.toList.drop a=x.cps.toList[a]::x.cps.toList.drop (a+1):=dN (by lia);have hs:subAt x (S [c]) a=decide (x.cps.toList[a]=c):=by
    rw[subAt_eq,hd];show(List.take 1 _== [c])=_;rw[kf,List.take_zero,jZ];simp
   by_cases hc:x.cps.toList[a]=c
   ·rw[if_pos ⟨⟨⟨by lia,h2⟩,show a+1<=x.length by lia⟩,by rw[hs];simpa using hc⟩];have ih:=vf x c m (a+1) (st.1.push a,a+1) (by lia) (by simp;lia) (î _);refine ih.trans ?_;rw[hd,mO,if_pos hc];simp
   ·rw[if_neg λz=>hc (by have:=z.2;rw[hs] at this;simpa using this)];have ih:=vf x c m (a+1) (st.1,st.2) (by lia) (by show st.1.size<=a+1;lia) (by show st.2<=a+1;lia);refine ih.trans ?_;rw[hd,mO,if_neg hc]
  ·rw[if_neg λz=>ha (by have:=z.1.2;show a<x.length;have e:(S [c]).length=1:=rfl;lia)];have ih:=vf x c m (a+1) (st.1,st.2) (by lia) (by show st.1.size<=a+1;lia) (by show st.2<=a+1;lia);refine ih.trans ?_;have e1:x.cps.toList.drop a=[]:=cy (by lia);have e2:x.cps.toList.drop (a+1)=[]:=cy (by lia);rw[e1,e2];rfl
def M9(x:š)(c:Nat):fL x (S [c]) 0 x.length (x.length+1)=mO c 0 x.cps.toList:=by rw[occ_eq,vf x c _ 0 _ (by lia) (î _) (î _)];simp
def Ef(x:š)(i j:Nat):strSub x i j=S ((x.cps.toList.drop i).take (j-i)):=by apply bF;apply Array.toList_inj.mp;rw[strSub_toList]
theorem pj(x:š)(c:Nat):∀(m a b:Nat),b+m=x.length->a<=b->∀p ps,ĥ c (x.cps.toList.drop b)=p::ps->partsFrom x 1 a (mO c b (x.cps.toList.drop b))=S ((x.cps.toList.drop a).take (b-a)++p)::ps.map S
 |0,a,b,h,hab,p,ps,e=>by
  have hl:x.cps.toList.length=x.length:=by simp[ar]
  have:x.cps.toList.drop b=[]:=cy (by lia);rw[this] at e ⊢;cases e;show[strSub x a x.length]=_;rw[Ef,show x.length=b by lia];simp
 |m+1,a,b,h,hab,p,ps,e=>by
  have hl:x.cps.toList.length=x.length:=by simp[ar]
  have hd:x.cps.toList.drop b=x.cps.toList[b]::x.cps.toList.drop (b+1):=dN (by lia);obtain⟨q,qs,eq⟩:=fb c (x.cps.toList.drop (b+1));rw[hd] at e ⊢;rw[ĥ] at e;rw[mO];by_cases hc:x.cps.toList[b]=c
  ·rw[if_pos hc] at e ⊢;cases e;show strSub x a b::partsFrom x 1 (b+1) (mO c (b+1) (x.cps.toList.drop (b+1)))=_;rw[pj x c m (b+1) (b+1) (by lia) (î _) q qs eq,Ef,eq];simp
  ·rw[if_neg hc] at e ⊢;rw[eq] at e;injection e with e1 e2
   subst e1 e2;rw[pj x c m a (b+1) (by lia) (by lia) q qs eq];congr 2;have:(x.cps.toList.drop a).take (b+1-a)=(x.cps.toList.drop a).take (b-a) ++ [x.cps.toList[b]]:=by rw[show b+1-a=(b-a)+1 by lia,List.take_succ];congr 1;rw[List.getElem?_drop,show a+(b-a)=b by lia,ž (by lia)];rfl
   rw[this];simp
theorem AX(c:Nat):∀(l:List Nat) (k:Nat),mO c k l=[]->ĥ c l=[l]
 | [],k,_=>rfl
 |x::xs,k,h=>by
  unfold mO at h;split at h
  ·cases h
  ·rename_i hc;unfold ĥ;rw[if_neg hc,AX c xs (k+1) h]
theorem Na(c:Nat):∀(l:List Nat),c∉l->ĥ c l=[l]
 | [],_=>rfl
 |x::xs,h=>by unfold ĥ;rw[if_neg λz=>h (by simp[z]),Na c xs λz=>h (í _ z)]
def QV{c:Nat}(h:c<256):iK (S [c])=1:=by unfold iK;rw[if_pos (by simpa using h)]
def GQ(x:š):1<=iK x:=by
 unfold iK;split
 ·lia
 ·split<;>lia
def Eg(x:š){c:Nat}(h:c<256):Txt.split x (S [c])=(ĥ c x.cps.toList).map S:=by
 have hl:x.cps.toList.length=x.length:=by simp[ar]
 have whole:S x.cps.toList=x:=bF (by simp);have hk:=GQ x;unfold Txt.split;split
 ·rename_i h1;rw[QV h] at h1;have h0:x.length=0:=by
   simp only[sw,decide_eq_true_eq] at h1;have e:(S [c]).length=1:=rfl;lia
  have:x.cps.toList=[]:=ip.mp (by lia);have e:ĥ c x.cps.toList=[x.cps.toList]:=Na c _ (by rw[this];simp);rw[e,Ý,Ľ,whole]
 ·rw[M9];split
  ·rename_i h2;rw[AX c _ 0 (by simpa using h2),Ý,Ľ,whole]
  ·obtain⟨p,ps,e⟩:=fb c x.cps.toList;rw[partsBetween_eq];have:=pj x c x.length 0 0 (by lia) (î _) p ps (by rw[nh];exact e);rw[nh] at this;rw[e];show partsFrom x 1 0 _=_;rw[this];simp
theorem bh(c:Nat):∀(ys:List (List Nat)),ys≠[]->(∀y∈ys,c∉y)->ĥ c (M4.İ [c] ys)=ys
 | [],h,_=>absurd rfl h
 | [x],_,hn=>Na c x (hn x (by simp))
 |x::y::r,_,hn=>by
  have ih:=bh c (y::r) (by simp) λz hz=>hn z (í _ hz);have go:∀(x:List Nat),c∉x->ĥ c (x ++ [c]++M4.İ [c] (y::r))=x::y::r:=by
   intro x
   induction x with
   |nil=>intro _;show ĥ c (c::M4.İ [c] (y::r))=_;rw[ĥ,if_pos rfl,ih]
   |cons a x ihx=>intro h;show ĥ c (a::(x ++ [c]++M4.İ [c] (y::r)))=_;rw[ĥ,if_neg λz=>h (by simp[z]),ihx λz=>h (í _ z)]
  exact go x (hn x (by simp))
theorem pk(c:Nat):∀l,(ĥ c l).length<=l.length+1
 | []=>by simp[ĥ]
 |x::xs=>by
  have ih:=pk c xs;unfold ĥ;split
  ·simp;lia
  ·split
   ·simp
   ·rename_i e;rw[e] at ih;simp at ih ⊢;lia
end Sp
namespace P
open PySem PySem.Spec PyProof.Rows L2 M2 M3 M4 PySem.Builtin PySem.Builtin.Str
section
variable{prog:Þ}{w:Ø}{A:à}{E:Á->Â->Prop}{s:Â}{x y:š}{t u:Tok}{Q:Á->Â->Prop}
def GR(hy:(y.length== 0)=false)(hq:∀l k,l.map (·.1)=Txt.split x y->Q (.ref s.heap.objs.size) {s with heap:=s.heap.push {cls:=.type "list",data:=.seq (strValues l).toArray},toks:=k})
 (y_:x.length<=sizeLine)(Xn:(partsBetween x (fL x y 0 x.length (x.length+1)) y.length).length<=sizeLine):Î (Ì prog w) A (call (.builtin "str.split") [.str x t,.str y u]) Q E s:=by
 cases h1:(decide (x.length<y.length) || decide (iK x<iK y))
 ·cases hf:(fL x y 0 x.length (x.length+1)).isEmpty
  ·refine fK fM (iB _ _ _) tq (tu _ _) (meets_str_split_sep x y t u h1 hy hf y_ Xn) ?_;show wants Q E _ {s with toks:=_,heap:=s.heap.push {cls:=.type "list",data:=.seq (strsFrom s.toks (partsBetween x (fL x y 0 x.length (x.length+1)) y.length)).toArray}};rw[strsFrom_eq];exact hq (numbered s.toks _) _ ((numbered_texts _ _).trans ((if_neg (ne_true_of_eq_false h1)).trans (if_neg (ne_true_of_eq_false hf))).symm)
  ·exact fK fM (iB _ _ _) tq (tu _ _) (meets_str_split_not_found x y t u h1 hy hf) (hq [(x,t)] s.toks ((if_neg (ne_true_of_eq_false h1)).trans (if_pos hf)).symm)
 ·exact fK fM (iB _ _ _) tq (tu _ _) (meets_str_split_cannot_occur x y t u h1) (hq [(x,t)] s.toks (if_pos h1).symm)
end
theorem iZ:∀(l:List (š×Tok)) (ys:List (List Nat)),l.map (·.1)=ys.map S->ĭ (ys.map λy=>V.str (S y)) (strValues l)
 | [],[],_=>.nil
 | [],_::_,h=>by cases h
 |_::_,[],h=>by cases h
 |(a,t)::l,y::ys,h=>by
  rw[Ý,Ý] at h;injection h with h1 h2
  have Bf:a=S y:=h1;subst Bf;exact .cons ⟨t,rfl⟩ (iZ l ys h2)
def yy:V->List V->Hp->VK->Prop:=λx xs H Q=>match x,xs with
 | .str z,[.str y]=>∃c,y=S [c]/\c<256/\z.length+2<=16777216/\∀p,H p=none->Q (.ref p) (upd H p (.lst ((Sp.ĥ c z.cps.toList).map λl=>.str (S l))))
 |_,_=>False
def kU{X:Cx}:OQ X "str.split" yy:=by
 intro Ã s Y H x xs v us Q I rx rs h;unfold yy at h;split at h
 ·rename_i z y;obtain⟨c,rfl,hc,hz,q⟩:=h;obtain⟨t,rfl⟩:=rx;obtain⟨u,rfl,ru⟩:=vals1 rs;obtain⟨t',rfl⟩:=ru;have hl:z.cps.toList.length=z.length:=by simp[ar]
  refine GR rfl (λl k e=>?_) (by rw[ϛ];lia) (by rw[length_partsBetween,ϛ];have:=StrLaws.occ_length_le z (S [c]) 0 z.length (z.length+1);lia);rw[Sp.Eg z hc] at e;have hn:(strValues l).length<=sizeLine:=by have:=(iZ l _ e).length;rw[<-this,ď,ϛ];have:=Sp.pk c z.cps.toList;lia
  refine⟨.ref s.heap.objs.size,_,I.laid (o:=.lst ((Sp.ĥ c z.cps.toList).map λl=>.str (S l))) (t':=k) (λb u q=>ö _ q) (î _) ⟨?_,strValues l,0,iZ l _ e,Ŀ _ rfl⟩,rfl,q _ I.fresh⟩;rw[(iZ l _ e).length];exact hn
 ·exact h.elim
def X2(K:KK)(r:V->List V->Hp->VK->Prop)(f:PV->List PV->Option RV):Prop:=∀{c:Ctx} {F H:Hp} {Y:Ą} {O:ć} {p:PV} {ps:List PV} {pv:RV} {v:V} {vs:List V} {Q:VK},ę K c F H Y O->rR K c Y O F H p v->LV K c Y O F H ps vs->f p ps=some pv->
 (∀z F' H',ę K c F' H' Y O->Õ F F'->Õ H H'->rO K c Y O F' H' pv z->Q z H')->r v vs H Q
@[simp] def qF(f:PV→List PV→Option RV)(mo:M PV)(ms:M (List PV))(O:ć):ĳ RV:= (mo O).bind fun p O1=>match p with
  | .str _=>(ms O1).bind λps O2=>ĳ.Aq (f p ps) O2
  |_=>.bad
def BH:š->Option Nat:=λy=>match y.cps.toList with
 | [c]=>some c
 |_=>none
def bi:PV->List PV->Option RV
 | .str z,[.str y]=>(BH y).bind λc=>if c<256/\z.length+2<=16777216 then some (.ow ((Sp.ĥ c z.cps.toList).map λl=>.str (S l))) else none
 |_,_=>none
theorem sd{K:KK}{F:Hp}:∀ys:List (List Nat),Û K F (ys.map λl=>.str (S l)) (ys.map λl=>.str (S l))
 | []=>Û.nil
 |y::ys=>Û.cons Ć.str (sd ys)
def kW{K:KK}:X2 K yy bi:=by
 intro c F H Y O p ps pv v vs Q rel r1 r2 e k;unfold bi at e;split at e
 ·rename_i z y;cases r1.str;obtain⟨u,rfl,r3⟩:=vY r2;cases r3.str;obtain⟨c',ec,e⟩:=sR.mp e;split at e
  ·rename_i hz;cases e;have ey:y=S [c']:=by
    unfold BH at ec;split at ec
    ·rename_i c2 e2;cases ec;exact bF (by rw[show y.cps=y.cps.toList.toArray by simp,e2])
    ·cases ec
   refine⟨c',ey,hz.1,hz.2,λq hq=>?_⟩;obtain⟨a1,a2⟩:=dg rel hq (sd (K:=K) (F:=F) (Sp.ĥ c' z.cps.toList));exact k _ F _ a1 Ď (Õ.upd hq) a2
  ·cases e
 ·cases e
section
variable{X:Cx}{cm:String->À}{K:KK}{E:Ą->XK}{o e:Æ}{es:List Æ}{name:Str}{jQ ai pos:Pos}{id:String}{r:V->List V->Hp->VK->Prop}{f:PV->List PV->Option RV}{mo m:M PV}{ms:M (List PV)}
def GS(pa:PlainAttrs "str")(slot:PySem.Slot "str" name id)(ik:typeOf (.builtin id)=ç (.type "method_descriptor"))(hf:X2 (kk X cm) r f)(hm:OQ X id r)(ho:PE X o (tR (kk X cm) E mo))(ha:PA X (e::es) (Fs (kk X cm) E ms))
 (il:bB o name X.env (eval o X.env)=eval o X.env:=by rfl)
 (qi:((ĝ ai (Ö (e::es) X.env)).all (fun x=>!x.1) && (fH ai (fJ [] X.env)).all (fun x=>x.1.isSome)
   && decide ((e::es).length+([]:List ϴ).length+(if([]:List ϴ).isEmpty then 0 else 1)<30))=true:=by rfl)
 (im:(jQ.endLine== ai.line)=true:=by rfl)(hs:Ö (e::es) X.env=(false,eval e X.env)::Ö es X.env:=by exact ώ rfl)(jR:(ĝ ai (Ö es X.env)).any (·.1)=false:=by rfl) :
 PE X (.Call (.Attribute o name jQ) (e::es) [] ai) (tO (kk X cm) E (qF f mo ms)):=
 PE.wk (bY pa slot ik hm ho ha il qi im hs jR) fun Y H Q ⟨c,F,O,rel,h⟩=>⟨c,F,O,rel,ϔ.bind h fun p O1 v F1 H1 Ù _ _ r1 h1=>by
   cases p with
   |str z=>
    cases r1.str;refine⟨rfl,c,F1,O1,Ù,ϔ.bind h1 λps O2 vs F2 H2 Ę sF sH r2 h2=>?_⟩;cases ef:f (.str z) ps with
    |none=>rw[ef] at h2;exact h2.elim
    |some pv=>rw[ef] at h2;exact hf Ę (.inl (Ć.str (K:=kk X cm) (F:=F2))) r2 ef λz F' H' Ś s1 s2 q'=>h2 z F' H' Ś s1 s2 q'
   |_=>exact h1.elim⟩
def BI(m:M PV):M PV:=λO=>(m O).bind λp O1=>match p with
 | .str x=>if x.length<=16777216 then .ok (.str x) O1 else .bad
 | .int i=>if i.natAbs.log2<1920 then .ok (.str (ϸ i)) O1 else .bad
 |_=>.bad
def Ii(he:PE X e (tV (kk X cm) E m)):PE X (.FormattedValue e (-1) none pos) (tV (kk X cm) E (BI m)):=by
 intro Ã s Y H Q I ⟨c,F,O,rel,h⟩;refine FormattedValue_plain (ŝ (he Ã s Y H (λv H1=>(∃x,v=.str x/\x.length<=16777216/\Q (.str x) H1)\/∃i:Int,v=.int i/\i.natAbs.log2<1920/\Q (.str (ϸ i)) H1) I ⟨c,F,O,rel,ϔ.bind h λp O1 v F1 H1 Ù _ _ r1 h1=>?_⟩) λv s1 ⟨x,H1,I1,r1,q1⟩=>?_)
 ·cases p with
  |str x=>
   have ev:v=.str x:=by have jc:Ć (kk X cm) F1 (.str x) v:=r1;unfold Ć at jc;exact jc
   dsimp only at h1;split at h1
   ·rename_i hz;exact .inl ⟨x,ev,hz,h1 _ F1 H1 Ù Ď Ď Ć.str⟩
   ·exact h1.elim
  |int i=>
   have ev:v=.int i:=by have jc:Ć (kk X cm) F1 (.int i) v:=r1;unfold Ć at jc;exact jc
   dsimp only at h1;split at h1
   ·rename_i hz;exact .inr ⟨i,ev,hz,h1 _ F1 H1 Ù Ď Ď Ć.str⟩
   ·exact h1.elim
  |_=>exact h1.elim
 ·rcases q1 with⟨y,rfl,hz,q⟩|⟨i,rfl,hz,q⟩
  ·obtain⟨t,rfl⟩:=r1;exact formatField_str (λt' tk=>⟨.str y,H1,I1.tok _,⟨t',rfl⟩,q⟩) (by rw[ϛ];exact hz)
  ·obtain⟨t,rfl⟩:=r1;exact formatField_int_small hz ⟨.str (ϸ i),H1,I1.tok _,⟨_,rfl⟩,q⟩
noncomputable def GU:List (M PV)->š->M PV
 | [],out=>λO=>.ok (.str out) O
 |m::ms,out=>λO=>(m O).bind λp O1=>match p with
  | .str y=>if(out++y).length<=16777216 then GU ms (out++y) O1 else .bad
  |_=>.bad
def PJ(X:Cx)(cm:String->À)(E:Ą->XK)(es:List Æ)(ms:List (M PV)):Prop:=∀out Ã s Y H Q,out.length<=sizeLine->Inv X Ã Y H s->tV (kk X cm) E (GU ms out) Y H Q->Î (Ì X.prog X.w) X.A (joinParts out (ky es X.env)) (EP X Ã Y Q) X.xe s
def Nc:PJ X cm E [] []:=λout Ã s Y H Q hz I ⟨c,F,O,rel,h⟩=>joinParts_nil ⟨.str out,H,I.tok _,⟨_,rfl⟩,h _ F H rel Ď Ď Ć.str⟩ hz
def nY{ms:List (M PV)}(he:PE X e (tV (kk X cm) E m))(hr:PJ X cm E es ms)(hs:ky (e::es) X.env=eval e X.env::ky es X.env:=by rfl):PJ X cm E (e::es) (m::ms):=λout Ã s Y H Q hz I ⟨c,F,O,rel,h⟩=>by
 rw[hs];refine joinParts_cons (ŝ (he Ã s Y H (λv H1=>∃y,v=.str y/\(out++y).length<=16777216/\tV (kk X cm) E (GU ms (out++y)) Y H1 Q) I ⟨c,F,O,rel,ϔ.bind h λp O1 v F1 H1 Ù _ _ r1 h1=>?_⟩) λv s1 ⟨x,H1,I1,r1,y,e1,Xo,q1⟩=>?_)
 ·cases p with
  |str y=>
   have ev:v=.str y:=by have jc:Ć (kk X cm) F1 (.str y) v:=r1;unfold Ć at jc;exact jc
   dsimp only at h1;split at h1
   ·rename_i Xo;exact⟨y,ev,Xo,c,F1,O1,Ù,h1⟩
   ·exact h1.elim
  |_=>exact h1.elim
 ·subst e1;obtain⟨t,rfl⟩:=r1;have Hm:(out++y).length<=sizeLine:=by rw[ϛ];exact Xo
  exact⟨Hm,hr (out++y) Ã s1 Y H1 Q Hm I1 q1⟩
def VZ{e2:Æ}{m2:M PV}{ms:List (M PV)}(h:PJ X cm E (e::e2::es) (m::m2::ms))(hs:ky (e::e2::es) X.env=eval e X.env::eval e2 X.env::ky es X.env:=by rfl):PE X (.JoinedStr (e::e2::es) pos) (tV (kk X cm) E (GU (m::m2::ms) dX)):=λÃ s Y H Q I hq=>by refine JoinedStr_many ?_;rw[<-hs];exact h dX Ã s Y H Q (by decide) I hq
@[simp] theorem Nd{O:ć}:BI m O=(m O).bind fun p O1=>match p with
  | .str x=>if x.length<=16777216 then .ok (.str x) O1 else .bad
  | .int i=>if i.natAbs.log2<1920 then .ok (.str (ϸ i)) O1 else .bad
  |_=>.bad:=rfl
@[simp] theorem Eh{out:š}{O:ć}:GU [] out O=.ok (.str out) O:= rfl
@[simp] theorem Ei{ms:List (M PV)}{out:š}{O:ć}:GU (m::ms) out O=(m O).bind fun p O1=>match p with
  | .str y=>if(out++y).length<=16777216 then GU ms (out++y) O1 else .bad
  |_=>.bad:=rfl
end
section
variable{X:Cx}{K:KK}
def Ij:List V->Hp->VK->Prop:=λxs H Q=>DU xs H Q\/∃z n,xs=[.str z]/\kz z=some n/\z.length<=640/\Q (.int n) H
def GV:Ŝ X (.type "int") Ij:=by
 intro Ã s Y H vs us Q I r h;rcases h with h|⟨z,n,rfl,h1,h2,q⟩
 ·exact Mx Ã s Y H vs us Q I r h
 ·obtain⟨u,rfl,ru⟩:=vals1 r;obtain⟨t,rfl⟩:=ru;exact PySem.W.KIN.call_text h1 h2 ⟨.int n,H,I.tok _,⟨_,rfl⟩,q⟩
def kX:List PV->Option PV
 | [.str z]=>if z.length<=640 then(kz z).map .int else none
 |ps=>DV ps
def GW:dh K Ij kX:=by
 intro c F H Y O ps pv vs Q rel r e k;unfold kX at e;split at e
 ·rename_i z;split at e
  ·rename_i hz;obtain⟨n,e1,rfl⟩:=ki.mp e;obtain⟨v,rfl,r1⟩:=vY r;cases r1.str;exact .inr ⟨z,n,rfl,e1,hz,k _ F H rel Ď Ď Ć.int⟩
  ·cases e
 ·exact .inl (Mz rel r e k)
def Ik:List V->Hp->VK->Prop:=λxs H Q=>DW xs H Q\/∃z,xs=[.str z]/\Q (.str z) H
def i_:Ŝ X (.type "str") Ik:=by
 intro Ã s Y H vs us Q I r h;rcases h with h|⟨z,rfl,q⟩
 ·exact MA Ã s Y H vs us Q I r h
 ·obtain⟨u,rfl,ru⟩:=vals1 r;obtain⟨t,rfl⟩:=ru;exact PySem.P.str_of_str ⟨.str z,H,I,⟨t,rfl⟩,q⟩
def bO:List PV->Option PV
 | [.str z]=>some (.str z)
 |ps=>GH ps
def ja:dh K Ik bO:=by
 intro c F H Y O ps pv vs Q rel r e k;unfold bO at e;split at e
 ·cases e;obtain⟨v,rfl,r1⟩:=vY r;cases r1.str;exact .inr ⟨_,rfl,k _ F H rel Ď Ď Ć.str⟩
 ·exact .inl (MB rel r e k)
@[simp] theorem QW{z:š}:kX [.str z]=if z.length<=640 then(kz z).map .int else none:=rfl
@[simp] theorem QX{i:Int}:kX [.int i]=some (.int i):=rfl
@[simp] theorem QY{i:Bool}:kX [.bl i]=some (.int (if i then 1 else 0)):=rfl
@[simp] theorem QZ{z:š}:bO [.str z]=some (.str z):=rfl
@[simp] theorem pp{i:Int}:bO [.int i]=if i.natAbs.log2<1920 then some (.str (ϸ i)) else none:=rfl
end
section
end
end P
namespace Sp
open PySem PySem.Builtin PySem.Builtin.Str PySem.StrLaws
def Q_(x:š)(c:Nat):(!(fL x (S [c]) 0 x.length 1).isEmpty)=decide (c∈x.cps.toList):=by
 have hl:x.cps.toList.length=x.length:=by simp[ar]
 have h:=occ_none x (S [c]) x.length (ir 0 (x.length+1)) 0 (λ_ _=>ϳ _);have e:(fL x (S [c]) 0 x.length 1).isEmpty=true↔¬c∈x.cps.toList:=by
  rw[occ_eq];rw[List.isEmpty_iff,Array.toList_eq_nil_iff];refine h.trans ?_;have hs:∀i,(hi:i<x.length)->(subAt x (S [c]) i=true↔x.cps.toList[i]'(by lia)=c):=λi hi=>by rw[subAt_eq,dN (by lia)];show((List.take 1 _== [c])=true)↔_;rw[kf,List.take_zero];simp
  constructor
  ·intro q z;obtain⟨i,hi,e⟩:=List.getElem_of_mem z;exact q i (by simp;lia) ⟨show i+1<=x.length by lia,(hs i (by lia)).mpr e⟩
  ·intro q i _ ⟨z1,z2⟩;have z1':i+1<=x.length:=z1;exact q ((hs i (by lia)).mp z2▸ng _)
 cases q:(fL x (S [c]) 0 x.length 1).isEmpty with
 |true=>have:=e.mp q;simp[this]
 |false=>
  have:c∈x.cps.toList:=sy λz=>by rw[e.mpr z] at q;cases q
  simp[this]
end Sp
namespace P
open PySem PySem.Spec PyProof.Rows L2 M2 M3 M4
def V_:R2:=λx y H Q=>∃c z,x=.str (S [c])/\y=.str z/\Q (.bl (decide (c∈z.cps.toList))) H
def Fx(p q:PV):Option PV:=match p,q with
 | .str y,.str z=>(BH y).map λc=>.bl (decide (c∈z.cps.toList))
 |_,_=>B1 false p q
def Q0(K:É):R2:=λx y H Q=>V_ x y H Q\/ME K false x y H Q
section
variable{X:Cx}{K:KK}
def yz(hu:X.A.units+64<ϝ):aD X (ı .In) (Q0 X.K):=by
 intro Ã s Y H x y v u Q I rx ry h;rcases h with⟨c,z,rfl,rfl,q⟩|h
 ·obtain⟨t,rfl⟩:=rx;obtain⟨t',rfl⟩:=ry;refine in_str ?_;rw[Sp.Q_ z c];exact⟨.bl _,H,I,rfl,q⟩
 ·exact MG hu Ã s Y H x y v u Q I rx ry h
def yA:kM K (Q0 K.K) Fx:=by
 intro c F H Y O p q pv v u Q rel r1 r2 e k;unfold Fx at e;split at e
 ·rename_i y z;obtain⟨c',ec,rfl⟩:=ki.mp e;cases r1.str;cases r2.str;have ey:y=S [c']:=by
   unfold BH at ec;split at ec
   ·rename_i c2 e2;cases ec;exact bF (by rw[show y.cps=y.cps.toList.toArray by simp,e2])
   ·cases ec
  exact .inl ⟨c',z,by rw[ey],rfl,k _ F H rel Ď Ď Ć.bl⟩
 ·exact .inr (MJ rel r1 r2 e k)
end
@[simp] theorem V0{c:Nat}{z:š}:Fx (.str ⟨#[c]⟩) (.str z)=some (.bl (decide (c∈z.cps.toList))):=rfl
@[simp] theorem S8{p:PV}{ps:List PV}:Fx p (.lst ps)=B1 false p (.lst ps):=by cases p<;>rfl
@[simp] theorem S9{p:PV}{ps:List PV}:Fx p (.tup ps)=B1 false p (.tup ps):=by cases p<;>rfl
section
end
section
end
end P
namespace My
noncomputable def gd(a b:Int):Int:=((Int.gcd a b:Nat):Int)
def dv(t b:Int):Int:=if b<0 then-gd t b else gd t b
end My
namespace Hu
abbrev Pt:=Int×Int
noncomputable def tn(a b c:Pt):Int:=(b.1-a.1)*(c.2-a.2)-(b.2-a.2)*(c.1-a.1)
section
end
abbrev Ln:=Int×Int×Int
def hd(l:Ln)(p:Pt):Bool:=decide (l.1*p.1+l.2.1*p.2<=l.2.2)
def at_(S:List Pt)(i:Nat):Pt:=S.getD i (0,0)
structure Z3R(S:List Pt)(p:Pt)(w:List Int)(q:List Nat):Prop where
 len:w.length=q.length
 sum:w.sum≠0
 sign:∀s∈w,0<=s*w.sum
 nd:q.Nodup
 lt:∀i∈q,i<S.length
 x:((w.zip q).map λa=>a.1*(at_ S a.2).1).sum=w.sum*p.1
 y:((w.zip q).map λa=>a.1*(at_ S a.2).2).sum=w.sum*p.2
end Hu
namespace Fr
end Fr
namespace T
open PySem L2 M2 M3 M4 P
noncomputable section
def ck(i:Nat):Ò:=PySem.Challenge.pw_shadowpost_k72_rows_that_cannot_stand.main.body.getD i (.Pass ⟨0,0,0,0⟩)
abbrev Il:Ò:=ck 73
abbrev Im:Ò:=ck 70
abbrev Io:Ò:=ck 74
abbrev Q1:Ò:=ck 71
abbrev Ip:Ò:=ck 75
abbrev Iq:Ò:=ck 76
abbrev Ir:Ò:=ck 64
abbrev Iv:Ò:=ck 65
abbrev Ix:Ò:=ck 66
abbrev Iy:Ò:=ck 67
abbrev Iz:Ò:=ck 68
abbrev Q2:Ò:=ck 69
abbrev IA:Ò:=ck 72
abbrev IB:Ò:=eG (ck 24) 1
abbrev IC:Ò:=ck 59
abbrev ID:Ò:=ck 60
abbrev IE:Ò:=ck 36
abbrev IF:Ò:=ck 37
abbrev IG:Ò:=ck 39
abbrev IH:Ò:=ck 48
abbrev II:Ò:=ck 49
abbrev IJ:Ò:=ck 53
abbrev Ej:Ò:=eG (ck 46) 0
abbrev IK:Ò:=ck 12
abbrev IL:Ò:=ck 52
abbrev IM:Ò:=ck 56
abbrev IN:Ò:=ck 38
abbrev IP:Ò:=ck 51
abbrev Ek:Ò:=ck 55
abbrev IQ:Ò:=ck 16
abbrev IS:Ò:=ck 17
abbrev IT:Ò:=ck 19
abbrev Q3:Ò:=eG (ck 24) 0
abbrev IU:Ò:=ck 20
abbrev IV:Ò:=ck 21
abbrev Q4:Ò:=ck 22
abbrev Q5:Ò:=ck 18
abbrev IW:Ò:=ck 23
abbrev IX:Ò:=ck 30
abbrev IY:Ò:=ck 50
abbrev IZ:Ò:=ck 54
abbrev I_:Ò:=ck 57
abbrev I0:Ò:=ck 58
abbrev Q6:Ò:=eG (ck 62) 0
abbrev Ja:Ò:=ck 77
abbrev Jb:Ò:=ck 78
abbrev V1:Ò:=eG (ck 5) 0
abbrev V2:Ò:=eG (ck 6) 0
abbrev Q7:Ò:=eG (ck 7) 0
abbrev V3:Ò:=eG (ck 9) 0
def Zl:List ((String×String)×Bool):=[(("YardError","BadRow"),false),(("YardError","BadThing"),false),(("YardError","NoDay"),false),(("YardError","NoNumber"),false),(("YardError","NoRow"),false),(("YardError","NoStone"),false),(("YardError","NoTurn"),false),(("NoNumber","BadRow"),false),(("NoNumber","BadThing"),false),(("NoNumber","NoDay"),false),(("NoNumber","NoNumber"),true),(("NoNumber","NoRow"),false),(("NoNumber","NoStone"),false),(("NoNumber","NoTurn"),false),(("BadThing","BadRow"),false),(("BadThing","BadThing"),true),(("BadThing","NoDay"),false),(("BadThing","NoNumber"),false),(("BadThing","NoRow"),false),(("BadThing","NoStone"),false),(("BadThing","NoTurn"),false),(("NoStone","BadRow"),false),(("NoStone","BadThing"),false),(("NoStone","NoDay"),false),(("NoStone","NoNumber"),false),(("NoStone","NoRow"),false),(("NoStone","NoStone"),true),(("NoStone","NoTurn"),false),(("NoTurn","BadRow"),false),(("NoTurn","BadThing"),false),(("NoTurn","NoDay"),false),(("NoTurn","NoNumber"),false),(("NoTurn","NoRow"),false),(("NoTurn","NoStone"),false),(("NoTurn","NoTurn"),true),(("BadRow","BadRow"),true),(("BadRow","BadThing"),false),(("BadRow","NoDay"),false),(("BadRow","NoNumber"),false),(("BadRow","NoRow"),false),(("BadRow","NoStone"),false),(("BadRow","NoTurn"),false),(("NoRow","BadRow"),false),(("NoRow","BadThing"),false),(("NoRow","NoDay"),false),(("NoRow","NoNumber"),false),(("NoRow","NoRow"),true),(("NoRow","NoStone"),false),(("NoRow","NoTurn"),false),(("NoDay","BadRow"),false),(("NoDay","BadThing"),false),(("NoDay","NoDay"),true),(("NoDay","NoNumber"),false),(("NoDay","NoRow"),false),(("NoDay","NoStone"),false),(("NoDay","NoTurn"),false)]
def Zm:List ((String×String)×Bool):=[(("YardError","ValueError"),true),(("NoNumber","ValueError"),true),(("BadThing","ValueError"),true),(("NoStone","ValueError"),true),(("NoTurn","ValueError"),true),(("BadRow","ValueError"),true),(("NoRow","ValueError"),true),(("NoDay","ValueError"),true)]
def Zn:List String:=["BadRow","BadThing","NoDay","NoNumber","NoRow","NoStone","NoTurn"]
def Zo:List String:=["ValueError"]
def cmB(c0:À)(c1:À)(c2:À)(c3:À)(c4:À)(c5:À)(c6:À)(c7:À)(c8:À)(c9:À)(GX:À)(c11:À)(c12:À)(c13:À)(c14:À)(c15:À):String->À:=λs=>match s with
 | "YardError" =>c0
 | "NoNumber" =>c1
 | "BadThing" =>c2
 | "NoStone" =>c3
 | "NoTurn" =>c4
 | "BadRow" =>c5
 | "NoRow" =>c6
 | "NoDay" =>c7
 | "Thing" =>c8
 | "Post" =>c9
 | "Fence" =>GX
 | "Sail" =>c11
 | "Cloth" =>c12
 | "House" =>c13
 | "Yard" =>c14
 | "Desk" =>c15
 |_=>0
def El:M Fl:=(Ħ (ϻ [1,0] 1 (hG b_ (Å (aP aU (Å (È 0) á)) á)) (gN 2) (bU (Ô ń (Ô ė (ß (qF bi (Ô ė (È 1) (È 2)) (Å (mC (.str " ")) á))) (Ï 0)) (È 0))) (ì 2)))
def wW:MF:=ś 2 2 El
def Nf:M Fl:=(ą (Ń 0 (ŧ (Å (mC (.str "")) (Å (mC (.str "yard 2 2")) (Å (mC (.str "post 1 2")) (Å (mC (.str "post 1 2 0")) (Å (mC (.str "post 01 2 3")) (Å (mC (.str "fence 1 1 1 1 3")) (Å (mC (.str "sail 2 0 1 3 4")) á)))))))))
 (ą (Ń 0 (Ĉ ô (È 0) (ß (ŧ (Å (mC (.str "house 0 0 1 0 4")) (Å (mC (.str "cloth 0 0 -1 1 1 1 2 2 2")) (Å (mC (.str "cloth 0 0 1 1 1 1 2 2")) (Å (mC (.str "tower 1 2 3")) (Å (mC (.str "ray 1 1 0")) á)))))))))
 (ą (Ń 0 (Ĉ ô (È 0) (ß (ŧ (Å (mC (.str "ray 1 1")) (Å (mC (.str "night 1")) á))))))
 (ą (Ń 0 (Ĉ ô (È 0) (ß (ŧ (Å (mC (.str "ray 1000001 0 1")) (Å (mC (.str "ray 0 -1000001 1")) (Å (mC (.str "ray 0 0 1000001")) (Å (mC (.str "day a")) (Å (mC (.str "day q1 3")) (Å (mC (.str "day Q 3")) (Å (mC (.str "day qx 0")) á)))))))))))
 (ą (Ń 0 (Ĉ ô (È 0) (ß (ŧ (Å (mC (.str "day qx 1000000001")) (Å (mC (.str "day abcdefghi 1")) (Å (mC (.str " night")) (Å (mC (.str "post 1 2 3 ")) (Å (mC (.str "post  1 2 3")) (Å (mC (.str "Night")) (Å (mC (.str "post")) á)))))))))))
 (ą (Ń 0 (Ĉ ô (È 0) (ß (ŧ (Å (mC (.str "post 1000000001 0 1")) (Å (mC (.str "post 0 0 1000000001")) (Å (mC (.str "ray a b c")) (Å (mC (.str "day qx x")) (Å (mC (.str "day qx 1 1")) á)))))))))
 (Ħ (Ĉ ô (È 0) (ß (ŧ (Å (mC (.str "fence 0 0 1 1")) (Å (mC (.str "post -0 1 1")) (Å (mC (.str "post 1 1 +1")) (Å (mC (.str "ray 0 0 +1")) (Å (mC (.str "day qx 00000000001")) (Å (mC (.str "post 1 1 1e1")) á))))))))))))))))
def Em:MF:=ś 0 1 Nf
def En:M Fl:=(Ħ (aw (dI (Å (ß (Ĉ ô (ß (Ĉ ô (ß (rH (È 0) hU (mP (ì 1)))) (ß (ŧ (Å (ì 2) á))))) (ß (rH (È 0) (mP (ì 1)) hU)))) (Å (ì 1) á)))))
def se:MF:=ś 3 3 En
def Q8:M Fl:=(ą (Ń 0 (ŧ (Å (mC (.str "yard 0 3")) (Å (mC (.str "yard 21 1")) (Å (mC (.str "yard 1 21")) (Å (mC (.str "yard 1")) (Å (mC (.str "yard 1 1 1")) (Å (mC (.str "Yard 1 1")) (Å (mC (.str "")) á)))))))))
 (Ħ (Ĉ ô (È 0) (ß (ŧ (Å (mC (.str "yard 01 1")) (Å (mC (.str "night")) (Å (mC (.str "yard  1 1")) á))))))))
def Ng:MF:=ś 0 1 Q8
def Eo:M Fl:=(DZ 0 (ŧ (Å (ß (Ĉ ô (ß (Ĉ ô (mC (.str "day ")) (Ô ė (mC (.str "abcdefghijklm")) (È 3)))) (mC (.str " 1")))) (Å (mC (.str "night")) á))))
def vg:M Fl:=(ą (eK (bU (Ô ń (È 1) (Ï 7)))
 (ą (Ń 0 (Ĉ ô (ß (ŧ (Å (Ô ė (È 0) (Ï 0)) á))) (ß (Dk (Å (ß (Ĉ ô (mC (.str "post 0 0 ")) (aP bO (Å (ß (Ĉ ô (Ï 1) (Ô ğ (È 2) (Ï 9)))) á)))) á) (Ï 41)))))
 (Ħ (aw (dI (Å (ì 0) (Å (Ï 41) á))))))
 ge)
 (ą (eK (bU (Ô ń (È 1) (Ï 8)))
 (ą (Ń 0 (ŧ (Å (Ô ė (È 0) (Ï 0)) á)))
 (ą (qy (hG b_ (Å (Ï 13) á)) (gN 3) Eo)
 (Ħ (aw (dI (Å (ì 0) (Å (Ï 25) á)))))))
 ge)
 (Ħ (aw (dI (Å (ß (Ĉ ô (ß (ŧ (Å (Ô ė (È 0) (Ï 0)) (Å (mC (.str "day x 1")) á)))) (ß (Dk (Å (mC (.str "ray 1 1 1")) (Å (mC (.str "night")) á)) (Ï 13))))) (Å (Ï 26) á)))))))
def kY:MF:=ś 3 4 vg
def bV:M Fl:=(ą (Ń 3 (ā wW (ä 0 (Ă (mC (.str "day")) ó))))
 (ą (eK (bU (Ô yf (È 1) (Ï 2)))
 (Ħ (aw (dI (Å (ì 0) (Å (mC .non) á)))))
 ge)
 (ą (eK (bU (Ô ń (È 1) (Ï 2)))
 (ą (Ń 4 (ā Ng ó))
 (Ħ (aw (dI (Å (ß (Ĉ ô (ß (ŧ (Å (Ô ė (È 4) (Ô ğ (È 2) (aP aU (Å (È 4) á)))) á))) (ß (rH (È 0) (mP (Ï 1)) hU)))) (Å (Ï 0) á))))))
 ge)
 (ą (eK (kN (bU (Ô ń (È 1) (Ï 3))) (bU (Ô wM (È 3) (ß (ŧ á)))))
 (Ħ (ā se (ä 0 (Ă (ß (Ĉ ô (ß (Ĉ ô (Ô ė (È 3) (Ï 0)) (Ï 1))) (Ô ğ (È 2) (Ô aY (aP aU (Å (È 0) á)) (Ô ė (È 3) (Ï 0)))))) (Ă (mC (.str "post 1 1 1")) ó)))))
 ge)
 (ą (eK (bU (Ô ń (È 1) (Ï 4)))
 (ą (Ń 5 (aw (Ô ė (ß (Ĉ ô (È 3) (ß (ŧ (Å (aP aU (Å (È 0) á)) á))))) (Ï 0))))
 (Ħ (ā se (ä 0 (Ă (ß (Ĉ ô (Ï 1) (Ô ğ (È 2) (È 5)))) (Ă (Ô ė (ß (ŧ (Å (mC (.str "ray 1 0 1")) (Å (mC (.str "night")) á)))) (Ô ğ (Ô jm (È 2) (Ï 50)) (Ï 2))) ó))))))
 ge)
 (ą (eK (kN (bU (Ô ń (È 1) (Ï 5))) (bU (Ô wM (È 3) (ß (ŧ á)))))
 (Ħ (aw (dI (Å (ß (Ĉ ô (È 0) (ß (ŧ (Å (Ô ė (È 0) (Ô ė (È 3) (Ô ğ (È 2) (aP aU (Å (È 3) á))))) (Å (mC (.str "night")) á)))))) (Å (aP aU (Å (È 0) á)) á)))))
 ge)
 (ą (eK (bU (Ô ń (È 1) (Ï 6)))
 (ą (Ń 6 (aw (Ô ė (ß (Ĉ ô (È 3) (ß (ŧ (Å (aP aU (Å (È 0) á)) á))))) (Ô ğ (È 2) (ß (Ĉ ô (aP aU (Å (È 3) á)) (Ï 1)))))))
 (Ħ (aw (dI (Å (ß (Ĉ ô (ß (Ĉ ô (ß (rH (È 0) hU (mP (ì 6)))) (ß (ŧ (Å (mC (.str "day zz 3")) á))))) (ß (rH (È 0) (mP (ì 6)) hU)))) (Å (ß (Ĉ ô (È 6) (Ï 1))) á))))))
 ge)
 (ą (eK (kN (bU (Ô Dh (È 1) (Ï 6))) (bU (Ô yf (È 1) (Ï 10))))
 (Ħ (ā kY (ä 0 (ä 1 (ä 2 ó)))))
 ge)
 (ą (Ń 4 (ā Em ó))
 (Ħ (ā se (ä 0 (Ă (ß (Ĉ ô (Ï 1) (Ô ğ (È 2) (aP aU (Å (È 0) á))))) (Ă (Ô ė (È 4) (Ô ğ (Ô jm (È 2) (Ï 50)) (aP aU (Å (È 4) á)))) ó))))))))))))))
def dA:MF:=ś 3 7 bV
def Ep:M Fl:=(Ħ (aw (aP Bx (Å (È 2) á))))
def yB:M Fl:=(ą (qy (bd (ß (rH (È 0) (mP (ì 1)) (mP (ß (Ĉ ô (È 1) (Ï 1))))))) (gN 2) Ep)
 (Ħ (aw (Ï 0))))
def mj:MF:=ś 2 3 yB
def jJ:M Fl:=(ą (Gf (gS 2 (Ĳ (gN 7) (Ĳ (gN 8) gu))) (aP eh (Å (È 3) (Å (Ï 4099) á))))
 (Ń 3 (aw (Ô ğ (ß (Ĉ ô (ß (Ĉ ô (ß (Ĉ ô (Ô Ş (È 8) (Ï 240007)) (Ô Ş (È 7) (Ï 89)))) (Ô Ş (Ï 1201) (aP aU (Å (È 2) á))))) (Ï 11))) (Ï 998244353)))))
def pq:M Fl:=(aA (bU (Ô yf (aP aU (Å (È 2) á)) (È 1)))
 (ą (qy (hG b_ (Å (Ï 2) á)) (gN 5) jJ)
 (qw 2 (Ô jm (È 3) (Ï 5)))))
def pw:M Fl:=(ą (Gf (gS 2 (Ĳ (gN 3) (Ĳ (gN 6) gu))) (aP eh (Å (È 3) (Å (Ô wv (Ï 10) (Ï 9)) á))))
 (qw 2 (ì 6)))
def yC:M Fl:=(ą (Ń 2 (ŧ á))
 (ą (Ń 3 (aw (Ô jm (È 0) (Ï 2))))
 (ą (qy (hG b_ (Å (Ô Ş (È 1) (Ô aY (Ï 1) (Ô ğ (È 0) (Ï 2)))) á)) (gN 4) pw)
 (ą (Ń 3 (Ĉ ô (Ô ğ (È 3) (Ï 998244341)) (Ï 5)))
 (ą pq
 (Ħ (oM 2)))))))
def mm:MF:=ś 2 9 yC
def gl:M Fl:=(ą (Ń 3 (ā mm (ä 0 (Ă (Ï 11) ó))))
 (ą (Ń 4 (aw (Ô aY (Ô ğ (Ô ė (È 3) (Ï 1)) (ß (Ĉ ô (Ô Ş (Ï 2) (È 1)) (Ï 7)))) (Ï 4))))
 (ą (Ń 5 (aw (Ô aY (Ô ğ (Ô ė (È 3) (Ï 2)) (ß (Ĉ ô (Ô Ş (Ï 2) (È 2)) (Ï 7)))) (Ï 4))))
 (ą (Ń 6 (Ĉ ô (ß (Ĉ ô (È 4) (Ï 1))) (Ô ğ (Ô ė (È 3) (Ï 3)) (Ï 5))))
 (ą (Ń 7 (Ĉ ô (ß (Ĉ ô (È 5) (Ï 1))) (Ô ğ (Ô ė (È 3) (Ï 4)) (Ï 5))))
 (ą (Ń 8 (Ĉ ô (Ï 1) (Ô ğ (Ô ė (È 3) (Ï 5)) (Ï 8))))
 (ą (eK (bU (Ô ń (Ô ğ (Ô ė (È 3) (Ï 6)) (Ï 8)) (Ï 5)))
 (Ń 8 (aw (Ô aY (Ô wv (Ï 10) (Ï 9)) (Ô ğ (Ô ė (È 3) (Ï 5)) (Ï 1000)))))
 ge)
 (ą (eK (bU (Ô ń (Ô ğ (Ô ė (È 3) (Ï 0)) (Ï 5)) (Ï 0)))
 (Ħ (ŧ (Å (mC (.str "post")) (Å (Ô aY (Ô ğ (Ô ė (È 3) (Ï 1)) (ß (Ĉ ô (È 1) (Ï 2)))) (Ï 1)) (Å (Ô aY (Ô ğ (Ô ė (È 3) (Ï 2)) (ß (Ĉ ô (È 2) (Ï 2)))) (Ï 1)) (Å (ì 8) á))))))
 ge)
 (ą (eK (bU (Ô ń (Ô ğ (Ô ė (È 3) (Ï 0)) (Ï 5)) (Ï 1)))
 (ą (Ń 10 (aw (Ô ė (ß (ŧ (Å (dI (Å (ì 6) (Å (ì 5) á))) (Å (dI (Å (ì 6) (Å (ì 7) á))) (Å (dI (Å (ì 4) (Å (ì 7) á))) (Å (dI (Å (Ô aY (È 4) (Ï 2)) (Å (ì 7) á))) á)))))) (Ô ğ (Ô ė (È 3) (Ï 7)) (Ï 4)))))
 (Ħ (ŧ (Å (mC (.str "fence")) (Å (ì 4) (Å (ì 5) (Å (Ô ė (È 10) (Ï 0)) (Å (Ô ė (È 10) (Ï 1)) (Å (ì 8) á)))))))))
 ge)
 (ą (eK (bU (Ô ń (Ô ğ (Ô ė (È 3) (Ï 0)) (Ï 5)) (Ï 2)))
 (Ħ (ŧ (Å (mC (.str "sail")) (Å (ì 4) (Å (ì 5) (Å (ì 6) (Å (ì 7) (Å (ì 8) á))))))))
 ge)
 (ą (eK (bU (Ô ń (Ô ğ (Ô ė (È 3) (Ï 0)) (Ï 5)) (Ï 3)))
 (Ħ (ŧ (Å (mC (.str "house")) (Å (ì 4) (Å (ì 5) (Å (ì 6) (Å (ì 7) (Å (ì 8) á))))))))
 ge)
 (ą (Ń 9 (aw (Ô Ş (Ô ğ (Ô ė (È 3) (Ï 10)) (Ï 7)) (Ô ğ (Ô ė (È 3) (Ï 6)) (Ï 2)))))
 (Ħ (ŧ (Å (mC (.str "cloth")) (Å (ì 4) (Å (ì 5) (Å (Ô ğ (Ô ė (È 3) (Ï 5)) (Ï 7)) (Å (ì 6) (Å (ß (Ĉ ô (Ô aY (È 5) (Ï 2)) (Ô ğ (Ô ė (È 3) (Ï 7)) (Ï 5)))) (Å (Ô ğ (Ô ė (È 3) (Ï 8)) (Ï 7)) (Å (ß (Ĉ ô (Ô aY (È 4) (Ï 3)) (Ô ğ (Ô ė (È 3) (Ï 9)) (Ï 7)))) (Å (ì 7) (Å (ì 9) á))))))))))))))))))))))))
def ib:MF:=ś 3 11 gl
def vh:M Fl:=(ą (Ń 1 (ā mm (ä 0 (Ă (Ï 4) ó))))
 (ą (eK (bU (Ô ń (Ô ğ (Ô ė (È 1) (Ï 3)) (Ï 6)) (Ï 4)))
 (Ħ (aw (mC .non)))
 ge)
 (ą (eK (bU (Ô ń (Ô ğ (Ô ė (È 1) (Ï 3)) (Ï 6)) (Ï 5)))
 (Ħ (aw (dI (Å (Ô aY (Ô ğ (Ô ė (È 1) (Ï 0)) (Ï 2000001)) (Ï 1000000)) (Å (Ô aY (Ô ğ (Ô ė (È 1) (Ï 1)) (Ï 2000001)) (Ï 1000000)) (Å (ß (Ĉ ô (Ï 1) (Ô ğ (Ô ė (È 1) (Ï 2)) (Ï 1000000)))) á))))))
 ge)
 (Ħ (aw (dI (Å (Ô aY (Ô ğ (Ô ė (È 1) (Ï 0)) (Ï 7)) (Ï 3)) (Å (Ô aY (Ô ğ (Ô ė (È 1) (Ï 1)) (Ï 7)) (Ï 3)) (Å (ß (Ĉ ô (Ï 1) (Ô ğ (Ô ė (È 1) (Ï 2)) (Ï 3)))) á)))))))))
def pA:MF:=ś 1 2 vh
def Er:M Fl:=(Ħ (aw (Fv eZ (mC (.str " ")) (Å (ß (ϻ [] 1 (ac 0) (gN 0) ũ (aP bO (Å (È 0) á)))) á))))
def gv:MF:=ś 1 1 Er
def sf:M Fl:=(eK (bU (Ô yg (È 8) (mC .non)))
 (qw 4 (mC (.str "night")))
 (qw 4 (ß (ā gv (Ă (ß (Ĉ ô (ß (ŧ (Å (mC (.str "ray")) á))) (ß (uL hV (Å (È 8) á))))) ó)))))
def AY:M Fl:=(ą (qw 4 (ß (ā gv (Ă (ß (ŧ (Å (mC (.str "day")) (Å (ì 5) (Å (ì 6) á))))) ó))))
 (qy (ac 7) (gN 8) sf))
def Jc:M Fl:=(ą (Ń 4 (Ĉ ô (ß (ŧ (Å (ß (ā gv (Ă (ß (ŧ (Å (mC (.str "yard")) (Å (ì 0) (Å (ì 1) á))))) ó))) á))) (ß (ϻ [] 1 (ac 2) (gN 0) ũ (ß (ā gv (ä 0 ó)))))))
 (ą (qy (ac 3) (gT 3 (Ĳ (gN 5) (Ĳ (gN 6) (Ĳ (gN 7) gu)))) AY)
 (Ħ (aw (Fv eZ (mC (.str "\n")) (Å (È 4) á))))))
def GY:MF:=ś 4 9 Jc
def pB:M Fl:=(ą (Ń 6 (ϻ [2,4] 1 (hG b_ (Å (ß (Ĉ ô (Ï 1) (Ô ğ (Ô jm (È 2) (Ï 28)) (Ï 3)))) á)) (gN 2) ũ (ß (ā pA (Ă (ß (Ĉ ô (ß (Ĉ ô (È 0) (Ô Ş (Ï 31) (È 1)))) (Ô Ş (Ô Ş (Ï 997) (È 2)) (È 2)))) ó)))))
 (qw 5 (dI (Å (Ô Ş (mC (.str "d")) (ß (Ĉ ô (Ï 1) (È 4)))) (Å (ß (Ĉ ô (Ï 1) (Ô ğ (È 2) (Ï 365)))) (Å (ì 6) á))))))
def pC:M Fl:=(qw 3 (ß (ā ib (Ă (ß (Ĉ ô (È 2) (Ô Ş (Ô Ş (Ï 104729) (È 4)) (È 4)))) (ä 1 (Ă (Ï 7) ó))))))
def Es:M Fl:=(ą (Ń 1 (Ĉ ô (Ï 1) (Ô ğ (ß (ā mj (ä 0 (Ă (Ï 0) ó)))) (Ï 20))))
 (ą (Ń 2 (ā mj (ä 0 (Ă (Ï 1) ó))))
 (ą (Ń 3 (ŧ á))
 (ą (qy (hG b_ (Å (Ô ğ (È 2) (Ï 7)) á)) (gN 4) pC)
 (ą (Ń 5 (ŧ á))
 (ą (qy (hG b_ (Å (Ô ğ (Ô jm (È 2) (Ï 7)) (Ï 4)) á)) (gN 4) pB)
 (Ħ (qF bi (ß (ā GY (ä 1 (Ă (Ï 7) (ä 3 (ä 5 ó)))))) (Å (mC (.str "\n")) á)))))))))
def AZ:MF:=ś 1 7 Es
def Eu:M Fl:=(Ħ (aw (Fv eZ (mC (.str " ")) (Å (ß (Ĉ ô (ß (ŧ (Å (B7 (dm ["Thing","Post","Fence","Sail","Cloth","House"] "word") (È 0)) á))) (ß (ϻ [] 1 (bd (B7 (dm ["Thing","Post","Fence","Sail","Cloth","House"] "numbers") (È 0))) (gN 0) ũ (aP bO (Å (È 0) á)))))) á))))
def Ŋ:MF:=ś 1 1 Eu
def yD:M Fl:=(ą (eK (bU (Ô yg (È 0) (mC .non)))
 (Ħ (aw (mC (.str "night"))))
 ge)
 (Ħ (aw (Fv eZ (mC (.str " ")) (Å (ß (Ĉ ô (ß (ŧ (Å (mC (.str "ray")) á))) (ß (ϻ [] 1 (ac 0) (gN 0) ũ (aP bO (Å (È 0) á)))))) á)))))
def pE:MF:=ś 1 1 yD
def vi:M Fl:=(ą (qw 1 (GU [(mC (.str "day ")),(BI (ì 2)),(mC (.str " ")),(BI (ì 3))] dX))
 (DZ 1 (ϻ [] 1 (ac 4) (gN 0) ũ (ß (ā pE (ä 0 ó))))))
def Ev:M Fl:=(ą (Ń 1 (ŧ (Å (Fv eZ (mC (.str " ")) (Å (ß (ŧ (Å (mC (.str "yard")) (Å (aP bO (Å (B7 (dm ["Yard"] "width") (È 0)) á)) (Å (aP bO (Å (B7 (dm ["Yard"] "height") (È 0)) á)) á))))) á)) á)))
 (ą (DZ 1 (ϻ [] 1 (bd (B7 (dm ["Yard"] "things") (È 0))) (gN 0) ũ (ß (wz "shown" [("Thing",Ŋ),("Post",Ŋ),("Fence",Ŋ),("Sail",Ŋ),("Cloth",Ŋ),("House",Ŋ)] (ì 0) ó))))
 (ą (qy (bd (B7 (dm ["Yard"] "days") (È 0))) (gT 3 (Ĳ (gN 2) (Ĳ (gN 3) (Ĳ (gN 4) gu)))) vi)
 (Ħ (aw (Fv eZ (mC (.str "\n")) (Å (È 1) á)))))))
def A_:MF:=ś 1 5 Ev
def vj:M Fl:=(Ħ (aw (gc (qu gG gG (Ï 1) (aP aU (Å (È 0) á)) (È 2)) (aP oV (Å (ß (ϻ [1] 1 (ac 0) (gN 1) ũ (Ô Fx (È 1) (È 0)))) á)))))
def pF:MF:=ś 3 3 vj
def vk:M Fl:=(ą (Ń 1 (eK (eJ (Fv kS (È 0) (Å (mC (.str "-")) á))) (rH (È 0) (mP (Ï 1)) hU) (aw (ì 0))))
 (ą (eK (lV (eJ (ß (ā pF (ä 1 (Ă (mC (.str "0123456789")) (Ă (mC (.int (10))) ó)))))))
 (Ħ (aw (mC (.bl false))))
 ge)
 (Ħ (aw (Ss (Ô ń (È 0) (mC (.str "0"))) (P2 (Fv kS (È 1) (Å (mC (.str "0")) á))))))))
def kZ:MF:=ś 1 2 vk
def Ew:M Fl:=(ą (eK (eJ (aP oV (Å (ß (ϻ [] 1 (ac 0) (gN 0) ũ (ß (ā kZ (ä 0 ó))))) á)))
 (Ħ (ϻ [] 1 (ac 0) (gN 0) ũ (aP kX (Å (È 0) á))))
 ge)
 (Ħ (aw (mC .non))))
def A0:MF:=ś 1 1 Ew
def Ey:M Fl:=(ą (Ń 2 (ā A0 (ä 0 ó)))
 (ą (eK (bU (Ô yg (È 2) (mC .non)))
 (Ĺ "BadRow" 2 [("row",1)] (Å (ì 1) á))
 ge)
 (Ħ (oM 2))))
def pG:MF:=ś 2 3 Ey
def Ez:M Fl:=(ą (eK (uK (bU (Ô jC (Ô ė (È 0) (Ï 0)) (mC (.str "yard")))) (bU (Ô jC (aP aU (Å (È 0) á)) (Ï 3))))
 (Ĺ "BadRow" 2 [("row",1)] (Å (ì 1) á))
 ge)
 (ą (Ń 2 (ā pG (Ă (ß (rH (È 0) (mP (Ï 1)) hU)) (ä 1 ó))))
 (ą (eK (lV (eJ (aP oV (Å (ß (ϻ [] 1 (ac 2) (gN 0) ũ (qu gG gG (Ï 1) (È 0) (mC (.int (20)))))) á))))
 (Ĺ "BadRow" 2 [("row",1)] (Å (ì 1) á))
 ge)
 (Ħ (oM 2)))))
def si:MF:=ś 2 3 Ez
def vm:M Fl:=(Ħ (aw (gc (Ô Dh (pc 0) (Ï 0)) (Ô ń (pd 0) (Ï 0)))))
def k_:MF:=ś 1 1 vm
def yE:M Fl:=(ą (hX 0 ["Yard"] "width" (ì 1))
 (ą (hX 0 ["Yard"] "height" (ì 2))
 (ą (hX 0 ["Yard"] "things" (ß (uL hV (Å (È 3) á))))
 (hX 0 ["Yard"] "days" (ß (S1 (MR 4) (jH [] 3 (jI 4) (gD 0 1 2) ũ (dI (Å (ì 0) (Å (ì 1) (Å (ß (uL hV (Å (È 2) á))) á))))) (ϻ [] 3 (ac 4) (gT 3 (Ĳ (gN 0) (Ĳ (gN 1) (Ĳ (gN 2) gu)))) ũ (dI (Å (ì 0) (Å (ì 1) (Å (ß (uL hV (Å (È 2) á))) á)))))))))))
def jb:MI:=cb 5 5 "Yard" yE
def EA:M Fl:=(Ħ (aw (gc (Ô gG (aP Bx (Å (Ô ė (È 0) (Ï 0)) á)) (mC (.int (1000000)))) (gc (Ô gG (aP Bx (Å (Ô ė (È 0) (Ï 1)) á)) (mC (.int (1000000)))) (qu gG gG (Ï 1) (Ô ė (È 0) (Ï 2)) (mC (.int (1000000))))))))
def A1:MF:=ś 1 1 EA
def yF:M Fl:=(ą (eK (bU (Ô ń (È 0) (ß (ŧ (Å (mC (.str "night")) á)))))
 (Ħ (aw (mC .non)))
 ge)
 (ą (eK (uK (bU (Ô jC (Ô ė (È 0) (Ï 0)) (mC (.str "ray")))) (bU (Ô jC (aP aU (Å (È 0) á)) (Ï 4))))
 (Ĺ "BadRow" 2 [("row",1)] (Å (ì 1) á))
 ge)
 (ą (Ń 2 (aw (aP oU (Å (ß (ā pG (Ă (ß (rH (È 0) (mP (Ï 1)) hU)) (ä 1 ó)))) á))))
 (ą (eK (lV (eJ (ß (ā A1 (ä 2 ó)))))
 (Ĺ "BadRow" 2 [("row",1)] (Å (ì 1) á))
 ge)
 (Ħ (oM 2))))))
def mn:MF:=ś 2 3 yF
def pH:M WR:=(pb (uK (bU (Ô ń (pc 2) (Ï 0))) (bU (Ô ń (pd 2) (mC (.int (24)))))) (Ĺ "BadRow" 2 [("row",1)] (Å (ì 1) á)) (rY 2 (ß (ā mn (ä 0 (ä 1 ó))))))
def jq:MW:=Ż 3 3 pH
def EB:M Fl:=(Ħ (ā pF (ä 0 (Ă (mC (.str "abcdefghijklmnopqrstuvwxyz")) (Ă (mC (.int (8))) ó)))))
def A2:MF:=ś 1 1 EB
def EC:M Fl:=(ą (eK (uK (bU (Ô jC (aP aU (Å (È 0) á)) (Ï 3))) (lV (eJ (ß (ā A2 (Ă (Ô ė (È 0) (Ï 1)) ó))))))
 (Ĺ "BadRow" 2 [("row",1)] (Å (ì 1) á))
 ge)
 (ą (Ń 2 (aw (Ô ė (ß (ā pG (Ă (ß (rH (È 0) (mP (Ï 2)) hU)) (ä 1 ó)))) (Ï 0))))
 (ą (eK (lV (bU (qu gG gG (Ï 1) (È 2) (mC (.int (1000000000))))))
 (Ĺ "BadRow" 2 [("row",1)] (Å (ì 1) á))
 ge)
 (Ħ (Ie (yo (Ô ė (È 0) (Ï 1)) (yo (ì 2) (Ic (ŧ á)))))))))
def pI:MF:=ś 2 3 EC
def lK:M WR:=(pb (uK (eJ (ß (ā k_ (ä 2 ó)))) (bU (Ô ń (pc 2) (mC (.int (12)))))) (Ĺ "BadRow" 2 [("row",1)] (Å (ì 1) á)) (AT 3 (ā pI (ä 0 (ä 1 ó))) (pb (rW 3 (bU (Ô Fx (Ô ė (È 3) (Ï 0)) (ß (jH [] 3 (jI 2) (gD 0 1 2) ũ (ì 0)))))) (Ĺ "BadRow" 2 [("row",1)] (Å (ì 1) á)) (wR 2 3))))
def gw:MW:=Ż 3 4 lK
def ED:M Fl:=(Ħ (aw (qu gG gG (B7 Az (mC (.int (1000000000)))) (È 0) (mC (.int (1000000000))))))
def mq:MF:=ś 1 1 ED
def EE:M Fl:=(Ħ (aw (qu gG gG (Ï 1) (È 0) (mC (.int (1000000000))))))
def wX:MF:=ś 1 1 EE
def yG:M Fl:=(Ħ (aw (gc (Ô ń (aP aU (Å (È 0) á)) (Ï 3)) (gc (ß (ā mq (Ă (Ô ė (È 0) (Ï 0)) ó))) (gc (ß (ā mq (Ă (Ô ė (È 0) (Ï 1)) ó))) (ß (ā wX (Ă (Ô ė (È 0) (Ï 2)) ó))))))))
def wY:MF:=ś 1 1 yG
def gx:M Fl:=(ą (hX 0 ["Thing","Post","Fence","Sail","Cloth","House"] "word" (ì 1))
 (hX 0 ["Thing","Post","Fence","Sail","Cloth","House"] "numbers" (ß (uL hV (Å (È 2) á)))))
def vn:MI:=cb 3 3 "Post" gx
def pJ:MI:=cb 3 3 "Fence" gx
def vo:MI:=cb 3 3 "Sail" gx
def pK:MI:=cb 3 3 "Cloth" gx
def pL:MI:=cb 3 3 "House" gx
def yH:M Fl:=(Ħ (aw (gc (Ô ń (aP aU (Å (È 0) á)) (Ï 5)) (gc (aP oV (Å (ß (ϻ [] 1 (bd (ß (rH (È 0) hU (mP (Ï 4))))) (gN 0) ũ (ß (ā mq (ä 0 ó))))) á)) (ß (ā wX (Ă (Ô ė (È 0) (Ï 4)) ó)))))))
def sj:MF:=ś 1 1 yH
def yI:M Fl:=(Ħ (aw (gc (ß (ā sj (ä 0 ó))) (Ô jC (ß (rH (È 0) hU (mP (Ï 2)))) (ß (rH (È 0) (mP (Ï 2)) (mP (Ï 4))))))))
def wZ:MF:=ś 1 1 yI
def EG:M Fl:=(Ħ (aw (gc (ß (ā sj (ä 0 ó))) (gc (Ô yf (Ô ė (È 0) (Ï 0)) (Ô ė (È 0) (Ï 2))) (Ô yf (Ô ė (È 0) (Ï 1)) (Ô ė (È 0) (Ï 3)))))))
def BJ:MF:=ś 1 1 EG
def Jd:M Fl:=(Ħ (aw (gc (ß (ā mq (Ă (Ô ė (È 0) (Ï 0)) ó))) (gc (ß (ā mq (Ă (Ô ė (È 0) (Ï 1)) ó))) (qu gG gG (Ï 0) (Ô ė (È 0) (Ï 2)) (mC (.int (1000000000))))))))
def GZ:MF:=ś 1 1 Jd
def yJ:M Fl:=(Ħ (aw (gc (Ô ń (aP aU (Å (È 0) á)) (Ï 9)) (aP oV (Å (ß (ϻ [0] 1 (bd (dI (Å (Ï 0) (Å (Ï 3) (Å (Ï 6) á))))) (gN 1) ũ (ß (ā GZ (Ă (ß (rH (È 0) (mP (ì 1)) (mP (ß (Ĉ ô (È 1) (Ï 3)))))) ó))))) á)))))
def w_:MF:=ś 1 1 yJ
def jK:M Fl:=(ą (eK (kN (bU (Ô ń (È 0) (mC (.str "post")))) (eJ (ß (ā wY (ä 1 ó)))))
 (Ħ (aw (ce "Post" vn (ä 0 (ä 1 ó)))))
 ge)
 (ą (eK (kN (bU (Ô ń (È 0) (mC (.str "fence")))) (eJ (ß (ā wZ (ä 1 ó)))))
 (Ħ (aw (ce "Fence" pJ (ä 0 (ä 1 ó)))))
 ge)
 (ą (eK (kN (bU (Ô ń (È 0) (mC (.str "sail")))) (eJ (ß (ā BJ (ä 1 ó)))))
 (Ħ (aw (ce "Sail" vo (ä 0 (ä 1 ó)))))
 ge)
 (ą (eK (kN (bU (Ô ń (È 0) (mC (.str "cloth")))) (eJ (ß (ā w_ (ä 1 ó)))))
 (Ħ (aw (ce "Cloth" pK (ä 0 (ä 1 ó)))))
 ge)
 (ą (eK (kN (bU (Ô ń (È 0) (mC (.str "house")))) (eJ (ß (ā BJ (ä 1 ó)))))
 (Ħ (aw (ce "House" pL (ä 0 (ä 1 ó)))))
 ge)
 (DG "BadThing"))))))
def lc:MF:=ś 2 2 jK
def EH:M Fl:=(ą (Ń 2 (ā pG (Ă (ß (rH (È 0) (mP (Ï 1)) hU)) (ä 1 ó))))
 (Gv (Ħ (ā lc (Ă (Ô ė (È 0) (Ï 0)) (ä 2 ó)))) (uS ["BadThing"] ["YardError","NoNumber","NoStone","NoTurn","BadRow","NoRow","NoDay"] (Vt "BadRow" 2 [("row",1)] (Å (ì 1) á)) oY)))
def pM:MF:=ś 2 3 EH
def pN:M WR:=(pb (uK (bU (Ô Dh (pc 3) (Ï 0))) (bU (Ô ń (aP aU (Å (È 2) á)) (mC (.int (40)))))) (Ĺ "BadRow" 2 [("row",1)] (Å (ì 1) á)) (rX 2 (ß (ā pM (ä 0 (ä 1 ó))))))
def ie:MW:=Ż 4 4 pN
def jL:M WR:=(MS (bU (Ô Fx (Ô ė (È 0) (Ï 0)) (dI (Å (mC (.str "ray")) (Å (mC (.str "night")) á))))) (ō jq [0,1,3]) (MS (bU (Ô ń (Ô ė (È 0) (Ï 0)) (mC (.str "day")))) (ō gw [0,1,3]) (ō ie [0,1,2,3])))
def ł:MW:=Ż 4 4 jL
def pO:M Fl:=(ą (Ń 1 (ϻ [] 1 (bd (ß (qF bi (È 0) (Å (mC (.str "\n")) á)))) (gN 0) ũ (ß (qF bi (È 0) (Å (mC (.str " ")) á)))))
 (ą (Ń 2 (ā si (Ă (Ô ė (È 1) (Ï 0)) (Ă (Ï 0) ó))))
 (O_ 5 6 3 4 (pi (Ia (ß (rH (È 1) (mP (Ï 1)) hU)))) (ō ł [6,5,3,4]) (ą (eK (eJ (ß (ā k_ (ä 4 ó))))
 (Ĺ "BadRow" 2 [("row",1)] (Å (aP aU (Å (È 1) á)) á))
 ge)
 (Ħ (aw (ce "Yard" jb (Ă (Ô ė (È 2) (Ï 0)) (Ă (Ô ė (È 2) (Ï 1)) (ä 3 (ä 4 ó)))))))))))
def aZ:MF:=ś 1 7 pO
def EI:M Fl:=(hX 0 ["Desk"] "yard" (ß (ā aZ (ä 1 ó))))
def vp:MI:=cb 2 2 "Desk" EI
def EJ:M Fl:=(ą (Ń 2 (aw (mC .non)))
 (ą (Gv (eK (eJ (È 1))
 (C6 (ce "Desk" vp (ä 0 ó)))
 (C6 (ß (ā aZ (ä 0 ó))))) (nV 3 ["YardError","NoNumber","BadThing","NoStone","NoTurn","BadRow","NoRow","NoDay"] [] (Ń 2 (aw (ì 3))) oY))
 (ą (eK (uK (lV (eJ (aP (dq Zl Zm Zn Zo) (Å (È 2) (Å (mC (.cls "BadRow")) á))))) (lV (eJ (aP (dq Zl Zm Zn Zo) (Å (È 2) (Å (mC (.ty "ValueError")) á))))))
 (Ħ (aw (mC .non)))
 ge)
 (ą (Ń 4 (ŧ (Å (aP (dq Zl Zm Zn Zo) (Å (È 2) (Å (mC (.cls "NoNumber")) á))) (Å (aP (dq Zl Zm Zn Zo) (Å (È 2) (Å (mC (.cls "BadThing")) á))) (Å (aP (dq Zl Zm Zn Zo) (Å (È 2) (Å (mC (.cls "NoStone")) á))) á)))))
 (ą (Ń 4 (Ĉ ô (È 4) (ß (ŧ (Å (aP (dq Zl Zm Zn Zo) (Å (È 2) (Å (mC (.cls "NoTurn")) á))) (Å (aP (dq Zl Zm Zn Zo) (Å (È 2) (Å (mC (.cls "NoRow")) á))) (Å (aP (dq Zl Zm Zn Zo) (Å (È 2) (Å (mC (.cls "NoDay")) á))) á)))))))
 (ą (eK (uK (eJ (aP Go (Å (È 4) á))) (eJ (aP (dq Zl Zm Zn Zo) (Å (B7 (wJ ["BadRow"] "row") (ì 2)) (Å (mC (.ty "bool")) á)))))
 (Ħ (aw (mC .non)))
 ge)
 (Ħ (aw (B7 (wJ ["BadRow"] "row") (ì 2))))))))))
def xa:MF:=ś 2 5 EJ
def yK:M Fl:=(ą (Gf (gS 2 (Ĳ (gN 2) (Ĳ (gN 3) gu))) (ß (ā dA (Ă (ß (ā AZ (ä 0 ó))) (Ă (Ô ğ (ß (ā mj (ä 0 (Ă (Ï 2) ó)))) (Ï 11)) (Ă (ß (ā mj (ä 0 (Ă (Ï 3) ó)))) ó))))))
 (ą (Ń 1 (aw (Fv eZ (mC (.str "\n")) (Å (È 2) á))))
 (ą (eK (bU (Ô yg (È 3) (mC .non)))
 (Ħ (aw (Ô ń (ß (ā A_ (Ă (ß (ā aZ (ä 1 ó))) ó))) (È 1))))
 ge)
 (Ħ (aw (gc (Ô ń (ß (ā xa (ä 1 (Ă (mC (.bl false)) ó)))) (È 3)) (Ô ń (ß (ā xa (ä 1 (Ă (mC (.bl true)) ó)))) (È 3))))))))
def pP:MF:=ś 1 4 yK
set_option genInjectivity false
set_option genSizeOf false
set_option genInjectivity false in
set_option genSizeOf false in
structure sk where
 {Je Jf Jg Q9 Jh Ji Jj Jk Jl Jm Jn Ra Jo mx Jp Jq Jr Js Jt Ju Jv Jw EK Jx Jy Jz JA JB JC JD JE JF mQ JG JH Rb Rc JI JJ JK JL JM JN Nh JO JP Rf Rg Ni Rh my pQ pR lL pS pU A3 vq nZ EL A4 EM A5 A6 yL yM:À}
 {JQ JR JS Ri JT JU JV JW JX JY JZ Rj J_ J0 J1 J2 J3 J4 J5 J6 J7 J8 J9 Ka Kb Kc Kd Ke Kf Kg Kh Ki BK Kj Kk Rk Rl Kl Km Kn Ko Kp Kq Rm Kr EN V4 V5 Rn V6:Ė}
 {BL BM xb pV qG pX vt yN xg qH vv vw:Tok}
def Ē(a:sk):String->À:=cmB a.my a.pQ a.pR a.lL a.pS a.pU a.A3 a.vq a.nZ a.EL a.A4 a.EM a.A5 a.A6 a.yL a.yM
set_option genInjectivity false in
set_option genSizeOf false in
structure Tx(K:É)(mg:Str->Option Á)(a:sk):Prop where
 xh:mg "YardError" =some (.ref a.my)
 yO:mg "NoNumber" =some (.ref a.pQ)
 yP:mg "BadThing" =some (.ref a.pR)
 BO:mg "NoStone" =some (.ref a.lL)
 EO:mg "NoTurn" =some (.ref a.pS)
 EQ:mg "BadRow" =some (.ref a.pU)
 G_:mg "NoRow" =some (.ref a.A3)
 G0:mg "NoDay" =some (.ref a.vq)
 Ta:mg "Thing" =some (.ref a.nZ)
 Nj:mg "Post" =some (.ref a.EL)
 G1:mg "Fence" =some (.ref a.A4)
 Nk:mg "Sail" =some (.ref a.EM)
 G2:mg "Cloth" =some (.ref a.A5)
 G3:mg "House" =some (.ref a.A6)
 Nl:mg "Yard" =some (.ref a.yL)
 Nn:mg "Desk" =some (.ref a.yM)
 le:Df K mg "_law_spots" Il ["_law_rows_here","_law_word"] a.Je a.JQ
 ax:Df K mg "_law_bad_rows" Im [] a.Jf a.JR
 gm:Df K mg "_law_put" Io ["_law_rows_here","_law_at","_law_row"] a.Jg a.JS
 ϧ:Df K mg "_law_first_rows" Q1 [] a.Q9 a.Ri
 mz:Df K mg "_law_many" Ip ["_law_rows_here","_law_way","_law_number"] a.Jh a.JT
 jr:Df K mg "_law_spoilt" Iq ["_law_rows_here","_law_way","_law_number"] a.Ji a.JU
 bP:Df K mg "_law_part" Ir ["_law_script","_law_place"] a.Jj a.JV
 eM:Df K mg "_law_spread" Iv ["_law_number","_law_many_here"] a.Jk a.JW
 gy:Df K mg "_law_thing_by" Ix ["_law_number","_law_width","_law_height"] a.Jl a.JX
 jt:Df K mg "_law_ray_by" Iy ["_law_number"] a.Jm a.JY
 ah:Df K mg "_law_joined" Iz ["_law_words"] a.Jn a.JZ
 fc:Df K mg "_law_yard_text" Q2 ["_law_width","_law_height","_law_things","_law_days"] a.Ra a.Rj
 mB:Df K mg "_law_rows" IA ["_law_script"] a.Jo a.J_
 Ű:Dm K a.nZ "shown" "Thing.shown" IB ["self"] a.mx a.J0
 mD:Df K mg "show_turn" IC ["turn"] a.Jp a.J1
 mE:Df K mg "show_yard" ID ["yard"] a.Jq a.J2
 gn:Df K mg "is_made_of" IE ["word","signs","most"] a.Jr a.J3
 mF:Df K mg "is_number" IF ["word"] a.Js a.J4
 lf:Df K mg "numbers_of" IG ["words"] a.Jt a.J5
 aR:Df K mg "numbers_in" IH ["words","row"] a.Ju a.J6
 mG:Df K mg "read_size" II ["words","row"] a.Jv a.J7
 eN:Df K mg "lacks_turns" IJ ["days"] a.Jw a.J8
 gz:Dm K a.yL "__init__" "Yard.__init__" Ej ["self","width","height","things","days"] a.EK a.J9
 xi:Df K mg "is_ray" IK ["ray"] a.Jx a.Ka
 mH:Df K mg "read_turn" IL ["words","row"] a.Jy a.Kb
 mJ:Df K mg "take_turn" IM ["words","row","days"] a.Jz a.Kc
 sq:Df K mg "is_name" IN ["word"] a.JA a.Kd
 pY:Df K mg "read_day" IP ["words","row"] a.JB a.Ke
 pZ:Df K mg "take_day" Ek ["words","row","days"] a.JC a.Kf
 bj:Df K mg "is_place" IQ ["number"] a.JD a.Kg
 ig:Df K mg "is_height" IS ["number"] a.JE a.Kh
 lh:Df K mg "makes_post" IT ["numbers"] a.JF a.Ki
 Ğ:Dm K a.nZ "__init__" "Thing.__init__" Q3 ["self","word","numbers"] a.mQ a.BK
 dB:Df K mg "has_two_ends" IU ["numbers"] a.JG a.Kj
 ju:Df K mg "makes_fence" IV ["numbers"] a.JH a.Kk
 ϕ:Df K mg "makes_sail_or_house" Q4 ["numbers"] a.Rb a.Rk
 eD:Df K mg "is_cloth_corner" Q5 ["numbers"] a.Rc a.Rl
 jv:Df K mg "makes_cloth" IW ["numbers"] a.JI a.Kl
 p_:Df K mg "thing_of" IX ["word","numbers"] a.JJ a.Km
 li:Df K mg "read_thing" IY ["words","row"] a.JK a.Kn
 lj:Df K mg "take_thing" IZ ["words","row","things","days"] a.JL a.Ko
 gp:Df K mg "take_row" I_ ["words","row","things","days"] a.JM a.Kp
 eE:Df K mg "read_yard" I0 ["text"] a.JN a.Kq
 gA:Dm K a.yM "__init__" "Desk.__init__" Q6 ["self","text"] a.Nh a.Rm
 dC:Df K mg "_law_refused" Ja ["_law_text","_law_at_desk"] a.JO a.Kr
 ER:Df K mg "law" Jb ["_law_script"] a.JP a.EN
 yQ:Dm K a.lL "__init__" "NoStone.__init__" V1 ["self","stone"] a.Rf a.V4
 A7:Dm K a.pS "__init__" "NoTurn.__init__" V2 ["self","day","turn"] a.Rg a.V5
 ù:Dm K a.pU "__init__" "BadRow.__init__" Q7 ["self","row"] a.Ni a.Rn
 BP:Dm K a.vq "__init__" "NoDay.__init__" V3 ["self","name"] a.Rh a.V6
 BQ:mg "FIGURES" =some (.str "0123456789" a.BL)
 BU:mg "LETTERS" =some (.str "abcdefghijklmnopqrstuvwxyz" a.BM)
 xj:mg "MOST_DAYS" =some (.int (12) a.xb)
 qa:mg "MOST_FIGURES" =some (.int (10) a.pV)
 jw:mg "MOST_HEIGHT" =some (.int (1000000000) a.qG)
 qb:mg "MOST_LETTERS" =some (.int (8) a.pX)
 ll:mg "MOST_PLACE" =some (.int (1000000000) a.vt)
 jM:mg "MOST_RAY" =some (.int (1000000) a.yN)
 xk:mg "MOST_SIDE" =some (.int (20) a.xg)
 qI:mg "MOST_THINGS" =some (.int (40) a.qH)
 vx:mg "MOST_TIMES" =some (.int (1000000000) a.vv)
 vy:mg "MOST_TURNS" =some (.int (24) a.vw)
 vz:mg "ValueError" =none
 ES:mg "abs" =none
 xl:mg "all" =none
 Ro:mg "any" =none
 No:mg "bool" =none
 xm:mg "divmod" =none
 xp:mg "enumerate" =none
 Rq:mg "int" =none
 Ŏ:mg "isinstance" =none
 ż:mg "len" =none
 gq:mg "list" =none
 gt:mg "range" =none
 sr:mg "str" =none
 G4:mg "tuple" =none
 Ks:fS K (Ē a "YardError") AI Mp=true
 Kt:Ţ K (.ref (Ē a "YardError"))=true
 Ku:Ϯ K (Ē a "YardError")=true
 Np:fS K (Ē a "NoNumber") AI Mp=true
 Nq:Ţ K (.ref (Ē a "NoNumber"))=true
 Nr:Ϯ K (Ē a "NoNumber")=true
 yR:fS K (Ē a "BadThing") AI Mp=true
 Nt:Ţ K (.ref (Ē a "BadThing"))=true
 Nu:Ϯ K (Ē a "BadThing")=true
 Qqq0:GA K (Ē a "NoStone") a.Rf
 Qqq1:Ϯ K (Ē a "NoStone")=true
 B9:ċ K (Ē a "NoStone") "stone"
 Rr:GA K (Ē a "NoTurn") a.Rg
 Rt:Ϯ K (Ē a "NoTurn")=true
 G5:ċ K (Ē a "NoTurn") "day"
 Fy:ċ K (Ē a "NoTurn") "turn"
 ū:GA K (Ē a "BadRow") a.Ni
 lm:Ϯ K (Ē a "BadRow")=true
 cY:ċ K (Ē a "BadRow") "row"
 Tb:fS K (Ē a "NoRow") AI Mp=true
 Tc:Ţ K (.ref (Ē a "NoRow"))=true
 Td:Ϯ K (Ē a "NoRow")=true
 Te:GA K (Ē a "NoDay") a.Rh
 Tf:Ϯ K (Ē a "NoDay")=true
 G6:ċ K (Ē a "NoDay") "name"
 vA:lw K (Ē a "Thing")
 Ti:Mk K (Ē a "Thing") a.mQ
 vB:ċ K (Ē a "Thing") "word"
 mR:ċ K (Ē a "Thing") "numbers"
 qJ:qR K (Ē a "Thing") "shown" a.mx
 yS:lw K (Ē a "Post")
 Nv:Mk K (Ē a "Post") a.mQ
 xq:ċ K (Ē a "Post") "word"
 qc:ċ K (Ē a "Post") "numbers"
 vC:qR K (Ē a "Post") "shown" a.mx
 vD:lw K (Ē a "Fence")
 G7:Mk K (Ē a "Fence") a.mQ
 vE:ċ K (Ē a "Fence") "word"
 mS:ċ K (Ē a "Fence") "numbers"
 qK:qR K (Ē a "Fence") "shown" a.mx
 yU:lw K (Ē a "Sail")
 Nw:Mk K (Ē a "Sail") a.mQ
 xr:ċ K (Ē a "Sail") "word"
 qd:ċ K (Ē a "Sail") "numbers"
 vF:qR K (Ē a "Sail") "shown" a.mx
 vG:lw K (Ē a "Cloth")
 G8:Mk K (Ē a "Cloth") a.mQ
 vH:ċ K (Ē a "Cloth") "word"
 mT:ċ K (Ē a "Cloth") "numbers"
 qL:qR K (Ē a "Cloth") "shown" a.mx
 vI:lw K (Ē a "House")
 Ha:Mk K (Ē a "House") a.mQ
 vJ:ċ K (Ē a "House") "word"
 mV:ċ K (Ē a "House") "numbers"
 qM:qR K (Ē a "House") "shown" a.mx
 vK:lw K (Ē a "Yard")
 Nx:Mk K (Ē a "Yard") a.EK
 vL:ċ K (Ē a "Yard") "width"
 qN:ċ K (Ē a "Yard") "height"
 qO:ċ K (Ē a "Yard") "things"
 xt:ċ K (Ē a "Yard") "days"
 Ny:lw K (Ē a "Desk")
 Nz:Mk K (Ē a "Desk") a.Nh
 xu:ċ K (Ē a "Desk") "yard"
 yV:av K (Ē a "BadThing") (.type "BaseException")=some true
 xv:aV (λc=>aM K (.ref (Ē a c)) (.ref (Ē a "BadThing"))=some true) ["BadThing"]
 xw:aV (λc=>aM K (.ref (Ē a c)) (.ref (Ē a "BadThing"))=some false) ["YardError","NoNumber","NoStone","NoTurn","BadRow","NoRow","NoDay"]
 xx:av K (Ē a "YardError") (.type "BaseException")=some true
 vM:aV (λc=>aM K (.ref (Ē a c)) (.ref (Ē a "YardError"))=some true) ["YardError","NoNumber","BadThing","NoStone","NoTurn","BadRow","NoRow","NoDay"]
 vN:aV (λc=>aM K (.ref (Ē a c)) (.ref (Ē a "YardError"))=some false) []
 iC:uQ (λC D b=>eB K (Ē a C)=true/\ŀ K (.ref (Ē a C)) (.ref (Ē a D))=some b) Zl
 iT:uQ (λC D b=>eB K (Ē a C)=true/\ŀ K (.ref (Ē a C)) (.type D)=some b) Zm
 iD:aV (λD=>ŀ K (.type "NoneType") (.ref (Ē a D))=some false) Zn
 iN:aV (λD=>ŀ K (.type "NoneType") (.type D)=some false) Zo
def Z0R{K:É}{mg:Str->Option Á}{a:sk}(T:Tx K mg a):mg "YardError" =some (.ref (Ē a "YardError")):=T.xh
def Z19{K:É}{mg:Str->Option Á}{a:sk}(T:Tx K mg a):mg "NoNumber" =some (.ref (Ē a "NoNumber")):=T.yO
def ZI{K:É}{mg:Str->Option Á}{a:sk}(T:Tx K mg a):mg "BadThing" =some (.ref (Ē a "BadThing")):=T.yP
def Z1s{K:É}{mg:Str->Option Á}{a:sk}(T:Tx K mg a):mg "NoStone" =some (.ref (Ē a "NoStone")):=T.BO
def Z1D{K:É}{mg:Str->Option Á}{a:sk}(T:Tx K mg a):mg "NoTurn" =some (.ref (Ē a "NoTurn")):=T.EO
def Z3{K:É}{mg:Str->Option Á}{a:sk}(T:Tx K mg a):mg "BadRow" =some (.ref (Ē a "BadRow")):=T.EQ
def Z22{K:É}{mg:Str->Option Á}{a:sk}(T:Tx K mg a):mg "NoRow" =some (.ref (Ē a "NoRow")):=T.G_
def Z23{K:É}{mg:Str->Option Á}{a:sk}(T:Tx K mg a):mg "NoDay" =some (.ref (Ē a "NoDay")):=T.G0
def Z2z{K:É}{mg:Str->Option Á}{a:sk}(T:Tx K mg a):mg "Post" =some (.ref (Ē a "Post")):=T.Nj
def Z24{K:É}{mg:Str->Option Á}{a:sk}(T:Tx K mg a):mg "Fence" =some (.ref (Ē a "Fence")):=T.G1
def Z2A{K:É}{mg:Str->Option Á}{a:sk}(T:Tx K mg a):mg "Sail" =some (.ref (Ē a "Sail")):=T.Nk
def Z25{K:É}{mg:Str->Option Á}{a:sk}(T:Tx K mg a):mg "Cloth" =some (.ref (Ē a "Cloth")):=T.G2
def Z26{K:É}{mg:Str->Option Á}{a:sk}(T:Tx K mg a):mg "House" =some (.ref (Ē a "House")):=T.G3
def Z2B{K:É}{mg:Str->Option Á}{a:sk}(T:Tx K mg a):mg "Yard" =some (.ref (Ē a "Yard")):=T.Nl
def Z2C{K:É}{mg:Str->Option Á}{a:sk}(T:Tx K mg a):mg "Desk" =some (.ref (Ē a "Desk")):=T.Nn
def NA:æ ["_law_rows_here","_law_word"] ["_law_rows_here","_law_word"] (Ó Il):=dr
def jN:æ ["_law_some"] [] (Ó Im):=dr
def NB:æ ["_law_rows_here","_law_at","_law_row"] ["_law_rows_here","_law_at","_law_row"] (Ó Io):=dr
def Kv:æ ["_law_some"] [] (Ó Q1):=dr
def vO:æ ["_law_rows_here","_law_way","_law_number","_law_k"] ["_law_rows_here","_law_way","_law_number"] (Ó Ip):=dr
def lM:æ ["_law_rows_here","_law_way","_law_number","_law_days","_law_some","_law_last","_law_at"] ["_law_rows_here","_law_way","_law_number"] (Ó Iq):=dr
def ET:æ ["_law_script","_law_place","_law_cell"] ["_law_script","_law_place"] (Ó Ir):=dr
def dE:æ ["_law_number","_law_many_here","_law_found","_law_rest","_law_k","_law_turn","_law_digits","_law_upper","_law_lower"] ["_law_number","_law_many_here"] (Ó Iv):=dr
def eO:æ ["_law_number","_law_width","_law_height","_law_xs","_law_x","_law_y","_law_u","_law_v","_law_h","_law_high","_law_end"] ["_law_number","_law_width","_law_height"] (Ó Ix):=dr
def EU:æ ["_law_number","_law_xs"] ["_law_number"] (Ó Iy):=dr
def NC:æ ["_law_words"] ["_law_words"] (Ó Iz):=dr
def su:æ ["_law_width","_law_height","_law_things","_law_days","_law_rows_here","_law_name","_law_often","_law_turns","_law_turn"] ["_law_width","_law_height","_law_things","_law_days"] (Ó Q2):=dr
def ii:æ ["_law_script","_law_width","_law_number","_law_things","_law_k","_law_days","_law_turns"] ["_law_script"] (Ó IA):=dr
def ND:æ ["self"] ["self"] (Ó IB):=dr
def NE:æ ["turn"] ["turn"] (Ó IC):=dr
def qf:æ ["yard","rows","name","times","turns"] ["yard"] (Ó ID):=dr
def NF:æ ["word","signs","most"] ["word","signs","most"] (Ó IE):=dr
def EV:æ ["word","figures"] ["word"] (Ó IF):=dr
def NG:æ ["words"] ["words"] (Ó IG):=dr
def EW:æ ["words","row","numbers"] ["words","row"] (Ó IH):=dr
def EX:æ ["words","row","size"] ["words","row"] (Ó II):=dr
def NH:æ ["days"] ["days"] (Ó IJ):=dr
def NI:æ ["self","width","height","things","days"] ["self","width","height","things","days"] (Ó Ej):=dr
def NJ:æ ["ray"] ["ray"] (Ó IK):=dr
def EY:æ ["words","row","ray"] ["words","row"] (Ó IL):=dr
def NK:æ ["words","row","days"] ["words","row","days"] (Ó IM):=dr
def NL:æ ["word"] ["word"] (Ó IN):=dr
def EZ:æ ["words","row","times"] ["words","row"] (Ó IP):=dr
def E_:æ ["words","row","days","day"] ["words","row","days"] (Ó Ek):=dr
def NM:æ ["number"] ["number"] (Ó IQ):=dr
def NO:æ ["number"] ["number"] (Ó IS):=dr
def NP:æ ["numbers"] ["numbers"] (Ó IT):=dr
def xy:æ ["self","word","numbers"] ["self","word","numbers"] (Ó Q3):=dr
def NQ:æ ["numbers"] ["numbers"] (Ó IU):=dr
def NR:æ ["numbers"] ["numbers"] (Ó IV):=dr
def Ru:æ ["numbers"] ["numbers"] (Ó Q4):=dr
def Rv:æ ["numbers"] ["numbers"] (Ó Q5):=dr
def NT:æ ["numbers"] ["numbers"] (Ó IW):=dr
def NU:æ ["word","numbers"] ["word","numbers"] (Ó IX):=dr
def E0:æ ["words","row","numbers"] ["words","row"] (Ó IY):=dr
def NV:æ ["words","row","things","days"] ["words","row","things","days"] (Ó IZ):=dr
def NW:æ ["words","row","things","days"] ["words","row","things","days"] (Ó I_):=dr
def jO:æ ["text","rows","size","things","days","row","words"] ["text"] (Ó I0):=dr
def Rx:æ ["self","text"] ["self","text"] (Ó Q6):=dr
def lN:æ ["_law_text","_law_at_desk","_law_caught","e","_law_others"] ["_law_text","_law_at_desk"] (Ó Ja):=dr
def vP:æ ["_law_script","_law_text","_law_rows_here","_law_due"] ["_law_script"] (Ó Jb):=dr
def Kw:æ ["self","row"] ["self","row"] (Ó Q7):=dr
section
variable{P:Þ}{w:Ø}{K:É}{mg:Str->Option Á}{base:Ð}{a:sk}
seal PE PT PW PA PS ay PG xG PI Bs
def Zh(T:Tx K mg a):aV (λC=>lw K (Ē a C)/\ċ K (Ē a C) "word") ["Thing","Post","Fence","Sail","Cloth","House"]:=⟨⟨T.vA,T.vB⟩,⟨⟨T.yS,T.xq⟩,⟨⟨T.vD,T.vE⟩,⟨⟨T.yU,T.xr⟩,⟨⟨T.vG,T.vH⟩,⟨⟨T.vI,T.vJ⟩,trivial⟩⟩⟩⟩⟩⟩
def Z9(T:Tx K mg a):aV (λC=>lw K (Ē a C)/\ċ K (Ē a C) "numbers") ["Thing","Post","Fence","Sail","Cloth","House"]:=⟨⟨T.vA,T.mR⟩,⟨⟨T.yS,T.qc⟩,⟨⟨T.vD,T.mS⟩,⟨⟨T.yU,T.qd⟩,⟨⟨T.vG,T.mT⟩,⟨⟨T.vI,T.mV⟩,trivial⟩⟩⟩⟩⟩⟩
def X3(T:Tx K mg a):aV (λC=>lw K (Ē a C)/\ċ K (Ē a C) "width") ["Yard"]:=⟨⟨T.vK,T.vL⟩,trivial⟩
def X4(T:Tx K mg a):aV (λC=>lw K (Ē a C)/\ċ K (Ē a C) "height") ["Yard"]:=⟨⟨T.vK,T.qN⟩,trivial⟩
def X5(T:Tx K mg a):aV (λC=>lw K (Ē a C)/\ċ K (Ē a C) "things") ["Yard"]:=⟨⟨T.vK,T.qO⟩,trivial⟩
def X6(T:Tx K mg a):aV (λC=>lw K (Ē a C)/\ċ K (Ē a C) "days") ["Yard"]:=⟨⟨T.vK,T.xt⟩,trivial⟩
def Z1E(T:Tx K mg a):aV (λC=>lw K (Ē a C)/\ċ K (Ē a C) "yard") ["Desk"]:=⟨⟨T.Ny,T.xu⟩,trivial⟩
def gB(T:Tx K mg a):Ě P w K mg base (ϭ P w) 1 a.Ni a.Rn ["self","row"] (HX 2 (Ē a "BadRow") [("row",1)]):=
 fnX T.ù.F Kw rfl λĺ A outer s H E=>(AK (HW T.lm T.cY (pv 0) (pv 1)) DJ)
def ZV(T:Tx K mg a){X:Cx}(h1:X.prog=P)(h2:X.w=w)(h3:X.K=K)(h4:X.mg=mg){k:Nat}(hr:ϊ (k+1) X.A):XRun X (Ē a "BadRow") 2 [("row",1)]:=by subst h1 h2 h3 h4;exact VA hr T.ū T.ù.F Kw rfl T.ù.b λĺ A outer s H E v=>(AK (HW T.lm T.cY (pv 0) (pv 1)) DJ)
def NX(T:Tx K mg a):Ě P w K mg base (ϭ P w) 1 a.Je a.JQ ["_law_rows_here","_law_word"] (bM ⟨K,Ē a⟩ 2 wW):=by refine ύ T.le.F NA λ_ _ _ _ _ _ _ hu=>?_;exact aa (kT (dk rfl T.gt (Ç (ź ő Ů T.ż ķ (Ü (Í 0) ê)) ë)) gH (L5 (bR hu (Ŕ (ï (ÿ (GS ϶ fM nE kW kU (Ŕ (Í 1) (Í 2)) (Ü Ź ê)))) Ñ) (Í 0))) (v_var 2))
def NY(T:Tx K mg a):Ě P w K mg base (ϭ P w) 1 a.Jf a.JR [] (bM ⟨K,Ē a⟩ 0 Em):=by refine ύ T.ax.F jN λ_ _ _ _ _ _ _ _=>?_;exact ů jN (ĩ (Ç û (Ç û (Ç û (Ç û (Ç û (Ç û (Ç û ë)))))))) (ů jN (ci (Í 0) (ï (ÿ (ĩ (Ç û (Ç û (Ç û (Ç û (Ç û ë))))))))) (ů jN (ci (Í 0) (ï (ÿ (ĩ (Ç û (Ç û ë)))))) (ů jN (ci (Í 0) (ï (ÿ (ĩ (Ç û (Ç û (Ç û (Ç û (Ç û (Ç û (Ç û ë))))))))))) (ů jN (ci (Í 0) (ï (ÿ (ĩ (Ç û (Ç û (Ç û (Ç û (Ç û (Ç û (Ç û ë))))))))))) (ů jN (ci (Í 0) (ï (ÿ (ĩ (Ç û (Ç û (Ç û (Ç û (Ç û ë))))))))) (aa (ci (Í 0) (ï (ÿ (ĩ (Ç û (Ç û (Ç û (Ç û (Ç û (Ç û ë))))))))))))))))
def yW(T:Tx K mg a):Ě P w K mg base (ϭ P w) 1 a.Jg a.JS ["_law_rows_here","_law_at","_law_row"] (bM ⟨K,Ē a⟩ 3 se):=by refine ύ T.gm.F NB λ_ _ _ _ _ _ _ _=>?_;exact ş (aO (Ç (v_add (ag (ï (ÿ (ŵ (Í 0) be (ό (v_var 1))))) (ï (ÿ (ĩ (Ç (v_var 2) ë))))) (ï (ÿ (ŵ (Í 0) (ό (v_var 1)) be)))) (Ç (v_var 1) ë)))
def Ry(T:Tx K mg a):Ě P w K mg base (ϭ P w) 1 a.Q9 a.Ri [] (bM ⟨K,Ē a⟩ 0 Ng):=by refine ύ T.ϧ.F Kv λ_ _ _ _ _ _ _ _=>?_;exact ů Kv (ĩ (Ç û (Ç û (Ç û (Ç û (Ç û (Ç û (Ç û ë)))))))) (aa (ci (Í 0) (ï (ÿ (ĩ (Ç û (Ç û (Ç û ë))))))))
def NZ(T:Tx K mg a):Ě P w K mg base (ϭ P w) 1 a.Jh a.JT ["_law_rows_here","_law_way","_law_number"] (bM ⟨K,Ē a⟩ 3 kY):=by refine ύ T.mz.F vO λ_ _ _ _ _ _ _ hu=>?_;exact å (Ϗ (bR hu (Í 1) Ñ) (ů vO (ci (ï (ÿ (ĩ (Ç (bN (Í 0) Ñ) ë)))) (ï (ÿ (HM (Ç (v_add Ź (ï (wP i_ ja T.sr iy (Ü (ag Ñ (Ĵ (Í 2) Ñ)) ê)))) ë) Ñ)))) (ş (aO (Ç (v_var 0) (Ç œ ë))))) Ĥ) (å (Ϗ (bR hu (Í 1) Ñ) (ů vO (ĩ (Ç (bN (Í 0) Ñ) ë)) (å (kO aL rfl (dk rfl T.gt (Ç œ ë)) (gk vO) (Ĝ (PS.wk (ť (bY ϟ nB tw lB (pv 0) (Ϥ (ĩ (Ç (v_add (ag Ź (Ŕ Ź (Í 3))) Ź) (Ç û ë))) aN))) λ_ _ _ h=>uU h))) (ş (aO (Ç (v_var 0) (Ç œ ë)))))) Ĥ) (ş (aO (Ç (v_add (ï (ÿ (ĩ (Ç (bN (Í 0) Ñ) (Ç û ë))))) (ï (ÿ (HM (Ç û (Ç û ë)) Ñ)))) (Ç œ ë)))))
def N_(T:Tx K mg a):Ě P w K mg base (ϭ P w) 2 a.Ji a.JU ["_law_rows_here","_law_way","_law_number"] (bM ⟨K,Ē a⟩ 3 dA):=by refine ύ T.jr.F lM λ_ _ _ _ _ _ hr hu=>?_;exact ů lM (è (NX T) T.le hr Ā (Ċ 0 (ø û ð))) (å (Ϗ (df ww wq (Í 1) Ñ (ŷ _)) (ş (aO (Ç (v_var 0) (Ç lS ë)))) Ĥ) (å (Ϗ (bR hu (Í 1) Ñ) (ů lM (Aw (Ry T) aQ hr.mo rfl T.ϧ.m T.ϧ.F.kp T.ϧ.b Ā) (ş (aO (Ç (v_add (ï (ÿ (ĩ (Ç (bN (Í 4) (Ĵ (Í 2) (ï (ź ő Ů T.ż ķ (Ü (Í 4) ê))))) ë)))) (ï (ÿ (ŵ (Í 0) (ό œ) be)))) (Ç œ ë))))) Ĥ) (å (Ϗ (PW.pt (w_and (bR hu (Í 1) Ñ) (gW (df D3 (D2 hu) (Í 3) (ï (ÿ (ĩ ë))) (ŷ _))))) (aa (è (yW T) T.gm hr Ā (Ċ 0 (ø (v_add (ag (Ŕ (Í 3) Ñ) Ñ) (Ĵ (Í 2) (AQ (ï (ź ő Ů T.ż ķ (Ü (Í 0) ê))) (Ŕ (Í 3) Ñ)))) (ø û ð))))) Ĥ) (å (Ϗ (bR hu (Í 1) Ñ) (ů lM (jf (bN (ag (Í 3) (ï (ÿ (ĩ (Ç (ź ő Ů T.ż ķ (Ü (Í 0) ê)) ë))))) Ñ)) (aa (è (yW T) T.gm hr Ā (Ċ 0 (ø (v_add Ñ (Ĵ (Í 2) (Í 5))) (ø (bN (ï (ÿ (ĩ (Ç û (Ç û ë))))) (Ĵ (AR (Í 2) Ñ) Ñ)) ð)))))) Ĥ) (å (Ϗ (PW.pt (w_and (bR hu (Í 1) Ñ) (gW (df D3 (D2 hu) (Í 3) (ï (ÿ (ĩ ë))) (ŷ _))))) (ş (aO (Ç (v_add (Í 0) (ï (ÿ (ĩ (Ç (bN (Í 0) (Ŕ (Í 3) (Ĵ (Í 2) (ï (ź ő Ů T.ż ķ (Ü (Í 3) ê)))))) (Ç û ë)))))) (Ç (ź ő Ů T.ż ķ (Ü (Í 0) ê)) ë)))) Ĥ) (å (Ϗ (bR hu (Í 1) Ñ) (ů lM (jf (bN (ag (Í 3) (ï (ÿ (ĩ (Ç (ź ő Ů T.ż ķ (Ü (Í 0) ê)) ë))))) (Ĵ (Í 2) (ag (ï (ź ő Ů T.ż ķ (Ü (Í 3) ê))) Ñ)))) (ş (aO (Ç (v_add (ag (ï (ÿ (ŵ (Í 0) be (ό (v_var 6))))) (ï (ÿ (ĩ (Ç û ë))))) (ï (ÿ (ŵ (Í 0) (ό (v_var 6)) be)))) (Ç (v_add (Í 6) Ñ) ë))))) Ĥ) (å (Ϗ (PW.pt (w_and (df Di CO (Í 1) Ñ (ŷ _)) (gW (df ww wq (Í 1) Ñ (ŷ _))))) (aa (è (NZ T) T.mz hr Ā (Ċ 0 (Ċ 1 (Ċ 2 ð))))) Ĥ) (ů lM (Aw (NY T) aQ hr.mo rfl T.ax.m T.ax.F.kp T.ax.b Ā) (aa (è (yW T) T.gm hr Ā (Ċ 0 (ø (v_add Ñ (Ĵ (Í 2) (ï (ź ő Ů T.ż ķ (Ü (Í 0) ê))))) (ø (bN (Í 4) (Ĵ (AR (Í 2) Ñ) (ï (ź ő Ů T.ż ķ (Ü (Í 4) ê))))) ð)))))))))))))
def vQ(T:Tx K mg a):Ě P w K mg base (ϭ P w) 1 a.Jj a.JV ["_law_script","_law_place"] (bM ⟨K,Ē a⟩ 2 mj):=by refine ύ T.bP.F ET λ_ _ _ _ _ _ _ _=>?_;exact å (kO aL rfl (lX (ÿ (ŵ (Í 0) (ό (v_var 1)) (ό (v_add (Í 1) Ñ))))) (gk ET) (ş (ź xX yh T.ES sS (Ü (Í 2) ê)))) (ş œ)
def E2(T:Tx K mg a):Ě P w K mg base (ϭ P w) 1 a.Jk a.JW ["_law_number","_law_many_here"] (bM ⟨K,Ē a⟩ 2 mm):=by refine ύ T.eM.F dE λ_ _ _ _ _ _ _ _=>?_;exact ů dE (ĩ ë) (ů dE (jf (D4 (Í 0) Ñ)) (å (kO aL rfl (dk rfl T.gt (Ç (v_mul (Í 1) (AQ Ñ (Ĵ (Í 0) Ñ))) ë)) (gk dE) (å (Db (ź rJ rK T.xm zw (Ü (Í 3) (Ü (ï (rD Dg CN Ñ Ñ)) ê))) (D0 rfl (ϋ (gk dE) (ϋ (gk dE) lF)))) (Ĝ (PS.wk (ť (bY ϟ am aK Ő (pv 2) (Ç (v_var 6) ë))) λ_ _ _ h=>d_ h)))) (ů dE (ci (Ĵ (Í 3) Ñ) Ñ) (å (Gg aL (df ww wq (ï (ź ő Ů T.ż ķ (Ü (Í 2) ê))) (Í 1) (ŷ _)) (å (kO aL rfl (dk rfl T.gt (Ç œ ë)) (gk dE) (å (Db (ź rJ rK T.xm zw (Ü (Í 3) (Ü Ñ ê))) (D0 rfl (ϋ (gk dE) (ϋ (gk dE) lF)))) (Ĝ (GL dE (jf (v_mod (ag (ag (ag (jo (Í 8) Ñ) (jo (Í 7) Ñ)) (jo Ñ (ï (ź ő Ů T.ż ķ (Ü (Í 2) ê))))) Ñ) Ñ)))))) (Ĝ (PS.wk (ť (bY ϟ am aK Ő (pv 2) (Ç (D4 (Í 3) Ñ) ë))) λ_ _ _ h=>d_ h)))) (aa (Au 2))))))
def N1(T:Tx K mg a):Ě P w K mg base (ϭ P w) 2 a.Jl a.JX ["_law_number","_law_width","_law_height"] (bM ⟨K,Ē a⟩ 3 ib):=by refine ύ T.gy.F eO λ_ _ _ _ _ _ hr hu=>?_;exact ů eO (è (E2 T) T.eM hr Ā (Ċ 0 (ø œ ð))) (ů eO (jf (v_sub (Ĵ (Ŕ (Í 3) Ñ) (ag (jo Ñ (Í 1)) Ñ)) Ñ)) (ů eO (jf (v_sub (Ĵ (Ŕ (Í 3) Ñ) (ag (jo Ñ (Í 2)) Ñ)) Ñ)) (ů eO (ci (ag (Í 4) Ñ) (Ĵ (Ŕ (Í 3) Ñ) Ñ)) (ů eO (ci (ag (Í 5) Ñ) (Ĵ (Ŕ (Í 3) Ñ) Ñ)) (ů eO (ci Ñ (Ĵ (Ŕ (Í 3) Ñ) Ñ)) (å (Ϗ (bR hu (Ĵ (Ŕ (Í 3) Ñ) Ñ) Ñ) (Ĝ (GL eO (jf (v_sub (ï (rD Dg CN Ñ Ñ)) (Ĵ (Ŕ (Í 3) Ñ) Ñ))))) Ĥ) (å (Ϗ (bR hu (Ĵ (Ŕ (Í 3) Ñ) Ñ) Ñ) (aa (ĩ (Ç û (Ç (v_sub (Ĵ (Ŕ (Í 3) Ñ) (ag (Í 1) Ñ)) Ñ) (Ç (v_sub (Ĵ (Ŕ (Í 3) Ñ) (ag (Í 2) Ñ)) Ñ) (Ç (v_var 8) ë)))))) Ĥ) (å (Ϗ (bR hu (Ĵ (Ŕ (Í 3) Ñ) Ñ) Ñ) (ů eO (jf (bN (ï (ÿ (ĩ (Ç (aO (Ç (v_var 6) (Ç (v_var 5) ë))) (Ç (aO (Ç (v_var 6) (Ç (v_var 7) ë))) (Ç (aO (Ç (v_var 4) (Ç (v_var 7) ë))) (Ç (aO (Ç (v_sub (Í 4) Ñ) (Ç (v_var 7) ë))) ë))))))) (Ĵ (Ŕ (Í 3) Ñ) Ñ))) (aa (ĩ (Ç û (Ç (v_var 4) (Ç (v_var 5) (Ç (bN (Í 10) Ñ) (Ç (bN (Í 10) Ñ) (Ç (v_var 8) ë))))))))) Ĥ) (å (Ϗ (bR hu (Ĵ (Ŕ (Í 3) Ñ) Ñ) Ñ) (aa (ĩ (Ç û (Ç (v_var 4) (Ç (v_var 5) (Ç (v_var 6) (Ç (v_var 7) (Ç (v_var 8) ë)))))))) Ĥ) (å (Ϗ (bR hu (Ĵ (Ŕ (Í 3) Ñ) Ñ) Ñ) (aa (ĩ (Ç û (Ç (v_var 4) (Ç (v_var 5) (Ç (v_var 6) (Ç (v_var 7) (Ç (v_var 8) ë)))))))) Ĥ) (ů eO (jf (v_mul (Ĵ (Ŕ (Í 3) Ñ) Ñ) (Ĵ (Ŕ (Í 3) Ñ) Ñ))) (aa (ĩ (Ç û (Ç (v_var 4) (Ç (v_var 5) (Ç (v_mod (Ŕ (Í 3) Ñ) Ñ) (Ç (v_var 6) (Ç (v_add (AQ (Í 5) Ñ) (Ĵ (Ŕ (Í 3) Ñ) Ñ)) (Ç (v_mod (Ŕ (Í 3) Ñ) Ñ) (Ç (v_add (AQ (Í 4) Ñ) (Ĵ (Ŕ (Í 3) Ñ) Ñ)) (Ç (v_var 7) (Ç (v_var 9) ë)))))))))))))))))))))))
def N2(T:Tx K mg a):Ě P w K mg base (ϭ P w) 2 a.Jm a.JY ["_law_number"] (bM ⟨K,Ē a⟩ 1 pA):=by refine ύ T.jt.F EU λ_ _ _ _ _ _ hr hu=>?_;exact ů EU (è (E2 T) T.eM hr Ā (Ċ 0 (ø œ ð))) (å (Ϗ (bR hu (Ĵ (Ŕ (Í 1) Ñ) Ñ) Ñ) (ş lS) Ĥ) (å (Ϗ (bR hu (Ĵ (Ŕ (Í 1) Ñ) Ñ) Ñ) (ş (aO (Ç (v_sub (Ĵ (Ŕ (Í 1) Ñ) Ñ) Ñ) (Ç (v_sub (Ĵ (Ŕ (Í 1) Ñ) Ñ) Ñ) (Ç (v_add Ñ (Ĵ (Ŕ (Í 1) Ñ) Ñ)) ë))))) Ĥ) (ş (aO (Ç (v_sub (Ĵ (Ŕ (Í 1) Ñ) Ñ) Ñ) (Ç (v_sub (Ĵ (Ŕ (Í 1) Ñ) Ñ) Ñ) (Ç (v_add Ñ (Ĵ (Ŕ (Í 1) Ñ) Ñ)) ë)))))))
def vR(T:Tx K mg a):Ě P w K mg base (ϭ P w) 1 a.Jn a.JZ ["_law_words"] (bM ⟨K,Ē a⟩ 1 gv):=by refine ύ T.ah.F NC λ_ _ _ _ _ _ _ _=>?_;exact ş (uT ϶ fN fO gi f_ Ź (Ü (ï (ÿ (kT (di 0) gH ϫ (wP i_ ja T.sr iy (Ü (Í 0) ê))))) ê))
def Rz(T:Tx K mg a):Ě P w K mg base (ϭ P w) 2 a.Ra a.Rj ["_law_width","_law_height","_law_things","_law_days"] (bM ⟨K,Ē a⟩ 4 GY):=by refine ύ T.fc.F su λ_ _ _ _ _ _ hr _=>?_;exact ů su (ci (ï (ÿ (ĩ (Ç (ÿ (è (vR T) T.ah hr Ā (ø (ÿ (ĩ (Ç û (Ç (v_var 0) (Ç (v_var 1) ë))))) ð))) ë)))) (ï (ÿ (kT (di 2) gH ϫ (ÿ (è (vR T) T.ah hr jG (Ċ 0 ð))))))) (å (kO aL rfl (di 3) (C9 rfl (ϋ (gk su) (ϋ (gk su) (ϋ (gk su) lF)))) (å (PS.wk (ť (bY ϟ am aK Ő (pv 4) (Ç (ÿ (è (vR T) T.ah hr Ā (ø (ÿ (ĩ (Ç û (Ç (v_var 5) (Ç (v_var 6) ë))))) ð))) ë))) λ_ _ _ h=>d_ h) (Ĝ (kO aL rfl (di 7) (gk su) (Ĝ (Ϗ (df AA uz (Í 8) AO (ŷ _)) (Ĝ (PS.wk (ť (bY ϟ am aK Ő (pv 4) (Ç û ë))) λ_ _ _ h=>d_ h)) (Ĝ (PS.wk (ť (bY ϟ am aK Ő (pv 4) (Ç (ÿ (è (vR T) T.ah hr Ā (ø (v_add (ï (ÿ (ĩ (Ç û ë)))) (ï (ÿ (uZ cS cT T.gq cA (Ü (Í 8) ê))))) ð))) ë))) λ_ _ _ h=>d_ h)))))))) (ş (uT ϶ fN fO gi f_ Ź (Ü (Í 4) ê))))
def N3(T:Tx K mg a):Ě P w K mg base (ϭ P w) 3 a.Jo a.J_ ["_law_script"] (bM ⟨K,Ē a⟩ 1 AZ):=by refine ύ T.mB.F ii λ_ _ _ _ _ _ hr _=>?_;exact ů ii (ci Ñ (Ĵ (ï (ÿ (è (vQ T) T.bP hr Ā (Ċ 0 (ø œ ð))))) Ñ)) (ů ii (è (vQ T) T.bP hr Ā (Ċ 0 (ø œ ð))) (ů ii (ĩ ë) (å (kO aL rfl (dk rfl T.gt (Ç (v_mod (Í 2) Ñ) ë)) (gk ii) (Ĝ (PS.wk (ť (bY ϟ am aK Ő (pv 3) (Ç (ÿ (è (N1 T) T.gy hr Ā (ø (v_add (Í 2) (jo (jo Ñ (Í 4)) (Í 4))) (Ċ 1 (ø œ ð))))) ë))) λ_ _ _ h=>d_ h))) (ů ii (ĩ ë) (å (kO aL rfl (dk rfl T.gt (Ç (v_mod (AR (Í 2) Ñ) Ñ) ë)) (gk ii) (å (Qy ii (dk rfl T.gt (Ç (v_add Ñ (Ĵ (AR (Í 2) Ñ) Ñ)) ë)) gH ϫ (ÿ (è (N2 T) T.jt hr jG (ø (v_add (ag (Í 0) (jo Ñ (Í 1))) (jo (jo Ñ (Í 2)) (Í 2))) ð)))) (Ĝ (PS.wk (ť (bY ϟ am aK Ő (pv 5) (Ç (aO (Ç (v_mul Ź (ag Ñ (Í 4))) (Ç (v_add Ñ (Ĵ (Í 2) Ñ)) (Ç (v_var 6) ë)))) ë))) λ_ _ _ h=>d_ h)))) (aa (GS ϶ fM nE kW kU (ï (ÿ (è (Rz T) T.fc hr Ā (Ċ 1 (ø œ (Ċ 3 (Ċ 5 ð))))))) (Ü Ź ê))))))))
def lO(T:Tx K mg a):Ě P w K mg base (ϭ P w) 1 a.mx a.J0 ["self"] (bM ⟨K,Ē a⟩ 1 Ŋ):=by refine ύ T.Ű.F ND λ_ _ _ _ _ _ _ _=>?_;exact ş (uT ϶ fN fO gi f_ Ź (Ü (ag (ï (ÿ (ĩ (Ç (rM ["Thing","Post","Fence","Sail","Cloth","House"] (Zh T) (Í 0)) ë)))) (ï (ÿ (kT (lX (rM ["Thing","Post","Fence","Sail","Cloth","House"] (Z9 T) (Í 0))) gH ϫ (wP i_ ja T.sr iy (Ü (Í 0) ê)))))) ê))
def N4(T:Tx K mg a):Ě P w K mg base (ϭ P w) 1 a.Jp a.J1 ["turn"] (bM ⟨K,Ē a⟩ 1 pE):=by refine ύ T.mD.F NE λ_ _ _ _ _ _ _ _=>?_;exact å (Ϗ (df AA uz (Í 0) AO (ŷ _)) (ş û) Ĥ) (ş (uT ϶ fN fO gi f_ Ź (Ü (ag (ï (ÿ (ĩ (Ç û ë)))) (ï (ÿ (kT (di 0) gH ϫ (wP i_ ja T.sr iy (Ü (Í 0) ê)))))) ê)))
def N5(T:Tx K mg a):Ě P w K mg base (ϭ P w) 2 a.Jq a.J2 ["yard"] (bM ⟨K,Ē a⟩ 1 A_):=by refine ύ T.mE.F qf λ_ _ _ _ _ _ hr _=>?_;exact ů qf (ĩ (Ç (uT ϶ fN fO gi f_ Ź (Ü (ï (ÿ (ĩ (Ç û (Ç (wP i_ ja T.sr iy (Ü (ï (rM ["Yard"] (X3 T) (Í 0))) ê)) (Ç (wP i_ ja T.sr iy (Ü (ï (rM ["Yard"] (X4 T) (Í 0))) ê)) ë)))))) ê)) ë)) (å (PS.wk (ť (bY ϟ nB tw lB (pv 1) (Ϥ (kT (lX (rM ["Yard"] (X5 T) (Í 0))) gH ϫ (ÿ (Gp (Fu:= "shown") (k:=1) (n:=1) (jd:=[("Thing",Ŋ),("Post",Ŋ),("Fence",Ŋ),("Sail",Ŋ),("Cloth",Ŋ),("House",Ŋ)]) ⟨⟨T.vA,_,_,_,T.qJ,(lO T).mono (by decide),T.Ű.b,aQ⟩,⟨⟨T.yS,_,_,_,T.vC,(lO T).mono (by decide),T.Ű.b,aQ⟩,⟨⟨T.vD,_,_,_,T.qK,(lO T).mono (by decide),T.Ű.b,aQ⟩,⟨⟨T.yU,_,_,_,T.vF,(lO T).mono (by decide),T.Ű.b,aQ⟩,⟨⟨T.vG,_,_,_,T.qL,(lO T).mono (by decide),T.Ű.b,aQ⟩,⟨⟨T.vI,_,_,_,T.qM,(lO T).mono (by decide),T.Ű.b,aQ⟩,trivial⟩⟩⟩⟩⟩⟩ hr.mo jG (v_var 0)))) aN))) λ_ _ _ h=>uU h) (å (kO aL rfl (lX (rM ["Yard"] (X6 T) (Í 0))) (C9 rfl (ϋ (gk qf) (ϋ (gk qf) (ϋ (gk qf) lF)))) (å (PS.wk (ť (bY ϟ am aK Ő (pv 1) (Ç (VZ (nY û (nY (Ii (v_var 2)) (nY û (nY (Ii (v_var 3)) Nc))))) ë))) λ_ _ _ h=>d_ h) (Ĝ (PS.wk (ť (bY ϟ nB tw lB (pv 1) (Ϥ (kT (di 4) gH ϫ (ÿ (è (N4 T) T.mD hr jG (Ċ 0 ð)))) aN))) λ_ _ _ h=>uU h)))) (ş (uT ϶ fN fO gi f_ Ź (Ü (Í 1) ê)))))
def E3(T:Tx K mg a):Ě P w K mg base (ϭ P w) 1 a.Jr a.J3 ["word","signs","most"] (bM ⟨K,Ē a⟩ 3 pF):=by refine ύ T.gn.F NF λ_ _ _ _ _ _ _ hu=>?_;exact ş (v_and (rE ca ca bZ bZ Ñ (ï (ź ő Ů T.ż ķ (Ü (Í 0) ê))) (Í 2)) (gX (ź (oE rfl) oW T.xl kj (Ü (ï (ÿ (kT (di 0) gH ϫ (lU yA (yz hu) (Í 1) (Í 0) (by with_unfolding_all rfl))))) ê))))
def N6(T:Tx K mg a):Ě P w K mg base (ϭ P w) 2 a.Js a.J4 ["word"] (bM ⟨K,Ē a⟩ 1 kZ):=by refine ύ T.mF.F EV λ_ _ _ _ _ _ hr hu=>?_;exact ů EV (UG (aX (ï (uT ϶ zK zL rQ rC (Í 0) (Ü Ź ê)))) (ŵ (Í 0) (ό œ) be) (jf (v_var 0))) (å (Ϗ (oN (aX (ï (ÿ (è (E3 T) T.gn hr Ā (Ċ 1 (ø (kL (.str "0123456789") (ĸ (v:=.str "0123456789") rfl T.BQ ⟨_,rfl⟩)) (ø (kL (.int 10) (ĸ (v:=.int 10) rfl T.qa ⟨_,rfl⟩)) ð)))))))) (ş LW) Ĥ) (ş (v_or (v_eq hu (Í 0) Ź) (gX (v_not (uT ϶ zK zL rQ rC (Í 1) (Ü Ź ê)))))))
def N7(T:Tx K mg a):Ě P w K mg base (ϭ P w) 3 a.Jt a.J5 ["words"] (bM ⟨K,Ē a⟩ 1 A0):=by refine ύ T.lf.F NG λ_ _ _ _ _ _ hr _=>?_;exact å (Ϗ (aX (ï (ź (oE rfl) oW T.xl kj (Ü (ï (ÿ (kT (di 0) gH ϫ (ÿ (è (N6 T) T.mF hr jG (Ċ 0 ð)))))) ê)))) (aa (kT (di 0) gH ϫ (wP GV GW T.Rq PyProof.Rows.boot_int (Ü (Í 0) ê)))) Ĥ) (ş lS)
def vS(T:Tx K mg a):Ě P w K mg base (ϭ P w) 4 a.Ju a.J6 ["words","row"] (bM ⟨K,Ē a⟩ 2 pG):=by refine ύ T.aR.F EW λ_ _ _ _ _ _ hr _=>?_;exact ů EW (è (N7 T) T.lf hr Ā (Ċ 0 ð)) (å (Ϗ (df AA uz (Í 2) AO (ŷ _)) (Ĝ (ϐ (C:= "BadRow") rfl rfl Ϻ T.ū (gB T) hr.mo rfl (Z3 T) T.ù.b Ā (Ç (v_var 1) ë))) Ĥ) (aa (Au 2)))
def N8(T:Tx K mg a):Ě P w K mg base (ϭ P w) 5 a.Jv a.J7 ["words","row"] (bM ⟨K,Ē a⟩ 2 si):=by refine ύ T.mG.F EX λ_ _ _ _ _ _ hr hu=>?_;exact å (Ϗ (PW.pt (w_or (D5 hu (Ŕ (Í 0) Ñ) Ź) (lW (D5 hu (ï (ź ő Ů T.ż ķ (Ü (Í 0) ê))) Ñ)))) (Ĝ (ϐ (C:= "BadRow") rfl rfl Ϻ T.ū (gB T) hr.mo rfl (Z3 T) T.ù.b Ā (Ç (v_var 1) ë))) Ĥ) (ů EX (è (vS T) T.aR hr Ā (ø (ÿ (ŵ (Í 0) (ό œ) be)) (Ċ 1 ð))) (å (Ϗ (oN (aX (ï (ź (oE rfl) oW T.xl kj (Ü (ï (ÿ (kT (di 2) gH ϫ (rE ca ca bZ bZ Ñ (Í 0) (ï (kL (.int 20) (ĸ (v:=.int 20) rfl T.xk ⟨_,rfl⟩))))))) ê))))) (Ĝ (ϐ (C:= "BadRow") rfl rfl Ϻ T.ū (gB T) hr.mo rfl (Z3 T) T.ù.b Ā (Ç (v_var 1) ë))) Ĥ) (aa (Au 2))))
def E4(T:Tx K mg a):Ě P w K mg base (ϭ P w) 1 a.Jw a.J8 ["days"] (bM ⟨K,Ē a⟩ 1 k_):=by refine ύ T.eN.F NH λ_ _ _ _ _ _ _ hu=>?_;exact ş (v_and (lU Di CO (ï (vc 0 T.ż (pv 0))) Ñ (ŷ _)) (gX (v_eq hu (ï (Ec 0 T.ż (MX (pv 0)))) Ñ)))
def E5(T:Tx K mg a):Ě P w K mg base (ϭ P w) 1 a.EK a.J9 ["self","width","height","things","days"] (DA ⟨K,Ē a⟩ 5 "Yard" jb):=by refine Mm (cm:=Ē a) (mb:=yE) T.gz.F NI rfl rfl rfl λĺ A outer s H E hr=>?_;have hu:=hr.units;exact å (aB ["Yard"] (X3 T) (pv 0) (v_var 1)) (å (aB ["Yard"] (X4 T) (pv 0) (v_var 2)) (å (aB ["Yard"] (X5 T) (pv 0) (ÿ (uZ cS cT T.gq cA (Ü (Í 3) ê)))) (Ĝ (aB ["Yard"] (X6 T) (pv 0) (ÿ (VQ (MR 4) (AS ["name","times","turns"] [] 3 (Ó Ej) rfl rfl (QD 4) (λ_ _ _ _ _=>(QE (i:=0) (j:=1) (k:=2) rfl (show(["name","times","turns"]:List Str).Nodup by decide +kernel) rfl rfl rfl (ĕ rfl) (ĕ rfl) (ĕ rfl) (fx:=ĉ rfl) (fy:=ĉ rfl) (fz:=ĉ rfl))) (λ_ _ _ _ _=>ϫ) (λ_ _ _ _ _=>(aO (Ç (v_var 0) (Ç (v_var 1) (Ç (ÿ (uZ cS cT T.gq cA (Ü (Í 2) ê))) ë))))) trivial) (kT (di 4) (C9 rfl (ϋ gH (ϋ gH (ϋ gH lF)))) ϫ (aO (Ç (v_var 0) (Ç (v_var 1) (Ç (ÿ (uZ cS cT T.gq cA (Ü (Í 2) ê))) ë)))))))))))
def N9(T:Tx K mg a):Ě P w K mg base (ϭ P w) 1 a.Jx a.Ka ["ray"] (bM ⟨K,Ē a⟩ 1 A1):=by refine ύ T.xi.F NJ λ_ _ _ _ _ _ _ _=>?_;exact ş (v_and (lU ca bZ (ï (ź xX yh T.ES sS (Ü (Ŕ (Í 0) Ñ) ê))) (ï (kL (.int 1000000) (ĸ (v:=.int 1000000) rfl T.jM ⟨_,rfl⟩))) (ŷ _)) (v_and (lU ca bZ (ï (ź xX yh T.ES sS (Ü (Ŕ (Í 0) Ñ) ê))) (ï (kL (.int 1000000) (ĸ (v:=.int 1000000) rfl T.jM ⟨_,rfl⟩))) (ŷ _)) (gX (rE ca ca bZ bZ Ñ (Ŕ (Í 0) Ñ) (ï (kL (.int 1000000) (ĸ (v:=.int 1000000) rfl T.jM ⟨_,rfl⟩)))))))
def Oa(T:Tx K mg a):Ě P w K mg base (ϭ P w) 5 a.Jy a.Kb ["words","row"] (bM ⟨K,Ē a⟩ 2 mn):=by refine ύ T.mH.F EY λ_ _ _ _ _ _ hr hu=>?_;exact å (Ϗ (bR hu (Í 0) (ï (ÿ (ĩ (Ç û ë))))) (ş lS) Ĥ) (å (Ϗ (PW.pt (w_or (D5 hu (Ŕ (Í 0) Ñ) Ź) (lW (D5 hu (ï (ź ő Ů T.ż ķ (Ü (Í 0) ê))) Ñ)))) (Ĝ (ϐ (C:= "BadRow") rfl rfl Ϻ T.ū (gB T) hr.mo rfl (Z3 T) T.ù.b Ā (Ç (v_var 1) ë))) Ĥ) (ů EY (jf (wP Ds Dt T.G4 PyProof.Rows.boot_tuple (Ü (ï (ÿ (è (vS T) T.aR hr Ā (ø (ÿ (ŵ (Í 0) (ό œ) be)) (Ċ 1 ð))))) ê))) (å (Ϗ (oN (aX (ï (ÿ (è (N9 T) T.xi hr Ā (Ċ 2 ð)))))) (Ĝ (ϐ (C:= "BadRow") rfl rfl Ϻ T.ū (gB T) hr.mo rfl (Z3 T) T.ù.b Ā (Ç (v_var 1) ë))) Ĥ) (aa (Au 2)))))
def Ob(T:Tx K mg a):Ě P w K mg base (ϭ P w) 6 a.Jz a.Kc ["words","row","days"] (MY ⟨K,Ē a⟩ 3 jq):=by refine S2 T.mJ.F NK λ_ _ _ _ _ _ hr hu=>?_;exact nW (PW.pt (w_or (bR hu (ï (vc 2 T.ż (pv 2))) Ñ) (lW (bR hu (ï (Ec 2 T.ż (MX (pv 2)))) (ï (kL (.int 24) (ĸ (v:=.int 24) rfl T.vy ⟨_,rfl⟩))))))) (Ĝ (ϐ (C:= "BadRow") rfl rfl Ϻ T.ū (gB T) hr.mo rfl (Z3 T) T.ù.b Ā (Ç (v_var 1) ë))) (MV (MX (pv 2)) (ÿ (è (Oa T) T.mH hr Ā (Ċ 0 (Ċ 1 ð)))))
def Oc(T:Tx K mg a):Ě P w K mg base (ϭ P w) 2 a.JA a.Kd ["word"] (bM ⟨K,Ē a⟩ 1 A2):=by refine ύ T.sq.F NL λ_ _ _ _ _ _ hr _=>?_;exact aa (è (E3 T) T.gn hr Ā (Ċ 0 (ø (kL (.str "abcdefghijklmnopqrstuvwxyz") (ĸ (v:=.str "abcdefghijklmnopqrstuvwxyz") rfl T.BU ⟨_,rfl⟩)) (ø (kL (.int 8) (ĸ (v:=.int 8) rfl T.qb ⟨_,rfl⟩)) ð))))
def Od(T:Tx K mg a):Ě P w K mg base (ϭ P w) 5 a.JB a.Ke ["words","row"] (bM ⟨K,Ē a⟩ 2 pI):=by refine ύ T.pY.F EZ λ_ _ _ _ _ _ hr hu=>?_;exact å (Ϗ (PW.pt (w_or (D5 hu (ï (ź ő Ů T.ż ķ (Ü (Í 0) ê))) Ñ) (lW (oN (aX (ï (ÿ (è (Oc T) T.sq hr Ā (ø (bN (Í 0) Ñ) ð))))))))) (Ĝ (ϐ (C:= "BadRow") rfl rfl Ϻ T.ū (gB T) hr.mo rfl (Z3 T) T.ù.b Ā (Ç (v_var 1) ë))) Ĥ) (ů EZ (jf (bN (ï (ÿ (è (vS T) T.aR hr Ā (ø (ÿ (ŵ (Í 0) (ό œ) be)) (Ċ 1 ð))))) Ñ)) (å (Ϗ (oN (P1 ca ca bZ bZ Ñ (Í 2) (ï (kL (.int 1000000000) (ĸ (v:=.int 1000000000) rfl T.vx ⟨_,rfl⟩))))) (Ĝ (ϐ (C:= "BadRow") rfl rfl Ϻ T.ū (gB T) hr.mo rfl (Z3 T) T.ù.b Ā (Ç (v_var 1) ë))) Ĥ) (aa (MP (AN (bN (Í 0) Ñ) (AN (v_var 2) (MO (ĩ ë))))))))
def Oe(T:Tx K mg a):Ě P w K mg base (ϭ P w) 6 a.JC a.Kf ["words","row","days"] (MY ⟨K,Ē a⟩ 3 gw):=by refine S2 T.pZ.F E_ λ_ _ _ _ _ _ hr hu=>?_;exact nW (PW.pt (w_or (aX (ï (ÿ (è (E4 T) T.eN hr Ā (Ċ 2 ð))))) (lW (bR hu (ï (vc 2 T.ż (pv 2))) (ï (kL (.int 12) (ĸ (v:=.int 12) rfl T.xj ⟨_,rfl⟩))))))) (Ĝ (ϐ (C:= "BadRow") rfl rfl Ϻ T.ū (gB T) hr.mo rfl (Z3 T) T.ù.b Ā (Ç (v_var 1) ë))) (QG (i:=3) E_.nd rfl (ĕ rfl) (è (Od T) T.pY hr Ā (Ċ 0 (Ċ 1 ð))) (nW (MM 3 (df yA (yz hu) (Ŕ (Í 3) Ñ) (ï (ÿ (AS ["name","times","turns"] [] 3 (Ó Ek) rfl rfl (QD 2) (λ_ _ _ _ _=>(QE (i:=0) (j:=1) (k:=2) rfl (show(["name","times","turns"]:List Str).Nodup by decide +kernel) rfl rfl rfl (ĕ rfl) (ĕ rfl) (ĕ rfl) (fx:=ĉ rfl) (fy:=ĉ rfl) (fz:=ĉ rfl))) (λ_ _ _ _ _=>ϫ) (λ_ _ _ _ _=>(v_var 0)) trivial))) (by with_unfolding_all rfl))) (Ĝ (ϐ (C:= "BadRow") rfl rfl Ϻ T.ū (gB T) hr.mo rfl (Z3 T) T.ù.b Ā (Ç (v_var 1) ë))) (MU (pv 2) (pv 3))))
def qg(T:Tx K mg a):Ě P w K mg base (ϭ P w) 1 a.JD a.Kg ["number"] (bM ⟨K,Ē a⟩ 1 mq):=by refine ύ T.bj.F NM λ_ _ _ _ _ _ _ _=>?_;exact ş (rE ca ca bZ bZ (ï (UF Mf LB (ï (kL (.int 1000000000) (ĸ (v:=.int 1000000000) rfl T.ll ⟨_,rfl⟩))))) (Í 0) (ï (kL (.int 1000000000) (ĸ (v:=.int 1000000000) rfl T.ll ⟨_,rfl⟩))))
def E6(T:Tx K mg a):Ě P w K mg base (ϭ P w) 1 a.JE a.Kh ["number"] (bM ⟨K,Ē a⟩ 1 wX):=by refine ύ T.ig.F NO λ_ _ _ _ _ _ _ _=>?_;exact ş (rE ca ca bZ bZ Ñ (Í 0) (ï (kL (.int 1000000000) (ĸ (v:=.int 1000000000) rfl T.jw ⟨_,rfl⟩))))
def Of(T:Tx K mg a):Ě P w K mg base (ϭ P w) 2 a.JF a.Ki ["numbers"] (bM ⟨K,Ē a⟩ 1 wY):=by refine ύ T.lh.F NP λ_ _ _ _ _ _ hr hu=>?_;exact ş (v_and (v_eq hu (ï (ź ő Ů T.ż ķ (Ü (Í 0) ê))) Ñ) (v_and (ÿ (è (qg T) T.bj hr Ā (ø (bN (Í 0) Ñ) ð))) (v_and (ÿ (è (qg T) T.bj hr Ā (ø (bN (Í 0) Ñ) ð))) (gX (ÿ (è (E6 T) T.ig hr Ā (ø (bN (Í 0) Ñ) ð)))))))
def E7(T:Tx K mg a):Ě P w K mg base (ϭ P w) 1 a.mQ a.BK ["self","word","numbers"] (DA ⟨K,Ē a⟩ 3 "Post" vn):=by refine Mm (cm:=Ē a) (mb:=gx) T.Ğ.F xy rfl rfl rfl λĺ A outer s H E hr=>?_;have hu:=hr.units;exact å (aB ["Thing","Post","Fence","Sail","Cloth","House"] (Zh T) (pv 0) (v_var 1)) (Ĝ (aB ["Thing","Post","Fence","Sail","Cloth","House"] (Z9 T) (pv 0) (ÿ (uZ cS cT T.gq cA (Ü (Í 2) ê)))))
def BV(T:Tx K mg a):Ě P w K mg base (ϭ P w) 1 a.mQ a.BK ["self","word","numbers"] (DA ⟨K,Ē a⟩ 3 "Fence" pJ):=by refine Mm (cm:=Ē a) (mb:=gx) T.Ğ.F xy rfl rfl rfl λĺ A outer s H E hr=>?_;have hu:=hr.units;exact å (aB ["Thing","Post","Fence","Sail","Cloth","House"] (Zh T) (pv 0) (v_var 1)) (Ĝ (aB ["Thing","Post","Fence","Sail","Cloth","House"] (Z9 T) (pv 0) (ÿ (uZ cS cT T.gq cA (Ü (Í 2) ê)))))
def E8(T:Tx K mg a):Ě P w K mg base (ϭ P w) 1 a.mQ a.BK ["self","word","numbers"] (DA ⟨K,Ē a⟩ 3 "Sail" vo):=by refine Mm (cm:=Ē a) (mb:=gx) T.Ğ.F xy rfl rfl rfl λĺ A outer s H E hr=>?_;have hu:=hr.units;exact å (aB ["Thing","Post","Fence","Sail","Cloth","House"] (Zh T) (pv 0) (v_var 1)) (Ĝ (aB ["Thing","Post","Fence","Sail","Cloth","House"] (Z9 T) (pv 0) (ÿ (uZ cS cT T.gq cA (Ü (Í 2) ê)))))
def BW(T:Tx K mg a):Ě P w K mg base (ϭ P w) 1 a.mQ a.BK ["self","word","numbers"] (DA ⟨K,Ē a⟩ 3 "Cloth" pK):=by refine Mm (cm:=Ē a) (mb:=gx) T.Ğ.F xy rfl rfl rfl λĺ A outer s H E hr=>?_;have hu:=hr.units;exact å (aB ["Thing","Post","Fence","Sail","Cloth","House"] (Zh T) (pv 0) (v_var 1)) (Ĝ (aB ["Thing","Post","Fence","Sail","Cloth","House"] (Z9 T) (pv 0) (ÿ (uZ cS cT T.gq cA (Ü (Í 2) ê)))))
def BX(T:Tx K mg a):Ě P w K mg base (ϭ P w) 1 a.mQ a.BK ["self","word","numbers"] (DA ⟨K,Ē a⟩ 3 "House" pL):=by refine Mm (cm:=Ē a) (mb:=gx) T.Ğ.F xy rfl rfl rfl λĺ A outer s H E hr=>?_;have hu:=hr.units;exact å (aB ["Thing","Post","Fence","Sail","Cloth","House"] (Zh T) (pv 0) (v_var 1)) (Ĝ (aB ["Thing","Post","Fence","Sail","Cloth","House"] (Z9 T) (pv 0) (ÿ (uZ cS cT T.gq cA (Ü (Í 2) ê)))))
def E9(T:Tx K mg a):Ě P w K mg base (ϭ P w) 2 a.JG a.Kj ["numbers"] (bM ⟨K,Ē a⟩ 1 sj):=by refine ύ T.dB.F NQ λ_ _ _ _ _ _ hr hu=>?_;exact ş (v_and (v_eq hu (ï (ź ő Ů T.ż ķ (Ü (Í 0) ê))) Ñ) (v_and (ź (oE rfl) oW T.xl kj (Ü (ï (ÿ (kT (lX (ÿ (ŵ (Í 0) be (ό œ)))) gH ϫ (ÿ (è (qg T) T.bj hr jG (Ċ 0 ð)))))) ê)) (gX (ÿ (è (E6 T) T.ig hr Ā (ø (bN (Í 0) Ñ) ð))))))
def Og(T:Tx K mg a):Ě P w K mg base (ϭ P w) 3 a.JH a.Kk ["numbers"] (bM ⟨K,Ē a⟩ 1 wZ):=by refine ύ T.ju.F NR λ_ _ _ _ _ _ hr hu=>?_;exact ş (v_and (ÿ (è (E9 T) T.dB hr Ā (Ċ 0 ð))) (gX (lU HP (CT hu) (ï (ÿ (ŵ (Í 0) be (ό œ)))) (ï (ÿ (ŵ (Í 0) (ό œ) (ό œ)))) (ŷ _))))
def Kx(T:Tx K mg a):Ě P w K mg base (ϭ P w) 3 a.Rb a.Rk ["numbers"] (bM ⟨K,Ē a⟩ 1 BJ):=by refine ύ T.ϕ.F Ru λ_ _ _ _ _ _ hr _=>?_;exact ş (v_and (ÿ (è (E9 T) T.dB hr Ā (Ċ 0 ð))) (v_and (lU ww wq (Ŕ (Í 0) Ñ) (Ŕ (Í 0) Ñ) (ŷ _)) (gX (lU ww wq (Ŕ (Í 0) Ñ) (Ŕ (Í 0) Ñ) (ŷ _)))))
def RA(T:Tx K mg a):Ě P w K mg base (ϭ P w) 2 a.Rc a.Rl ["numbers"] (bM ⟨K,Ē a⟩ 1 GZ):=by refine ύ T.eD.F Rv λ_ _ _ _ _ _ hr _=>?_;exact ş (v_and (ÿ (è (qg T) T.bj hr Ā (ø (bN (Í 0) Ñ) ð))) (v_and (ÿ (è (qg T) T.bj hr Ā (ø (bN (Í 0) Ñ) ð))) (gX (rE ca ca bZ bZ Ñ (Ŕ (Í 0) Ñ) (ï (kL (.int 1000000000) (ĸ (v:=.int 1000000000) rfl T.jw ⟨_,rfl⟩)))))))
def Oh(T:Tx K mg a):Ě P w K mg base (ϭ P w) 3 a.JI a.Kl ["numbers"] (bM ⟨K,Ē a⟩ 1 w_):=by refine ύ T.jv.F NT λ_ _ _ _ _ _ hr hu=>?_;exact ş (v_and (v_eq hu (ï (ź ő Ů T.ż ķ (Ü (Í 0) ê))) Ñ) (gX (ź (oE rfl) oW T.xl kj (Ü (ï (ÿ (kT (lX (aO (Ç œ (Ç œ (Ç œ ë))))) gH ϫ (ÿ (è (RA T) T.eD hr jG (ø (ÿ (ŵ (Í 0) (ό (v_var 1)) (ό (v_add (Í 1) Ñ)))) ð)))))) ê))))
def Oi(T:Tx K mg a):Ě P w K mg base (ϭ P w) 4 a.JJ a.Km ["word","numbers"] (bM ⟨K,Ē a⟩ 2 lc):=by refine ύ T.p_.F NU λ_ _ _ _ _ _ hr hu=>?_;exact å (Ϗ (PW.pt (w_and (bR hu (Í 0) Ź) (gW (aX (ï (ÿ (è (Of T) T.lh hr Ā (Ċ 1 ð)))))))) (ş (jF T.Nv (E7 T) bf hr.mo rfl (Z2z T) T.Ğ.b Ā (Ċ 0 (Ċ 1 ð)))) Ĥ) (å (Ϗ (PW.pt (w_and (bR hu (Í 0) Ź) (gW (aX (ï (ÿ (è (Og T) T.ju hr Ā (Ċ 1 ð)))))))) (ş (jF T.G7 (BV T) bf hr.mo rfl (Z24 T) T.Ğ.b Ā (Ċ 0 (Ċ 1 ð)))) Ĥ) (å (Ϗ (PW.pt (w_and (bR hu (Í 0) Ź) (gW (aX (ï (ÿ (è (Kx T) T.ϕ hr Ā (Ċ 1 ð)))))))) (ş (jF T.Nw (E8 T) bf hr.mo rfl (Z2A T) T.Ğ.b Ā (Ċ 0 (Ċ 1 ð)))) Ĥ) (å (Ϗ (PW.pt (w_and (bR hu (Í 0) Ź) (gW (aX (ï (ÿ (è (Oh T) T.jv hr Ā (Ċ 1 ð)))))))) (ş (jF T.G8 (BW T) bf hr.mo rfl (Z25 T) T.Ğ.b Ā (Ċ 0 (Ċ 1 ð)))) Ĥ) (å (Ϗ (PW.pt (w_and (bR hu (Í 0) Ź) (gW (aX (ï (ÿ (è (Kx T) T.ϕ hr Ā (Ċ 1 ð)))))))) (ş (jF T.Ha (BX T) bf hr.mo rfl (Z26 T) T.Ğ.b Ā (Ċ 0 (Ċ 1 ð)))) Ĥ) (Ĝ (DH (C:= "BadThing") rfl rfl Ϻ rfl (ZI T) T.yR))))))
def Oj(T:Tx K mg a):Ě P w K mg base (ϭ P w) 5 a.JK a.Kn ["words","row"] (bM ⟨K,Ē a⟩ 2 pM):=by refine ύ T.li.F E0 λ_ _ outer _ _ _ hr _=>?_;exact ů E0 (è (vS T) T.aR hr Ā (ø (ÿ (ŵ (Í 0) (ό œ) be)) (Ċ 1 ð))) (Ĝ (HR ⟨_,outer,rfl,rfl,rfl⟩ (λ_ _ _ TZ=>(aa (è (Oi T) T.p_ hr TZ (ø (bN (Í 0) Ñ) (Ċ 2 ð))))) (GG (Dn:= "BadThing") (C:= "BadRow") rfl (ZI T) T.yV T.xv T.xw GD rfl T.ū (ZV T rfl rfl rfl rfl hr) rfl (Z3 T) (λe=>(Ç (v_var 1) ë)) HQ)))
def Ol(T:Tx K mg a):Ě P w K mg base (ϭ P w) 6 a.JL a.Ko ["words","row","things","days"] (MY ⟨K,Ē a⟩ 4 ie):=by refine S2 T.lj.F NV λ_ _ _ _ _ _ hr hu=>?_;exact nW (PW.pt (w_or (df Di CO (ï (vc 3 T.ż (pv 3))) Ñ (ŷ _)) (lW (bR hu (ï (ź ő Ů T.ż ķ (Ü (Í 2) ê))) (ï (kL (.int 40) (ĸ (v:=.int 40) rfl T.qI ⟨_,rfl⟩))))))) (Ĝ (ϐ (C:= "BadRow") rfl rfl Ϻ T.ū (gB T) hr.mo rfl (Z3 T) T.ù.b Ā (Ç (v_var 1) ë))) (MT (pv 2) (ÿ (è (Oj T) T.li hr Ā (Ċ 0 (Ċ 1 ð)))))
def Om(T:Tx K mg a):Ě P w K mg base (ϭ P w) 7 a.JM a.Kp ["words","row","things","days"] (MY ⟨K,Ē a⟩ 4 ł):=by refine S2 T.gp.F NW λ_ _ _ _ _ _ hr hu=>?_;exact QF (df yA (yz hu) (Ŕ (Í 0) Ñ) (ï (aO (Ç û (Ç û ë)))) (by with_unfolding_all rfl)) (w_call (Ob T) T.mJ hr Ā (Ϧ 0 (pv 0) (Ϧ 1 (pv 1) (Ϧ 3 (pv 3) vb)))) (QF (bR hu (Ŕ (Í 0) Ñ) Ź) (w_call (Oe T) T.pZ hr Ā (Ϧ 0 (pv 0) (Ϧ 1 (pv 1) (Ϧ 3 (pv 3) vb)))) (w_call (Ol T) T.lj hr Ā (Ϧ 0 (pv 0) (Ϧ 1 (pv 1) (Ϧ 2 (pv 2) (Ϧ 3 (pv 3) vb))))))
def yX(T:Tx K mg a):Ě P w K mg base (ϭ P w) 8 a.JN a.Kq ["text"] (bM ⟨K,Ē a⟩ 1 aZ):=by refine ύ T.eE.F jO λ_ _ _ _ _ _ hr _=>?_;exact å (Qy jO (lX (ÿ (GS ϶ fM nE kW kU (Í 0) (Ü Ź ê)))) gH ϫ (ÿ (GS ϶ fM nE kW kU (Í 0) (Ü Ź ê)))) (ů jO (è (N8 T) T.mG hr Ā (ø (bN (Í 1) Ñ) (ø œ ð))) (VS (uy jO.nd (i:=3) rfl (ĕ rfl) (uB aN)) (uy jO.nd (i:=4) rfl (ĕ rfl) (uB aN)) aL rfl (GP rfl T.xp (VG (ÿ (ŵ (Í 1) (ό œ) be)))) (ux rfl (eU (iQ jO.nd (i:=5) rfl (ĕ rfl)) (eU (iQ jO.nd (i:=6) rfl (ĕ rfl)) uw rfl) rfl) rfl rfl) (fX (ť (wS (Om T) hr.mo rfl T.gp.m T.gp.F.kp T.gp.b Ā (Ϧ 6 (pv 6) (Ϧ 5 (pv 5) (Ϧ 3 (pv 3) (Ϧ 4 (pv 4) vb))))))) (å (Ϗ (aX (ï (ÿ (è (E4 T) T.eN hr Ā (Ċ 4 ð))))) (Ĝ (ϐ (C:= "BadRow") rfl rfl Ϻ T.ū (gB T) hr.mo rfl (Z3 T) T.ù.b Ā (Ç (ź ő Ů T.ż ķ (Ü (Í 1) ê)) ë))) Ĥ) (ş (jF T.Nx (E5 T) bf hr.mo rfl (Z2B T) T.gz.b Ā (ø (bN (Í 2) Ñ) (ø (bN (Í 2) Ñ) (Ċ 3 (Ċ 4 ð))))))) (λ_ _=>rfl)))
def Fa(T:Tx K mg a):Ě P w K mg base (ϭ P w) 9 a.Nh a.Rm ["self","text"] (DA ⟨K,Ē a⟩ 2 "Desk" vp):=by refine Mm (cm:=Ē a) (mb:=EI) T.gA.F Rx rfl rfl rfl λĺ A outer s H E hr=>?_;have hu:=hr.units;exact Ĝ (aB ["Desk"] (Z1E T) (pv 0) (ÿ (è (yX T) T.eE hr Ā (Ċ 1 ð))))
def Fb(T:Tx K mg a):Ě P w K mg base (ϭ P w) 11 a.JO a.Kr ["_law_text","_law_at_desk"] (bM ⟨K,Ē a⟩ 2 xa):=by refine ύ T.dC.F lN λ_ _ outer _ _ _ hr _=>?_;exact ů lN (jf lS) (å (HR ⟨_,outer,rfl,rfl,rfl⟩ (λ_ _ _ TZ=>(Ĝ (Ϗ (aX (Í 1)) (Ĝ (C7 (jF T.Nz (Fa T) bf hr.mo rfl (Z2C T) T.gA.b TZ (Ċ 0 ð)))) (Ĝ (C7 (ÿ (è (yX T) T.eE hr TZ (Ċ 0 ð)))))))) (Vm (Dn:= "YardError") (i:=3) lN.nd rfl rfl rfl (Z0R T) T.xx T.vM T.vN (λe=>(Ĝ (GL lN (jf (v_var 3))))) HQ)) (å (Ϗ (PW.pt (w_or (oN (aX (ï (ź cW (cX T.iC T.iT T.iD T.iN) T.Ŏ cB (Ü (Í 2) (Ü (ï (kL (.cls "BadRow") (ĸ (v:=.ref (Ē a "BadRow")) rfl (Z3 T) rfl))) ê)))))) (lW (oN (aX (ï (ź cW (cX T.iC T.iT T.iD T.iN) T.Ŏ cB (Ü (Í 2) (Ü (ï (kL (.ty "ValueError") (z_ (v:=.ty "ValueError") rfl T.vz (show bv "ValueError" =some (.type "ValueError") by kernel_rfl) rfl))) ê))))))))) (ş lS) Ĥ) (ů lN (ĩ (Ç (ź cW (cX T.iC T.iT T.iD T.iN) T.Ŏ cB (Ü (Í 2) (Ü (ï (kL (.cls "NoNumber") (ĸ (v:=.ref (Ē a "NoNumber")) rfl (Z19 T) rfl))) ê))) (Ç (ź cW (cX T.iC T.iT T.iD T.iN) T.Ŏ cB (Ü (Í 2) (Ü (ï (kL (.cls "BadThing") (ĸ (v:=.ref (Ē a "BadThing")) rfl (ZI T) rfl))) ê))) (Ç (ź cW (cX T.iC T.iT T.iD T.iN) T.Ŏ cB (Ü (Í 2) (Ü (ï (kL (.cls "NoStone") (ĸ (v:=.ref (Ē a "NoStone")) rfl (Z1s T) rfl))) ê))) ë)))) (ů lN (ci (Í 4) (ï (ÿ (ĩ (Ç (ź cW (cX T.iC T.iT T.iD T.iN) T.Ŏ cB (Ü (Í 2) (Ü (ï (kL (.cls "NoTurn") (ĸ (v:=.ref (Ē a "NoTurn")) rfl (Z1D T) rfl))) ê))) (Ç (ź cW (cX T.iC T.iT T.iD T.iN) T.Ŏ cB (Ü (Í 2) (Ü (ï (kL (.cls "NoRow") (ĸ (v:=.ref (Ē a "NoRow")) rfl (Z22 T) rfl))) ê))) (Ç (ź cW (cX T.iC T.iT T.iD T.iN) T.Ŏ cB (Ü (Í 2) (Ü (ï (kL (.cls "NoDay") (ĸ (v:=.ref (Ē a "NoDay")) rfl (Z23 T) rfl))) ê))) ë))))))) (å (Ϗ (PW.pt (w_or (aX (ï (ź (LM rfl) Mh T.Ro PyProof.Rows.boot_any (Ü (Í 4) ê)))) (lW (aX (ï (ź cW (cX T.iC T.iT T.iD T.iN) T.Ŏ cB (Ü (ï (DK ["BadRow"] ⟨⟨T.lm,T.cY⟩,trivial⟩ (v_var 2))) (Ü (ï (kL (.ty "bool") (z_ (v:=.ty "bool") rfl T.No PyProof.Rows.boot_bool rfl))) ê)))))))) (ş lS) Ĥ) (ş (DK ["BadRow"] ⟨⟨T.lm,T.cY⟩,trivial⟩ (v_var 2))))))))
def On(T:Tx K mg a):Ě P w K mg base (ϭ P w) 12 a.JP a.EN ["_law_script"] (bM ⟨K,Ē a⟩ 1 pP):=by refine ύ T.ER.F vP λ_ _ _ _ _ _ hr hu=>?_;exact å (Db (ÿ (è (N_ T) T.jr hr Ā (ø (ÿ (è (N3 T) T.mB hr Ā (Ċ 0 ð))) (ø (v_mod (ï (ÿ (è (vQ T) T.bP hr Ā (Ċ 0 (ø œ ð))))) Ñ) (ø (ÿ (è (vQ T) T.bP hr Ā (Ċ 0 (ø œ ð)))) ð))))) (D0 rfl (ϋ (gk vP) (ϋ (gk vP) lF)))) (ů vP (jf (uT ϶ fN fO gi f_ Ź (Ü (Í 2) ê))) (å (Ϗ (df AA uz (Í 3) AO (ŷ _)) (ş (v_eq hu (ï (ÿ (è (N5 T) T.mE hr Ā (ø (ÿ (è (yX T) T.eE hr Ā (Ċ 1 ð))) ð)))) (Í 1))) Ĥ) (ş (v_and (v_eq hu (ï (ÿ (è (Fb T) T.dC hr Ā (Ċ 1 (ø LW ð))))) (Í 3)) (gX (v_eq hu (ï (ÿ (è (Fb T) T.dC hr Ā (Ċ 1 (ø LW ð))))) (Í 3)))))))
end
def Sl(s:az)(ps:List PV):Prop:=s=.sh (.lst ps)\/s=.bw ps
def Sl.lend{s:az}{ps:List PV}(h:Sl s ps):bL s=some s:=by rcases h with rfl|rfl<;>rfl
def Sl.it{s:az}{ps:List PV}(h:Sl s ps){i:Nat}{O:ć}(e:O[i]?=some s):ac i O=.ok ps O:= by
 rcases h with rfl|rfl<;>simp[e]
theorem ZW:∀l:List Bool,Ϩ (l.map .bl)=some l
 | []=>rfl
 |x::l=>by rw[Ý,Ϩ,ZW l];rfl
def X7(l:List Bool):oV [.lst (l.map .bl)]=some (.bl (l.all id)):=by show(Ϩ (l.map .bl)).map (λbs=>PV.bl (bs.all id))=_;rw[ZW];rfl
def Ky(s:az)(ps:List PV):Prop:=s=.sh (.lst ps)\/s=.bw ps
def aS(x:Int):Bool:=decide (-1000000000<=x/\x<=1000000000)
def BY(x:Int):Bool:=decide (1<=x/\x<=1000000000)
def xH(x:Int):Bool:=decide (0<=x/\x<=1000000000)
def V7(x:Int):mq [.sh (.int x)]=.ret (.sh (.bl (aS x))):=by unfold aS;by_cases h1: -1000000000<=x<;>by_cases h2:x<=1000000000<;>simp[mq,ED,Ê,h1,h2]
def X8(x:Int):wX [.sh (.int x)]=.ret (.sh (.bl (BY x))):=by unfold BY;by_cases h1:1<=x<;>by_cases h2:x<=1000000000<;>simp[wX,EE,Ê,h1,h2]
def Zb:List Int->Bool
 | [p,q,h]=>aS p && aS q && BY h
 |_=>false
def Z8:List Int->Bool
 | [x,y,u,v,h]=>aS x && aS y && aS u && aS v && BY h
 |_=>false
def Z6:List Int->Bool
 | [x,y,u,v,h]=>Z8 [x,y,u,v,h] && !(decide (x=u) && decide (y=v))
 |_=>false
def Z5:List Int->Bool
 | [x,y,u,v,h]=>Z8 [x,y,u,v,h] && decide (x<u) && decide (y<v)
 |_=>false
def Z7:List Int->Bool
 | [a,b,c,d,e,f,g,h,i]=>aS a && aS b && xH c && (aS d && aS e && xH f) && (aS g && aS h && xH i)
 |_=>false
def Z2X(a b c:Bool):oV [.lst [.bl a,.bl b,.bl c]]=some (.bl (a && b && c)):=by cases a<;>cases b<;>cases c<;>rfl
def Z2Y(a b c d:Bool):oV [.lst [.bl a,.bl b,.bl c,.bl d]]=some (.bl (a && b && c && d)):=by cases a<;>cases b<;>cases c<;>cases d<;>rfl
def Z0N{xs:List Int}{sl:az}(hs:Ky sl (xs.map .int)):wY [sl]=.ret (.sh (.bl (Zb xs))):=by
 by_cases hl:xs.length=3
 ·match xs,hl with
  | [a,b,c],_=>have h:Zb [a,b,c]=(aS a && aS b && BY c):=rfl;rw[h];rcases hs with rfl|rfl<;>cases ea:aS a<;>cases eb:aS b<;>cases ec:BY c<;>simp[wY,yG,Ê,V7,X8,ea,eb,ec]
 ·have h:Zb xs=false:=by
   unfold Zb;split
   ·simp at hl
   ·rfl
  rw[h];have ON:¬((xs.length:Nat):Int)=3:=by lia
  rcases hs with rfl|rfl<;>simp[wY,yG,Ê,ON]
def X9{xs:List Int}{sl:az}(hs:Ky sl (xs.map .int)):sj [sl]=.ret (.sh (.bl (Z8 xs))):=by
 by_cases hl:xs.length=5
 ·match xs,hl with
  | [a,b,c,d,e],_=>have h:Z8 [a,b,c,d,e]=(aS a && aS b && aS c && aS d && BY e):=rfl;rw[h];have hc:dL ([.int a,.int b,.int c,.int d,.int e]:List PV) none (some 4)=[.int a,.int b,.int c,.int d]:=rfl;have hb:=Z2Y (aS a) (aS b) (aS c) (aS d);rcases hs with rfl|rfl<;>cases ea:(aS a && aS b && aS c && aS d)<;>cases ec:BY e<;>rw[ea] at hb<;>simp[sj,yH,Ê,V7,X8,hc,Ũ,hb,ec]
 ·have h:Z8 xs=false:=by
   unfold Z8;split
   ·simp at hl
   ·rfl
  rw[h];have ON:¬((xs.length:Nat):Int)=5:=by lia
  rcases hs with rfl|rfl<;>simp[sj,yH,Ê,ON]
def Z2Z(a b c d:Int):jC (.lst [.int a,.int b]) (.lst [.int c,.int d])=some (.bl (!(decide (a=c) && decide (b=d)))):=by
 have h:bT (.lst [.int a,.int b]) (.lst [.int c,.int d])=(decide (a=c) && decide (b=d)):=by simp[bT,lG];rw[jZ];simp
 unfold jC qB;rw[h];simp[Ž,aE,qT,jB]
def Ya{xs:List Int}(hl:¬xs.length=5):Z8 xs=false:=by
 unfold Z8;split
 ·simp at hl
 ·rfl
def V8{s:az}{ps:List PV}(h:Ky s ps):bL s=some s:=by rcases h with rfl|rfl<;>rfl
def Z27{xs:List Int}{sl:az}(hs:Ky sl (xs.map .int)):wZ [sl]=.ret (.sh (.bl (Z6 xs))):=by
 have he:=X9 hs;by_cases hl:xs.length=5
 ·match xs,hl with
  | [a,b,c,d,e],_=>have h:Z6 [a,b,c,d,e]=(Z8 [a,b,c,d,e] && !(decide (a=c) && decide (b=d))):=rfl;rw[h];have h1:dL ([.int a,.int b,.int c,.int d,.int e]:List PV) none (some 2)=[.int a,.int b]:=rfl;have h2:dL ([.int a,.int b,.int c,.int d,.int e]:List PV) (some 2) (some 4)=[.int c,.int d]:=rfl;have h3:=Z2Z a b c d;generalize Z8 [a,b,c,d,e]=q at*;generalize (!(decide (a=c) && decide (b=d)))=r at*;rcases hs with rfl|rfl<;>cases q<;>simp_all [wZ,yI,Ê]
 ·have h:Z6 xs=false:=by
   unfold Z6;split
   ·simp at hl
   ·rfl
  rw[h];rw[Ya hl] at he;simp[wZ,yI,Ê,V8 hs,he]
def Z2D{xs:List Int}{sl:az}(hs:Ky sl (xs.map .int)):BJ [sl]=.ret (.sh (.bl (Z5 xs))):=by
 have he:=X9 hs;by_cases hl:xs.length=5
 ·match xs,hl with
  | [a,b,c,d,e],_=>have h:Z5 [a,b,c,d,e]=(Z8 [a,b,c,d,e] && decide (a<c) && decide (b<d)):=rfl;rw[h];generalize Z8 [a,b,c,d,e]=q at*;rcases hs with rfl|rfl<;>simp only[Ý,Ľ] at he<;>cases q<;>by_cases h1:a<c<;>by_cases h2:b<d<;>simp[BJ,EG,Ê,he,h1,h2]
 ·have h:Z5 xs=false:=by
   unfold Z5;split
   ·simp at hl
   ·rfl
  rw[h];rw[Ya hl] at he;simp[BJ,EG,Ê,V8 hs,he]
def ZX(a b c:Int):GZ [.sh (.lst [.int a,.int b,.int c])]=.ret (.sh (.bl (aS a && aS b && xH c))):=by unfold xH;cases ea:aS a<;>cases eb:aS b<;>by_cases h1:0<=c<;>by_cases h2:c<=1000000000<;>simp[GZ,Jd,Ê,V7,ea,eb,h1,h2]
def Z28{xs:List Int}{sl:az}(hs:Ky sl (xs.map .int)):w_ [sl]=.ret (.sh (.bl (Z7 xs))):=by
 by_cases hl:xs.length=9
 ·match xs,hl with
  | [a,b,c,d,e,f,g,h,i],_=>have hc:Z7 [a,b,c,d,e,f,g,h,i]=((aS a && aS b && xH c) && (aS d && aS e && xH f) && (aS g && aS h && xH i)):=rfl;rw[hc];have h1:dL ([.int a,.int b,.int c,.int d,.int e,.int f,.int g,.int h,.int i]:List PV) (some 0) (some 3)=[.int a,.int b,.int c]:=rfl;have h2:dL ([.int a,.int b,.int c,.int d,.int e,.int f,.int g,.int h,.int i]:List PV) (some 3) (some 6)=[.int d,.int e,.int f]:=rfl;have h3:dL ([.int a,.int b,.int c,.int d,.int e,.int f,.int g,.int h,.int i]:List PV) (some 6) (some 9)=[.int g,.int h,.int i]:=rfl;have hb:=Z2X (aS a && aS b && xH c) (aS d && aS e && xH f) (aS g && aS h && xH i);have k1:=ZX a b c;have k2:=ZX d e f;have k3:=ZX g h i;generalize (aS a && aS b && xH c)=q1,(aS d && aS e && xH f)=q2,(aS g && aS h && xH i)=q3 at*;rcases hs with rfl|rfl<;>simp[w_,yJ,Ê,Ũ,h1,h2,h3,k1,k2,k3,hb]
 ·have h:Z7 xs=false:=by
   unfold Z7;split
   ·simp at hl
   ·rfl
  rw[h];have ON:¬((xs.length:Nat):Int)=9:=by lia
  rcases hs with rfl|rfl<;>simp[w_,yJ,Ê,ON]
def Zu(w:Str):String:=if w= "post" then "Post" else if w= "fence" then "Fence" else if w= "sail" then "Sail" else if w= "cloth" then "Cloth" else "House"
def Zp(C:String)(w:Str)(xs:List Int):PV:=.ins C ["word","numbers"] [.str w,.lst (xs.map .int)]
def Z2(w:Str)(xs:List Int):Bool:=if w= "post" then Zb xs else if w= "fence" then Z6 xs else if w= "sail" then Z5 xs else if w= "cloth" then Z7 xs else if w= "house" then Z5 xs else false
def wn:((Ä "word")=(Ä "numbers"))=False:=eq_false (by decide +kernel)
def ZJ{C:String}(hC:(["Thing","Post","Fence","Sail","Cloth","House"]:List String).contains C=true)(w:Str){xs:List Int}{sl:az}(hs:Ky sl (xs.map .int)):cb 3 3 C gx [.sh (.str w),sl]=.ok ["word","numbers"] [.str w,.lst (xs.map .int)]:=by rcases hs with rfl|rfl<;>simp[cb,gx,hX,IR.of,Ê,putN,jE,hC,wn,-List.contains_eq_mem,-kc]
def s1:Ĩ (Ä "post")=true:=by decide +kernel
def s2:Ĩ (Ä "fence")=true:=by decide +kernel
def s3:Ĩ (Ä "sail")=true:=by decide +kernel
def s4:Ĩ (Ä "cloth")=true:=by decide +kernel
def s5:Ĩ (Ä "house")=true:=by decide +kernel
def d12:(Ä "post" =Ä "fence")=False:=eq_false (by decide +kernel)
def d13:(Ä "post" =Ä "sail")=False:=eq_false (by decide +kernel)
def d14:(Ä "post" =Ä "cloth")=False:=eq_false (by decide +kernel)
def d15:(Ä "post" =Ä "house")=False:=eq_false (by decide +kernel)
def d23:(Ä "fence" =Ä "sail")=False:=eq_false (by decide +kernel)
def d24:(Ä "fence" =Ä "cloth")=False:=eq_false (by decide +kernel)
def d25:(Ä "fence" =Ä "house")=False:=eq_false (by decide +kernel)
def d34:(Ä "sail" =Ä "cloth")=False:=eq_false (by decide +kernel)
def d35:(Ä "sail" =Ä "house")=False:=eq_false (by decide +kernel)
def d45:(Ä "cloth" =Ä "house")=False:=eq_false (by decide +kernel)
def Z29{w:Str}(hw:Ĩ w=true){xs:List Int}{sl:az}(hs:Ky sl (xs.map .int)):lc [.sh (.str w),sl]=if Z2 w xs=true then .ret (.sh (Zp (Zu w) w xs)) else .exc ⟨"BadThing",[],[]⟩:=by
 have e1:=ϯ hw s1;have e2:=ϯ hw s2;have e3:=ϯ hw s3;have e4:=ϯ hw s4;have e5:=ϯ hw s5;have p1:=Z0N hs;have p2:=Z27 hs;have p3:=Z2D hs;have p4:=Z28 hs;have i1:vn [.sh (.str w),sl]=_:=ZJ (by decide) w hs;have i2:pJ [.sh (.str w),sl]=_:=ZJ (by decide) w hs;have i3:vo [.sh (.str w),sl]=_:=ZJ (by decide) w hs;have i4:pK [.sh (.str w),sl]=_:=ZJ (by decide) w hs;have i5:pL [.sh (.str w),sl]=_:=ZJ (by decide) w hs;have hle:=V8 hs;unfold Z2 Zu Zp;by_cases h1:w=Ä "post"
 ·have n2:¬w=Ä "fence" := λz=>(d12▸(h1.symm.trans z):False);have n3:¬w=Ä "sail" := λz=>(d13▸(h1.symm.trans z):False);have n4:¬w=Ä "cloth" := λz=>(d14▸(h1.symm.trans z):False);have n5:¬w=Ä "house" := λz=>(d15▸(h1.symm.trans z):False);rw[decide_eq_true h1] at e1;rw[decide_eq_false n2] at e2;rw[decide_eq_false n3] at e3;rw[decide_eq_false n4] at e4;rw[decide_eq_false n5] at e5;have hg:(if w=Ä "post" then Zb xs else if w=Ä "fence" then Z6 xs else if w=Ä "sail" then Z5 xs else if w=Ä "cloth" then Z7 xs else if w=Ä "house" then Z5 xs else false)=Zb xs:=by rw[if_pos h1]
  have hc:(if w=Ä "post" then "Post" else if w=Ä "fence" then "Fence" else if w=Ä "sail" then "Sail" else if w=Ä "cloth" then "Cloth" else "House")= "Post" := by rw[if_pos h1]
  rw[hg,hc];cases q:Zb xs<;>rw[q] at p1<;>simp[lc,jK,ce,Ê,e1,e2,e3,e4,e5,hle,p1,i1]
 ·skip
  by_cases h2:w=Ä "fence"
  ·have n1:=h1;have n3:¬w=Ä "sail" := λz=>(d23▸(h2.symm.trans z):False);have n4:¬w=Ä "cloth" := λz=>(d24▸(h2.symm.trans z):False);have n5:¬w=Ä "house" := λz=>(d25▸(h2.symm.trans z):False);rw[decide_eq_true h2] at e2;rw[decide_eq_false n1] at e1;rw[decide_eq_false n3] at e3;rw[decide_eq_false n4] at e4;rw[decide_eq_false n5] at e5;have hg:(if w=Ä "post" then Zb xs else if w=Ä "fence" then Z6 xs else if w=Ä "sail" then Z5 xs else if w=Ä "cloth" then Z7 xs else if w=Ä "house" then Z5 xs else false)=Z6 xs:=by rw[if_neg n1,if_pos h2]
   have hc:(if w=Ä "post" then "Post" else if w=Ä "fence" then "Fence" else if w=Ä "sail" then "Sail" else if w=Ä "cloth" then "Cloth" else "House")= "Fence" := by rw[if_neg n1,if_pos h2]
   rw[hg,hc];cases q:Z6 xs<;>rw[q] at p2<;>simp[lc,jK,ce,Ê,e1,e2,e3,e4,e5,hle,p2,i2]
  ·skip
   by_cases h3:w=Ä "sail"
   ·have n1:=h1;have n2:=h2;have n4:¬w=Ä "cloth" := λz=>(d34▸(h3.symm.trans z):False);have n5:¬w=Ä "house" := λz=>(d35▸(h3.symm.trans z):False);rw[decide_eq_true h3] at e3;rw[decide_eq_false n1] at e1;rw[decide_eq_false n2] at e2;rw[decide_eq_false n4] at e4;rw[decide_eq_false n5] at e5;have hg:(if w=Ä "post" then Zb xs else if w=Ä "fence" then Z6 xs else if w=Ä "sail" then Z5 xs else if w=Ä "cloth" then Z7 xs else if w=Ä "house" then Z5 xs else false)=Z5 xs:=by rw[if_neg n1,if_neg n2,if_pos h3]
    have hc:(if w=Ä "post" then "Post" else if w=Ä "fence" then "Fence" else if w=Ä "sail" then "Sail" else if w=Ä "cloth" then "Cloth" else "House")= "Sail" := by rw[if_neg n1,if_neg n2,if_pos h3]
    rw[hg,hc];cases q:Z5 xs<;>rw[q] at p3<;>simp[lc,jK,ce,Ê,e1,e2,e3,e4,e5,hle,p3,i3]
   ·skip
    by_cases h4:w=Ä "cloth"
    ·have n1:=h1;have n2:=h2;have n3:=h3;have n5:¬w=Ä "house" := λz=>(d45▸(h4.symm.trans z):False);rw[decide_eq_true h4] at e4;rw[decide_eq_false n1] at e1;rw[decide_eq_false n2] at e2;rw[decide_eq_false n3] at e3;rw[decide_eq_false n5] at e5;have hg:(if w=Ä "post" then Zb xs else if w=Ä "fence" then Z6 xs else if w=Ä "sail" then Z5 xs else if w=Ä "cloth" then Z7 xs else if w=Ä "house" then Z5 xs else false)=Z7 xs:=by rw[if_neg n1,if_neg n2,if_neg n3,if_pos h4]
     have hc:(if w=Ä "post" then "Post" else if w=Ä "fence" then "Fence" else if w=Ä "sail" then "Sail" else if w=Ä "cloth" then "Cloth" else "House")= "Cloth" := by rw[if_neg n1,if_neg n2,if_neg n3,if_pos h4]
     rw[hg,hc];cases q:Z7 xs<;>rw[q] at p4<;>simp[lc,jK,ce,Ê,e1,e2,e3,e4,e5,hle,p4,i4]
    ·skip
     by_cases h5:w=Ä "house"
     ·have n1:=h1;have n2:=h2;have n3:=h3;have n4:=h4;rw[decide_eq_true h5] at e5;rw[decide_eq_false n1] at e1;rw[decide_eq_false n2] at e2;rw[decide_eq_false n3] at e3;rw[decide_eq_false n4] at e4;have hg:(if w=Ä "post" then Zb xs else if w=Ä "fence" then Z6 xs else if w=Ä "sail" then Z5 xs else if w=Ä "cloth" then Z7 xs else if w=Ä "house" then Z5 xs else false)=Z5 xs:=by rw[if_neg n1,if_neg n2,if_neg n3,if_neg n4,if_pos h5]
      have hc:(if w=Ä "post" then "Post" else if w=Ä "fence" then "Fence" else if w=Ä "sail" then "Sail" else if w=Ä "cloth" then "Cloth" else "House")= "House" := by rw[if_neg n1,if_neg n2,if_neg n3,if_neg n4]
      rw[hg,hc];cases q:Z5 xs<;>rw[q] at p3<;>simp[lc,jK,ce,Ê,e1,e2,e3,e4,e5,hle,p3,i5]
     ·skip
      rw[decide_eq_false h1] at e1;rw[decide_eq_false h2] at e2;rw[decide_eq_false h3] at e3;rw[decide_eq_false h4] at e4;rw[decide_eq_false h5] at e5;rw[if_neg h1,if_neg h2,if_neg h3,if_neg h4,if_neg h5];simp[lc,jK,ce,Ê,e1,e2,e3,e4,e5]
abbrev P3:=Int×Int×Int
def c3(p:P3):PV:=.tup [.int p.1,.int p.2.1,.int p.2.2]
abbrev Th:=Str×List Int
def ij(t:Th):PV:=Zp (Zu t.1) t.1 t.2
def a_:Option P3->PV
 |none=>.non
 |some r=>c3 r
abbrev Dy:=Str×Int×List (Option P3)
def jV(d:Dy):PV:=.tup [.str d.1,.int d.2.1,.lst (d.2.2.map a_)]
def Zd(w h:Int)(T:List Th)(D:List Dy):PV:=.ins "Yard" ["width","height","things","days"] [.int w,.int h,.lst (T.map ij),.lst (D.map jV)]
def ywh:(Ä "width" =Ä "height")=False:=eq_false (by decide +kernel)
def ywt:(Ä "width" =Ä "things")=False:=eq_false (by decide +kernel)
def ywd:(Ä "width" =Ä "days")=False:=eq_false (by decide +kernel)
def yht:(Ä "height" =Ä "things")=False:=eq_false (by decide +kernel)
def yhd:(Ä "height" =Ä "days")=False:=eq_false (by decide +kernel)
def ytd:(Ä "things" =Ä "days")=False:=eq_false (by decide +kernel)
def y_w(w h:Int)(T:List Th)(D:List Dy):dm ["Yard"] (Ä "width") (Zd w h T D)=some (.int w):=by unfold dm Zd;simp
def y_h(w h:Int)(T:List Th)(D:List Dy):dm ["Yard"] (Ä "height") (Zd w h T D)=some (.int h):=by
 have:(Ä "height" == Ä "width")=false:=by decide +kernel
 unfold dm Zd;simp[ņ,this]
def y_t(w h:Int)(T:List Th)(D:List Dy):dm ["Yard"] (Ä "things") (Zd w h T D)=some (.lst (T.map ij)):=by
 have e1:(Ä "things" == Ä "width")=false:=by decide +kernel
 have e2:(Ä "things" == Ä "height")=false:=by decide +kernel
 unfold dm Zd;simp[ņ,e1,e2]
def y_d(w h:Int)(T:List Th)(D:List Dy):dm ["Yard"] (Ä "days") (Zd w h T D)=some (.lst (D.map jV)):=by
 have e1:(Ä "days" == Ä "width")=false:=by decide +kernel
 have e2:(Ä "days" == Ä "height")=false:=by decide +kernel
 have e3:(Ä "days" == Ä "things")=false:=by decide +kernel
 unfold dm Zd;simp[ņ,e1,e2,e3]
def nT(n:Int):List Nat:=(Ä (ϸ n)).cps.toList
def Yb(n:Int):Ä (ϸ n)=S (nT n):=bF (by simp[nT])
def V9(m:Nat):nT (m:Int)=(ų 10 m).map ϗ:=PySem.W.KIN.signs_num m
def Yc(m:Nat)(h:0<m):nT (-(m:Int))=45::(ų 10 m).map ϗ:=by obtain⟨k,rfl⟩:∃k,m=k+1:=⟨m-1,by lia⟩;unfold nT;rw[PyProof.Rows.signs_ofString];show("-" ++ Nat.repr (k+1)).toList.map ϗ=_;rw[String.toList_append,Nat.toList_repr];rfl
def Wa{m c:Nat}(h:c∈(ų 10 m).map ϗ):48<=c/\c<=57:=by obtain⟨ch,Cc,e⟩:=Ĕ.mp h;have r:=PyProof.Rows.digit_range (Nat.isDigit_of_mem_toDigits (by decide) (by decide) Cc);rw[<-e];exact r
def Wb:∀(m:Nat),0<m->∃c r,(ų 10 m).map ϗ=c::r/\c≠48:=by
 intro m
 induction m using Nat.strongRecOn with
 |_ m ih=>
  intro h0;by_cases h:m<10
  ·rw[Nat.toDigits_of_lt_base h];exact⟨_,[],rfl,by
    have:∀d:Nat,d<10->0<d->(Nat.digitChar d).toNat≠48:=by decide
    exact this m h h0⟩
  ·have hm:m % 10<10:=Nat.mod_lt m (by decide);have t:ų 10 (m / 10)++ų 10 (m % 10)=ų 10 (10*(m / 10)+m % 10):=Nat.toDigits_append_toDigits (by decide) (by lia) hm;rw[Nat.div_add_mod] at t;obtain⟨c,r,e,hc⟩:=ih (m / 10) (by lia) (by lia);rw[<-t,Ģ,e];exact⟨c,_,rfl,hc⟩
def ZK{m:Nat}(h:m<10 ^ 10):1<=((ų 10 m).map ϗ).length/\((ų 10 m).map ϗ).length<=10:=by
 have h1:=PySem.W.KT.len_num (n:=(m:Int)) (by lia) (by lia);have e:(Ä (ϸ (m:Int))).length=(nT (m:Int)).length:=by simp[nT,ar]
 rw[e,V9] at h1;refine⟨?_,h1⟩;by_cases h0:m=0
 ·subst h0;decide
 ·obtain⟨c,r,e,_⟩:=Wb m (by lia);rw[e];simp
def Wc{n:Int}(h1: -10000000000<n)(h2:n<10000000000):∃(b:Bool) (ds:List Nat),nT n=(if b then[45] else[])++ds/\(∀c∈ds,48<=c/\c<=57)/\1<=ds.length/\ds.length<=10/\(nT n=[48]\/∃c r,ds=c::r/\c≠48):=by
 rcases Int.lt_or_le n 0 with h|h
 ·obtain⟨m,rfl⟩:∃m:Nat,n= -(m:Int):=⟨(-n).toNat,by lia⟩;obtain⟨l1,l2⟩:=ZK (m:=m) (by lia);exact⟨true,_,Yc m (by lia),λc hc=>Wa hc,l1,l2,.inr (Wb m (by lia))⟩
 ·obtain⟨m,rfl⟩:=zj h;obtain⟨l1,l2⟩:=ZK (m:=m) (by lia);refine⟨false,_,V9 m,λc hc=>Wa hc,l1,l2,?_⟩;by_cases h0:m=0
  ·left
   subst h0;rfl
  ·exact .inr (Wb m (by lia))
def We{n:Int}(h1: -10000000000<n)(h2:n<10000000000):∀c∈nT n,c=45\/(48<=c/\c<=57):=by
 obtain⟨b,ds,e,hd,_⟩:=Wc h1 h2;rw[e];intro c hc;rcases Ų.mp hc with hc|hc
 ·cases b
  ·cases hc
  ·left;simpa using hc
 ·exact .inr (hd c hc)
def ZY{n:Int}(h1: -10000000000<n)(h2:n<10000000000):1<=(nT n).length/\(nT n).length<=11:=by obtain⟨b,ds,e,_,l1,l2,_⟩:=Wc h1 h2;rw[e];cases b<;>simp<;>lia
def Z30{n:Int}(h1: -10000000000<n)(h2:n<10000000000):kz (S (nT n))=some n:=by
 have Ce:∀m:Nat,PySem.NumText.AllDigits ((ų 10 m).map ϗ):=λm c hc=>Wa hc;have ne:∀m:Nat,m<10 ^ 10->(ų 10 m).map ϗ≠[]:=λm hm e=>by have:=(ZK hm).1;rw[e] at this;cases this
 rcases Int.lt_or_le n 0 with h|h
 ·obtain⟨m,rfl⟩:∃m:Nat,n= -(m:Int):=⟨(-n).toNat,by lia⟩;have l2:=(ZK (m:=m) (by lia)).2;rw[Yc m (by lia)];have:=PySem.intText_neg (x:=S (45::(ų 10 m).map ϗ)) rfl (Ce m) (ne m (by lia)) (by show(45::(ų 10 m).map ϗ).toArray.size<=4300;simp at l2 ⊢;lia);rw[this,zX]
 ·obtain⟨m,rfl⟩:=zj h;have l2:=(ZK (m:=m) (by lia)).2;rw[V9 m];have:=PySem.intText_digits (x:=S ((ų 10 m).map ϗ)) (Ce m) (ne m (by lia)) (by show((ų 10 m).map ϗ).toArray.size<=4300;simp at l2 ⊢;lia);rw[this];show some (((PySem.NumText.digitsVal ((ų 10 m).map ϗ):Nat)):Int)=_;rw[zX]
def sV(l:List Nat):PV:=.str (S l)
def xz(l:List Nat):Prop:=∀c∈l,c<1000
def xz.ok{l:List Nat}(h:xz l):Ĩ (S l)=true:=by
 unfold Ĩ;rw[Array.all_eq_true];intro i hi;have R_:i<l.length:=by simpa using hi
 have:=h l[i] (ng R_);simp;lia
def Zc(l:List Nat):(S l).length=l.length:=by simp[ar]
def Z31{l:List Nat}(h:l.length<=1000000):aU [.str (S l)]=some (.int l.length):=by
 have hz:(S l).length<=16777216:=by rw[Zc];lia
 show(if(S l).length<=16777216 then some (PV.int (S l).length) else none)=_;rw[if_pos hz,Zc]
def Ye{l:List Nat}(hl:l.length<=100000)(sg:Str)(k:Int):pF [.sh (sV l),.sh (.str sg),.sh (.int k)]=.ret (.sh (.bl (decide (1<=(l.length:Int)) && decide ((l.length:Int)<=k) && l.all λc=>decide (c∈sg.cps.toList)))):=by
 have c1:Ũ (gN 1) ũ (Ô Fx (È 1) (È 0)) (l.map λc=>PV.str ⟨#[c]⟩) [.sh (.str sg),.no] []=some ((l.map λc=>decide (c∈sg.cps.toList)).map .bl):=by
  have:=Ÿ (g:=gN 1) (mt:=ũ) (me:=Ô Fx (È 1) (È 0)) (λc=>PV.str ⟨#[c]⟩) (λc=>PV.bl (decide (c∈sg.cps.toList))) (λO=>∃s,O=[.sh (.str sg),s]) l [.sh (.str sg),.no] [] ⟨_,rfl⟩ (by simp;lia) (by
   rintro x hx O ⟨s,rfl⟩;exact⟨[.sh (.str sg),.sh (.str ⟨#[x]⟩)],_,[.sh (.str sg),.sh (.str ⟨#[x]⟩)],by simp,rfl,by simp,_,rfl⟩)
  rw[this];simp
 have c2:=X7 (l.map λc=>decide (c∈sg.cps.toList));have c3:((l.map λc=>decide (c∈sg.cps.toList)).all id)=l.all λc=>decide (c∈sg.cps.toList):=by rw[List.all_map];rfl
 rw[c3] at c2;generalize (l.map λc=>decide (c∈sg.cps.toList)).map PV.bl=bs at c1 c2;generalize (l.all λc=>decide (c∈sg.cps.toList))=q at*;have e:(S l).cps.toList=l:=by simp
 have hz:=Z31 (l:=l) (by lia);unfold sV;by_cases h1:1<=(l.length:Int)
 ·by_cases h2:(l.length:Int)<=k
  ·simp[pF,vj,Ê,hz,h1,h2,e,c1,c2]
  ·simp[pF,vj,Ê,hz,h1,h2,e]
 ·simp[pF,vj,Ê,hz,h1,e]
def Yf(l:List Nat)(c:Nat){y:Str}(hy:y=S [c]):kS (.str (S l)) [.str y]=some (.bl (decide (l.take 1=[c]))):=by rw[hy];rfl
def c45:Ä "-" =S [45]:=by decide +kernel
def c48:Ä "0" =S [48]:=by decide +kernel
def RB{α:Type}(xs:List α)(k:Nat)(hk:k<=xs.length):dL xs (some (k:Int)) none=xs.drop k:=by unfold dL;rw[HT.Ad,HT.wj,Nat.min_eq_left hk];exact fv (by simp)
def Z2E{n:Int}(h1: -10000000000<n)(h2:n<10000000000):kZ [.sh (sV (nT n))]=.ret (.sh (.bl true)):=by
 obtain⟨b,ds,e,hd,l1,l2,h0⟩:=Wc h1 h2;have md:=Ye (l:=ds) (by lia) "0123456789" 10;have al:(ds.all λc=>decide (c∈(Ä "0123456789").cps.toList))=true:=by
  rw[aH];intro c hc;have:=hd c hc;have e9:(Ä "0123456789").cps.toList=[48,49,50,51,52,53,54,55,56,57]:=by decide +kernel
  rw[e9];simp;lia
 rw[al] at md;have Xp:1<=(ds.length:Int):=by lia
 have Wf:(ds.length:Int)<=10:=by lia
 simp only[Xp,Wf,decide_true,Bool.and_self] at md;have pl:xz (nT n):=λc hc=>by rcases We h1 h2 c hc with h|h<;>lia
 have h0s:Ĩ (Ä "0")=true:=by decide +kernel
 have Se:=Yf (nT n) 45 c45;have A9:=Yf ds 48 c48;have Tj:ń (.str (S (nT n))) (.str (Ä "0"))=some (.bl (decide (S (nT n)=Ä "0"))):=ϯ pl.ok h0s;have nl:=ZY h1 h2;have hz:(S (nT n)).length<=16777216:=by rw[Zc];lia
 have tm:nT n=[48]->decide (S (nT n)=Ä "0")=true:=λh=>by rw[h];decide +kernel
 unfold sV at md ⊢;cases b with
 |true=>
  have e':nT n=45::ds:=e;have t1:decide ((nT n).take 1=[45])=true:=by rw[e'];simp
  rw[t1] at Se;have sl:Su (.str (S (nT n))) (some 1) none=some (.sh (.str (S ds))):=by show(if(S (nT n)).length<=16777216 then some (RV.sh (.str (S (dL (S (nT n)).cps.toList (some 1) none)))) else none)=_;rw[if_pos hz,e'];have:dL (45::ds) (some 1) none=ds:=RB (45::ds) 1 (by simp);show some (RV.sh (.str (S (dL (45::ds) (some 1) none))))=_;rw[this]
  have hh:∃c r,ds=c::r/\c≠48:=by
   rcases h0 with h|h
   ·rw[e'] at h;cases h
   ·exact h
  obtain⟨c,r,ec,hc⟩:=hh;have t2:decide (ds.take 1=[48])=false:=by rw[ec];simpa using hc
  rw[t2] at A9;generalize decide (S (nT n)=Ä "0")=qq at*;generalize S (nT n)=N,S ds=DS at*;cases qq<;>simp[kZ,vk,Ê,Se,A9,sl,md,Tj]
 |false=>
  have e':nT n=ds:=e;have t1:decide ((nT n).take 1=[45])=false:=by
   rw[e'];cases hds:ds with
   |nil=>rw[hds] at l1;cases l1
   |cons a r=>have:=hd a (by rw[hds];simp);simp;lia
  rw[t1] at Se;rw[<-e'] at md A9;rcases h0 with h|⟨c,r,ec,hc⟩
  ·rw[tm h] at Tj;generalize S (nT n)=N at*;simp[kZ,vk,Ê,Se,A9,md,Tj]
  ·have t2:decide ((nT n).take 1=[48])=false:=by rw[e',ec];simpa using hc
   rw[t2] at A9;generalize decide (S (nT n)=Ä "0")=qq at*;generalize S (nT n)=N at*;cases qq<;>simp[kZ,vk,Ê,Se,A9,md,Tj]
def Nb(n:Int):Prop:=-10000000000<n/\n<10000000000
def ĵ(n:Int):PV:=sV (nT n)
def Z2F{ns:List Int}(hn:∀n∈ns,Nb n)(hl:ns.length<=1000){sl:az}(hs:Sl sl (ns.map ĵ)):A0 [sl]=.ret (.ow (ns.map .int)):=by
 have c1:Ũ (gN 0) ũ (ß (ā kZ (ä 0 ó))) (ns.map ĵ) [.no] []=some ((ns.map λ_=>true).map .bl):=by
  have:=Ÿ (g:=gN 0) (mt:=ũ) (me:=ß (ā kZ (ä 0 ó))) ĵ (λ_=>PV.bl true) (λO=>∃s,O=[s]) ns [.no] [] ⟨_,rfl⟩ (by simp;lia) (by
   rintro x hx O ⟨s,rfl⟩;have e:=Z2E (hn x hx).1 (hn x hx).2;change kZ [.sh (ĵ x)]=_ at e;exact⟨[.sh (ĵ x)],_,[.sh (ĵ x)],by simp,rfl,by simp[e],_,rfl⟩)
  rw[this];simp[mY]
 have c2:Ũ (gN 0) ũ (aP kX (Å (È 0) á)) (ns.map ĵ) [.no] []=some (ns.map .int):=by
  have:=Ÿ (g:=gN 0) (mt:=ũ) (me:=aP kX (Å (È 0) á)) ĵ PV.int (λO=>∃s,O=[s]) ns [.no] [] ⟨_,rfl⟩ (by simp;lia) (by
   rintro x hx O ⟨s,rfl⟩;have e1:=Z30 (hn x hx).1 (hn x hx).2;have e2:=ZY (hn x hx).1 (hn x hx).2;have e:kX [ĵ x]=some (.int x):=by show(if(S (nT x)).length<=640 then(kz (S (nT x))).map PV.int else none)=_;rw[if_pos (by rw[Zc];lia),e1];rfl
   exact⟨[.sh (ĵ x)],_,[.sh (ĵ x)],by simp,rfl,by simp[e],_,rfl⟩)
  rw[this];simp
 have c3:=X7 (ns.map λ_=>true);have c4:((ns.map λ_=>true).all id)=true:=by simp
 rw[c4] at c3;have it:=hs.it (i:=0) (O:= [sl]) rfl;generalize (ns.map λ_=>true).map PV.bl=bs at*;generalize ns.map ĵ=X at*;simp[A0,Ew,Ê,-Mi,it,c1,c2,c3]
def ZF{ns:List Int}(hn:∀n∈ns,Nb n)(hl:ns.length<=1000){sl:az}(hs:Sl sl (ns.map ĵ))(k:Int):pG [sl,.sh (.int k)]=.ret (.ow (ns.map .int)):=by have e:=Z2F hn hl hs;generalize ns.map PV.int=X at*;simp[pG,Ey,Ê,hs.lend,e,Ft]
def Oo{α:Type}(x:α)(xs:List α):dL (x::xs) (some 1) none=xs:=RB (x::xs) 1 (by simp)
def Yg{a b:Str}(ha:Ĩ a=true)(hb:Ĩ b=true):jC (.str a) (.str b)=some (.bl (!decide (a=b))):=by
 have h:bT (.str a) (.str b)=decide (a=b):=by unfold bT;rfl
 unfold jC qB;rw[show Ž (.str a)=true by unfold Ž;exact ha,show Ž (.str b)=true by unfold Ž;exact hb,h];rfl
def Yh:Ĩ (Ä "yard")=true:=by decide +kernel
def Tk:Ĩ (Ä "ray")=true:=by decide +kernel
def Z32:Ĩ (Ä "night")=true:=by decide +kernel
def ZN:Ĩ (Ä "day")=true:=by decide +kernel
def Wg{w h:Int}(hw:1<=w/\w<=20)(hh:1<=h/\h<=20):si [.sh (.lst [.str "yard",ĵ w,ĵ h]),.sh (.int 0)]=.ret (.sh (.lst [.int w,.int h])):=by have e:=ZF (ns:=[w,h]) (λn hn=>by simp at hn;unfold Nb;lia) (by simp) (sl:=.sh (.lst ([w,h].map ĵ))) (.inl rfl) 0;have ne:=Yg Yh Yh;have c:=Oo (PV.str "yard") [ĵ w,ĵ h];simp only[Ý,Ľ] at e;simp[si,Ez,Ê,ne,c,e,Ũ,hw.1,hw.2,hh.1,hh.2,ZW,oV,Ϩ]
def Z1I{w:Str}{ns:List Int}(hg:Z2 w ns=true)(hw:Ĩ w=true)(hn:∀n∈ns,Nb n)(hl:ns.length<=1000)(k:Int){sl:az}(hs:Sl sl (.str w::ns.map ĵ)):pM [sl,.sh (.int k)]=.ret (.sh (Zp (Zu w) w ns)):=by have e:=ZF hn hl (sl:=.sh (.lst (ns.map ĵ))) (.inl rfl) k;have t:=Z29 hw (xs:=ns) (sl:=.bw (ns.map .int)) (.inr rfl);rw[if_pos hg] at t;have c:=Oo (PV.str w) (ns.map ĵ);generalize ns.map ĵ=X,ns.map PV.int=Qqj,Zp (Zu w) w ns=TH at*;rcases hs with rfl|rfl<;>simp[pM,EH,Ê,c,e,t]
def Z1J{l:List Nat}(h1:1<=l.length)(h2:l.length<=8)(hc:∀c∈l,97<=c/\c<=122):A2 [.sh (sV l)]=.ret (.sh (.bl true)):=by
 have md:=Ye (l:=l) (by lia) "abcdefghijklmnopqrstuvwxyz" 8;have al:(l.all λc=>decide (c∈(Ä "abcdefghijklmnopqrstuvwxyz").cps.toList))=true:=by
  rw[aH];intro c h;have:=hc c h;have e9:(Ä "abcdefghijklmnopqrstuvwxyz").cps.toList=[97,98,99,100,101,102,103,104,105,106,107,108,109,110,111,112,113,114,115,116,117,118,119,120,121,122]:=by decide +kernel
  rw[e9];simp;lia
 rw[al] at md;have Xp:1<=(l.length:Int):=by lia
 have Wf:(l.length:Int)<=8:=by lia
 simp only[Xp,Wf,decide_true,Bool.and_self] at md;simp[A2,EB,Ê,md]
def Nm(l:List Nat):Prop:=1<=l.length/\l.length<=8/\∀c∈l,97<=c/\c<=122
def Nm.Op{l:List Nat}(h:Nm l):xz l:=λc hc=>by have:=h.2.2 c hc;lia
def Yi{l:List Nat}(hm:Nm l){t:Int}(h1:1<=t)(h2:t<=1000000000)(k:Int){sl:az}(hs:Sl sl [.str "day",sV l,ĵ t]):pI [sl,.sh (.int k)]=.ret (.ot [sV l,.int t] [] []):=by have e:=ZF (ns:=[t]) (λn hn=>by simp at hn;unfold Nb;lia) (by simp) (sl:=.sh (.lst ([t].map ĵ))) (.inl rfl) k;have i:=Z1J hm.1 hm.2.1 hm.2.2;have c:dL [PV.str "day",sV l,ĵ t] (some 2) none=[ĵ t]:=RB [PV.str "day",sV l,ĵ t] 2 (by simp);simp only[Ý,Ľ] at e;generalize sV l=L,ĵ t=N at*;rcases hs with rfl|rfl<;>simp[pI,EC,Ê,i,c,e,h1,h2]
def Qqq2:Option P3->List PV
 |none=>[.str "night"]
 |some r=>[.str "ray",ĵ r.1,ĵ r.2.1,ĵ r.2.2]
def Tl(r:P3):Prop:=-1000000<=r.1/\r.1<=1000000/\ -1000000<=r.2.1/\r.2.1<=1000000/\1<=r.2.2/\r.2.2<=1000000
def Zq:Option P3->Prop
 |none=>True
 |some r=>Tl r
def Z2a{r:P3}(h:Tl r):A1 [.sh (c3 r)]=.ret (.sh (.bl true)):=by
 obtain⟨h1,h2,h3,h4,h5,h6⟩:=h;have a1:(if r.1<0 then -r.1 else r.1)<=1000000:=by split<;>lia
 have a2:(if r.2.1<0 then -r.2.1 else r.2.1)<=1000000:=by split<;>lia
 simp[A1,EA,Ê,c3,a1,a2,h5,h6]
def dRN:(Ä "ray" =Ä "night")=False:=eq_false (by decide +kernel)
def Wh{n:Int}(h:Nb n):Ž (ĵ n)=true:=by
 have pl:xz (nT n):=λc hc=>by rcases We h.1 h.2 c hc with h|h<;>lia
 unfold ĵ sV Ž;exact pl.ok
def ZZ(l:List Nat):qT (sV l)=0:=by unfold sV qT;rfl
def Z2b{ws:List PV}{a:Str}(ha:Ĩ a=true)(hn:¬a=Ä "night")(hw:aE ws=true)(hd:jB ws=0):ń (.lst (.str a::ws)) (.lst [.str "night"])=some (.bl false):=by
 have h1:bT (.lst (.str a::ws)) (.lst [.str (Ä "night")])=false:=by
  unfold bT lG;have:bT (.str a) (.str (Ä "night"))=false:=by unfold bT;simpa using hn
  rw[this];rfl
 have h2:Ž (.lst (.str a::ws))=true:=by unfold Ž aE;rw[show Ž (.str a)=true by unfold Ž;exact ha,hw];rfl
 have h3:Ž (.lst [.str (Ä "night")])=true:=by decide +kernel
 have h4:qT (.lst (.str a::ws))=1:=by unfold qT jB;rw[hd];unfold qT;rfl
 unfold ń qB;rw[h1,h2,h3,h4];rfl
def Z2c{o:Option P3}(ho:Zq o)(k:Int){sl:az}(hs:Sl sl (Qqq2 o)):mn [sl,.sh (.int k)]=.ret (.sh (a_ o)):=by
 cases o with
 |none=>
  have h3:Ž (.lst [.str (Ä "night")])=true:=by decide +kernel
  have e:ń (.lst [.str "night"]) (.lst [.str "night"])=some (.bl true):=by unfold ń qB;rw[o_ _ h3,h3];rfl
  change Sl sl [.str "night"] at hs;rcases hs with rfl|rfl<;>simp[mn,yF,Ê,e,a_]
 |some r=>
  obtain⟨h1,h2,h3,h4,h5,h6⟩:=ho;have e:=ZF (ns:=[r.1,r.2.1,r.2.2]) (λn hn=>by simp at hn;unfold Nb;lia) (by simp) (sl:=.sh (.lst ([r.1,r.2.1,r.2.2].map ĵ))) (.inl rfl) k;have i:=Z2a (r:=r) ⟨h1,h2,h3,h4,h5,h6⟩;have c:=Oo (PV.str "ray") [ĵ r.1,ĵ r.2.1,ĵ r.2.2];have ne:=Yg Tk Tk;simp only[Ý,Ľ] at e;have eq:ń (.lst [.str "ray",ĵ r.1,ĵ r.2.1,ĵ r.2.2]) (.lst [.str "night"])=some (.bl false):=by
   refine Z2b Tk (by rw[dRN];exact id) ?_ ?_
   ·have b1:=Wh (n:=r.1) ⟨by lia,by lia⟩;have b2:=Wh (n:=r.2.1) ⟨by lia,by lia⟩;have b3:=Wh (n:=r.2.2) ⟨by lia,by lia⟩;unfold aE aE aE aE;rw[b1,b2,b3];rfl
   ·unfold ĵ jB jB jB jB;rw[ZZ,ZZ,ZZ];rfl
  change Sl sl [.str "ray",ĵ r.1,ĵ r.2.1,ĵ r.2.2] at hs;unfold c3 at i;generalize ĵ r.1=A,ĵ r.2.1=B,ĵ r.2.2=C at*;rcases hs with rfl|rfl<;>simp[mn,yF,Ê,eq,ne,c,e,i,a_,c3]
@[simp] theorem Z3P{D:List (List PV×List PV)}:bL (.dw D)=some (.dw D):=rfl
abbrev Dz:=List Nat×Int×List (Option P3)
def dD(d:Dz):List PV×List PV:=([sV d.1,.int d.2.1],d.2.2.map a_)
def zV(d:Dz):Dy:=(S d.1,d.2.1,d.2.2)
def Ze(D:List Dz):Bool:=match D.getLast? with
 |some d=>decide (d.2.2.length=0)
 |none=>false
def Wi{D:List Dz}(h0:∀d,D.getLast?=some d->d.2.2.length≠0):Ze D=false:=by
 unfold Ze;split
 ·rename_i d e;simpa using h0 d e
 ·rfl
def Zr{D:List Dz}:k_ [.dw (D.map dD)]=.ret (.sh (.bl (Ze D))):=by
 unfold Ze;cases e:D.getLast? with
 |none=>have:D=[]:=List.getLast?_eq_none_iff.mp e;subst this;simp[k_,vm,Ê]
 |some d=>
  have hl:0<(D.map dD).length:=by
   have:D≠[]:=λz=>by rw[z] at e;cases e
   have:=List.length_pos_iff.mpr this;simp;lia
  have hg:(D.map dD).getLast?=some (dD d):=by rw[List.getLast?_map,e];rfl
  have h2:(dD d).1.length=2:=rfl;have h3:(dD d).2.length=d.2.2.length:=by simp[dD]
  generalize D.map dD=DD at*;by_cases h0:d.2.2.length=0
  ·have:(dD d).2=[]:=ip.mp (by lia);simp[k_,vm,Ê,hl,hg,h2,this,h0]
  ·have:¬(dD d).2=[]:=λz=>h0 (by rw[<-h3,z];rfl);simp[k_,vm,Ê,hl,hg,h2,this,h0]
def Z2d{D:List Dz}{d:Dz}(hd:D.getLast?=some d)(hl:d.2.2.length<24){o:Option P3}(ho:Zq o)(k:Int){sl:az}(hs:Sl sl (Qqq2 o)):jq [sl,.sh (.int k),.dw (D.map dD)]=.ok (.l 2 (a_ o)):=by
 have e:=Z2c ho k hs;have l0:¬D.map dD=[]:=by
  have:D≠[]:=λz=>by rw[z] at hd;cases hd
  simpa using this
 have hg:(D.map dD).getLast?=some (dD d):=by rw[List.getLast?_map,hd];rfl
 have h2:(dD d).1.length=2:=rfl;have h3:(dD d).2.length=d.2.2.length:=by simp[dD]
 have h4:¬((dD d).2.length:Int)=24:=by lia
 have h5:(dD d).2.length<16777216:=by lia
 generalize D.map dD=DD,dD d=dd at*;simp[jq,pH,Ż,đ,Ê,l0,hg,h2,h4,h5,rY,hs.lend,e,WR.ix]
def Yj(D:List Dz)(hl:D.length<=1000):du (gD 0 1 2) ũ (ì 0) (D.map dD) [.no,.no,.no] []=some (D.map λd=>sV d.1):=by
 have Ce:∀(D:List Dz) (acc:List PV) (a b c:az),acc.length+D.length<=1000->du (gD 0 1 2) ũ (ì 0) (D.map dD) [a,b,c] acc=some (acc++D.map λd=>sV d.1):=by
  intro D
  induction D with
  |nil=>intro acc a b c _;simp[du]
  |cons d D ih=>
   intro acc a b c hl;rw[þ] at hl;have h1:acc.length<16777216:=by lia
   have:=ih (acc ++ [sV d.1]) (.sh (sV d.1)) (.sh (.int d.2.1)) (.bw (d.2.2.map a_)) (by simp;lia);rw[Ý,du];simp[dD,gD,h1,ũ];simpa[dD] using this
 simpa using Ce D [] .no .no .no (by simpa using hl)
def Z33{a b:List Nat}:S a=S b↔a=b:=by
 constructor
 ·intro h;have:=congrArg (λs=>s.cps.toList) h;simpa using this
 ·intro h;rw[h]
def Z1a{l:List Nat}(hl:xz l){D:List Dz}(hD:∀d∈D,xz d.1)(h:l∉D.map (·.1)):B1 false (sV l) (.lst (D.map λd=>sV d.1))=some (.bl false):=by
 have h1:Ž (sV l)=true:=by unfold sV Ž;exact hl.ok
 have h2:∀D:List Dz,(∀d∈D,xz d.1)->aE (D.map λd=>sV d.1)=true:=by
  intro D
  induction D with
  |nil=>intro _;rfl
  |cons d D ih=>
   intro hD;rw[Ý,aE,ih λx hx=>hD x (í _ hx)];have:Ž (sV d.1)=true:=by unfold sV Ž;exact(hD d (by simp)).ok
   rw[this];rfl
 have h3:((D.map λd=>sV d.1).any λy=>bT y (sV l))=false:=by rw[List.any_eq_false];intro y hy;obtain⟨d,hd,rfl⟩:=Ĕ.mp hy;unfold sV bT;intro z;exact h (Ĕ.mpr ⟨d,hd,Z33.mp (of_decide_eq_true z)⟩)
 unfold B1;dsimp only;rw[h1,h2 D hD,ZZ,h3];rfl
def Z2G{D:List Dz}(h0:∀d,D.getLast?=some d->d.2.2.length≠0)(hD:D.length<12)(hp:∀d∈D,xz d.1){l:List Nat}(hm:Nm l)(hn:l∉D.map (·.1)){t:Int}(h1:1<=t)(h2:t<=1000000000)(k:Int){sl:az}(hs:Sl sl [.str "day",sV l,ĵ t]):gw [sl,.sh (.int k),.dw (D.map dD)]=.ok (.d 2 [sV l,.int t]):=by
 have lk:=Zr (D:=D);rw[Wi h0] at lk;have rd:=Yi hm h1 h2 k hs;have cg:=Yj D (by lia);have ni:=Z1a hm.Op hp hn;have Wj:¬((D.map dD).length:Int)=12:=by simp;lia
 have Wk:(D.map dD).length<16777216:=by simp;lia
 generalize D.map dD=DD at*;generalize D.map (λd=>sV d.1)=NN at*;generalize sV l=L at*;simp[gw,lK,Ż,đ,Ê,lk,Wj,hs.lend,rd,RV.slot,rW,jH,jI,kP,cg,ni,wR,Wk,WR.ix]
def Z1K{T:List PV}(hT:T.length<40){w:Str}{ns:List Int}(hg:Z2 w ns=true)(hw:Ĩ w=true)(hn:∀n∈ns,Nb n)(hl:ns.length<=1000)(k:Int){sl:az}(hs:Sl sl (.str w::ns.map ĵ)):ie [sl,.sh (.int k),.bw T,.dw []]=.ok (.t 2 (ij (w,ns))):=by
 have rt:=Z1I hg hw hn hl k hs;have l40:¬(T.length:Int)=40:=by lia
 have Wk:T.length<16777216:=by lia
 change _=FR.ret (.sh (ij (w,ns))) at rt;generalize ij (w,ns)=V at*;simp[ie,pN,Ż,đ,Ê,l40,hs.lend,rt,rX,Wk,WR.ix]
def Yk{w:Str}{xs:List Int}(h:Z2 w xs=true):xs.length<=100/\(∀n∈xs,-1000000000<=n/\n<=1000000000)/\w.cps.toList.length<=1000:=by
 have hp:Zb xs=true->xs.length<=100/\(∀n∈xs,-1000000000<=n/\n<=1000000000):=by
  intro h
  match xs,h with
  | [a,b,c],h=>simp[Zb,aS,BY] at h;refine⟨by simp,λn hn=>?_⟩;simp at hn;rcases hn with rfl|rfl|rfl<;>lia
 have he:Z8 xs=true->xs.length<=100/\(∀n∈xs,-1000000000<=n/\n<=1000000000):=by
  intro h
  match xs,h with
  | [a,b,c,d,e],h=>simp[Z8,aS,BY] at h;refine⟨by simp,λn hn=>?_⟩;simp at hn;rcases hn with rfl|rfl|rfl|rfl|rfl<;>lia
 have hf:Z6 xs=true->Z8 xs=true:=by
  intro h
  match xs,h with
  | [a,b,c,d,e],h=>simp[Z6] at h;exact h.1
 have hb:Z5 xs=true->Z8 xs=true:=by
  intro h
  match xs,h with
  | [a,b,c,d,e],h=>simp[Z5] at h;exact h.1.1
 have hc:Z7 xs=true->xs.length<=100/\(∀n∈xs,-1000000000<=n/\n<=1000000000):=by
  intro h
  match xs,h with
  | [a,b,c,d,e,f,g,i,j],h=>simp[Z7,aS,xH] at h;refine⟨by simp,λn hn=>?_⟩;simp at hn;rcases hn with rfl|rfl|rfl|rfl|rfl|rfl|rfl|rfl|rfl<;>lia
 unfold Z2 at h;split at h
 ·next e=>exact⟨(hp h).1,(hp h).2,by rw[e];decide +kernel⟩
 split at h
 ·next e=>exact⟨(he (hf h)).1,(he (hf h)).2,by rw[e];decide +kernel⟩
 split at h
 ·next e=>exact⟨(he (hb h)).1,(he (hb h)).2,by rw[e];decide +kernel⟩
 split at h
 ·next e=>exact⟨(hc h).1,(hc h).2,by rw[e];decide +kernel⟩
 split at h
 ·next e=>exact⟨(he (hb h)).1,(he (hb h)).2,by rw[e];decide +kernel⟩
 ·cases h
inductive Rw where
 |th (t:Th)|dy (l:List Nat) (t:Int)|tn (o:Option P3)
def xA:Rw->List PV
 | .th t=>.str t.1::t.2.map ĵ
 | .dy l t=>[.str "day",sV l,ĵ t]
 | .tn o=>Qqq2 o
def Zi{w:Str}{ns:List Int}(h:Z2 w ns=true):(∀n∈ns,Nb n)/\ns.length<=100:=⟨λn hn=>by have:=(Yk h).2.1 n hn;unfold Nb;lia,(Yk h).1⟩
def ZO{w:Str}{xs:List Int}(h:Z2 w xs=true):Ĩ w=true:=by
 unfold Z2 at h;by_cases e1:w= "post"
 ·rw[e1];exact s1
 rw[if_neg e1] at h;by_cases e2:w= "fence"
 ·rw[e2];exact s2
 rw[if_neg e2] at h;by_cases e3:w= "sail"
 ·rw[e3];exact s3
 rw[if_neg e3] at h;by_cases e4:w= "cloth"
 ·rw[e4];exact s4
 rw[if_neg e4] at h;by_cases e5:w= "house"
 ·rw[e5];exact s5
 rw[if_neg e5] at h;cases h
def Wl{w:Str}{xs:List Int}(h:Z2 w xs=true):w= "post" \/w= "fence" \/w= "sail" \/w= "cloth" \/w= "house" := by
 unfold Z2 at h;by_cases e1:w= "post"
 ·exact .inl e1
 rw[if_neg e1] at h;by_cases e2:w= "fence"
 ·exact .inr (.inl e2)
 rw[if_neg e2] at h;by_cases e3:w= "sail"
 ·exact .inr (.inr (.inl e3))
 rw[if_neg e3] at h;by_cases e4:w= "cloth"
 ·exact .inr (.inr (.inr (.inl e4)))
 rw[if_neg e4] at h;by_cases e5:w= "house"
 ·exact .inr (.inr (.inr (.inr e5)))
 rw[if_neg e5] at h;cases h
def ZP{a:Str}(ha:Ĩ a=true):B1 false (.str a) (.tup [.str "ray",.str "night"])=some (.bl (decide (Ä "ray" =a) || decide (Ä "night" =a))):=by
 have h1:Ž (.str a)=true:=by unfold Ž;exact ha
 have h2:aE [.str (Ä "ray"),.str (Ä "night")]=true:=by decide +kernel
 unfold B1;dsimp only;rw[h1,h2];have h3:qT (.str a)=0:=by unfold qT;rfl
 rw[h3];have e:∀b:Str,bT (.str b) (.str a)=decide (b=a):=λb=>by unfold bT;rfl
 rw[iq,iq,List.any_nil,e,e,sv];rfl
def Wm{w:Str}{xs:List Int}(h:Z2 w xs=true):¬Ä "ray" =w/\¬Ä "night" =w/\¬w=Ä "day" := by
 rcases Wl h with rfl|rfl|rfl|rfl|rfl<;>decide +kernel
def Z2e{T:List PV}{D:List Dz}{d:Dz}(hd:D.getLast?=some d)(hl:d.2.2.length<24){o:Option P3}(ho:Zq o)(k:Int):ł [.sh (.lst (Qqq2 o)),.sh (.int k),.bw T,.dw (D.map dD)]=.ok (.l 3 (a_ o)):=by
 have e:=Z2d hd hl ho k (sl:=.sh (.lst (Qqq2 o))) (.inl rfl);have i:∃a r,Qqq2 o=.str a::r/\B1 false (.str a) (.tup [.str "ray",.str "night"])=some (.bl true):=by
  cases o with
  |none=>exact⟨_,_,rfl,by rw[ZP Z32];simp⟩
  |some r=>exact⟨_,_,rfl,by rw[ZP Tk];simp⟩
 obtain⟨a,r,e1,e2⟩:=i;rw[e1] at e ⊢;generalize D.map dD=DD at*;simp[ł,jL,Ż,đ,Ê,e2,ō,cj,e,mM,WR.ix,WR.to]
def Tn{T:List PV}{D:List Dz}(h0:∀d,D.getLast?=some d->d.2.2.length≠0)(hD:D.length<12)(hp:∀d∈D,xz d.1){l:List Nat}(hm:Nm l)(hn:l∉D.map (·.1)){t:Int}(h1:1<=t)(h2:t<=1000000000)(k:Int):ł [.sh (.lst [.str "day",sV l,ĵ t]),.sh (.int k),.bw T,.dw (D.map dD)]=.ok (.d 3 [sV l,.int t]):=by
 have e:=Z2G h0 hD hp hm hn h1 h2 k (sl:=.sh (.lst [.str "day",sV l,ĵ t])) (.inl rfl);have i:B1 false (.str (Ä "day")) (.tup [.str "ray",.str "night"])=some (.bl false):=by rw[ZP ZN,show decide (Ä "ray" =Ä "day")=false by decide +kernel,show decide (Ä "night" =Ä "day")=false by decide +kernel];rfl
 have q:=ϯ ZN ZN;generalize D.map dD=DD,sV l=L,ĵ t=N at*;simp[ł,jL,Ż,đ,Ê,i,q,ō,cj,e,mM,WR.ix,WR.to]
def Z1L{T:List PV}(hT:T.length<40){t:Th}(hg:Z2 t.1 t.2=true)(k:Int):ł [.sh (.lst (.str t.1::t.2.map ĵ)),.sh (.int k),.bw T,.dw []]=.ok (.t 2 (ij t)):=by have e:=Z1K hT hg (ZO hg) (Zi hg).1 (by have:=(Zi hg).2;lia) k (sl:=.sh (.lst (.str t.1::t.2.map ĵ))) (.inl rfl);obtain⟨d1,d2,d3⟩:=Wm hg;have i:=ZP (ZO hg);have q:=ϯ (ZO hg) ZN;simp only[d1,d2,decide_false,sx] at i;simp only[d3,decide_false] at q;change ie _=FW.ok (.t 2 (ij t)) at e;generalize ij t=V,t.2.map ĵ=X,t.1=W at*;simp[ł,jL,Ż,đ,Ê,i,q,ō,cj,e,mM,WR.ix,WR.to]
abbrev gC:=dz 5 6 3 4 (ō ł [6,5,3,4])
def Z3k{ws:List PV}{k:Int}{T:List PV}{D:DL}{p:PV}(h:ł [.sh (.lst ws),.sh (.int k),.bw T,.dw D]=.ok (.t 2 p))(ps:List PV)(s0 s1 s2 a b:az) :
 gC (.tup [.int k,.lst ws]::ps) [s0,s1,s2,.no,.no,a,b] T D=gC ps [s0,s1,s2,.no,.no,.sh (.int k),.sh (.lst ws)] (T ++ [p]) D:=by
 unfold gC;rw[dz];have e:ō ł [6,5,3,4] (Ū 3 4 T D ((([s0,s1,s2,.no,.no,a,b]:ć).set 5 (.sh (.int k))).set 6 (.sh (.lst ws))))=.ok (.t 3 p) (Ū 3 4 T D ((([s0,s1,s2,.no,.no,a,b]:ć).set 5 (.sh (.int k))).set 6 (.sh (.lst ws)))):=by simp[ō,Ū,cj,jp,h,WR.ix,mM,WR.to]
 rw[e];rfl
def To{ws:List PV}{k:Int}{T:List PV}{D:DL}{p:List PV}(h:ł [.sh (.lst ws),.sh (.int k),.bw T,.dw D]=.ok (.d 3 p))(ps:List PV)(s0 s1 s2 a b:az) :
 gC (.tup [.int k,.lst ws]::ps) [s0,s1,s2,.no,.no,a,b] T D=gC ps [s0,s1,s2,.no,.no,.sh (.int k),.sh (.lst ws)] T (D ++ [(p,[])]):=by
 unfold gC;rw[dz];have e:ō ł [6,5,3,4] (Ū 3 4 T D ((([s0,s1,s2,.no,.no,a,b]:ć).set 5 (.sh (.int k))).set 6 (.sh (.lst ws))))=.ok (.d 4 p) (Ū 3 4 T D ((([s0,s1,s2,.no,.no,a,b]:ć).set 5 (.sh (.int k))).set 6 (.sh (.lst ws)))):=by simp[ō,Ū,cj,jp,h,WR.ix,mM,WR.to]
 rw[e];rfl
def Z3l{ws:List PV}{k:Int}{T:List PV}{D:DL}{p:PV}{d:List PV×List PV}(h:ł [.sh (.lst ws),.sh (.int k),.bw T,.dw D]=.ok (.l 3 p))(hd:D.getLast?=some d)(ps:List PV)(s0 s1 s2 a b:az) :
 gC (.tup [.int k,.lst ws]::ps) [s0,s1,s2,.no,.no,a,b] T D=gC ps [s0,s1,s2,.no,.no,.sh (.int k),.sh (.lst ws)] T (D.dropLast ++ [(d.1,d.2 ++ [p])]):=by
 unfold gC;rw[dz];have e:ō ł [6,5,3,4] (Ū 3 4 T D ((([s0,s1,s2,.no,.no,a,b]:ć).set 5 (.sh (.int k))).set 6 (.sh (.lst ws))))=.ok (.l 4 p) (Ū 3 4 T D ((([s0,s1,s2,.no,.no,a,b]:ć).set 5 (.sh (.int k))).set 6 (.sh (.lst ws)))):=by simp[ō,Ū,cj,jp,h,WR.ix,mM,WR.to]
 rw[e];have e2:wU 3 4 (.l 4 p) T D=some (T,D.dropLast ++ [(d.1,d.2 ++ [p])]):=by unfold wU;simp[hd]
 dsimp only;rw[e2];rfl
def eP(r:Rw):PV:=.lst (xA r)
def Tp:∀(ts:List Th) (T0:List PV) (k:Nat) (ü:List PV) (s0 s1 s2 a b:az),(∀t∈ts,Z2 t.1 t.2=true)->T0.length+ts.length<=40->
 ∃a' b',gC (Ł k (ts.map (λt=>eP (.th t))++ü)) [s0,s1,s2,.no,.no,a,b] T0 []=gC (Ł (k+ts.length) ü) [s0,s1,s2,.no,.no,a',b'] (T0++ts.map ij) []:=by
 intro ts
 induction ts with
 |nil=>intro T0 k ü s0 s1 s2 a b _ _;exact⟨a,b,by simp⟩
 |cons t ts ih=>intro T0 k ü s0 s1 s2 a b hg hl;rw[þ] at hl;have r:=Z1L (T:=T0) (by lia) (hg t (by simp)) (k:Int);obtain⟨a',b',e⟩:=ih (T0 ++ [ij t]) (k+1) ü s0 s1 s2 (.sh (.int k)) (.sh (eP (.th t))) (λx hx=>hg x (í _ hx)) (by simp;lia);refine⟨a',b',?_⟩;rw[Ý,ſ];show gC (.tup [.int k,.lst (xA (.th t))]::Ł (k+1) _) _ _ _=_;rw[Z3k (show ł [.sh (.lst (xA (.th t))),.sh (.int k),.bw T0,.dw []]=_ from r)];refine e.trans ?_;rw[þ,show k+1+ts.length=k+(ts.length+1) by lia];simp
def Tq:∀(os:List (Option P3)) (T:List PV) (D:List Dz) (d:Dz) (k:Nat) (ü:List PV) (s0 s1 s2 a b:az),(∀o∈os,Zq o)->d.2.2.length+os.length<=24->
 ∃a' b',gC (Ł k (os.map (λo=>eP (.tn o))++ü)) [s0,s1,s2,.no,.no,a,b] T ((D ++ [d]).map dD)=gC (Ł (k+os.length) ü) [s0,s1,s2,.no,.no,a',b'] T ((D ++ [(d.1,d.2.1,d.2.2++os)]).map dD):=by
 intro os
 induction os with
 |nil=>intro T D d k ü s0 s1 s2 a b _ _;exact⟨a,b,by simp⟩
 |cons o os ih=>
  intro T D d k ü s0 s1 s2 a b hg hl;rw[þ] at hl;have r:=Z2e (T:=T) (D:=D ++ [d]) (d:=d) (by simp) (by lia) (hg o (by simp)) (k:Int);obtain⟨a',b',e⟩:=ih T D (d.1,d.2.1,d.2.2 ++ [o]) (k+1) ü s0 s1 s2 (.sh (.int k)) (.sh (eP (.tn o))) (λx hx=>hg x (í _ hx)) (by simp;lia);refine⟨a',b',?_⟩;rw[Ý,ſ];show gC (.tup [.int k,.lst (xA (.tn o))]::Ł (k+1) _) _ _ _=_;rw[Z3l (d:=dD d) (show ł [.sh (.lst (xA (.tn o))),.sh (.int k),.bw T,.dw ((D ++ [d]).map dD)]=_ from r) (by rw[Ģ];simp)];have ed:((D ++ [d]).map dD).dropLast ++ [((dD d).1,(dD d).2 ++ [a_ o])]=(D ++ [(d.1,d.2.1,d.2.2 ++ [o])]).map dD:=by rw[Ģ,Ģ,Ý,Ľ,List.dropLast_concat];simp[dD]
  rw[ed];refine e.trans ?_;rw[þ,show k+1+os.length=k+(os.length+1) by lia];simp
def Z4(d:Dz):Prop:=Nm d.1/\1<=d.2.1/\d.2.1<=1000000000/\1<=d.2.2.length/\d.2.2.length<=24/\∀o∈d.2.2,Zq o
def aT(d:Dz):List PV:=eP (.dy d.1 d.2.1)::d.2.2.map λo=>eP (.tn o)
def Z2H:∀(ds:List Dz) (T:List PV) (D:List Dz) (k:Nat) (s0 s1 s2 a b:az),(∀d∈D++ds,Z4 d)->((D++ds).map (·.1)).Nodup->D.length+ds.length<=12->
 ∃a' b',gC (Ł k (ds.flatMap aT)) [s0,s1,s2,.no,.no,a,b] T (D.map dD)=.ok (T,(D++ds).map dD) [s0,s1,s2,.no,.no,a',b']:=by
 intro ds
 induction ds with
 |nil=>intro T D k s0 s1 s2 a b _ _ _;exact⟨a,b,by simp[Ł,dz]⟩
 |cons d ds ih=>
  intro T D k s0 s1 s2 a b hg hn hl;rw[þ] at hl;obtain⟨g1,g2,g3,g4,g5,g6⟩:=hg d (by simp);have Sf:d.1∉D.map (·.1):=by rw[Ģ,Ý,ke] at hn;intro z;exact hn.2.2 _ z _ (by simp) rfl
  have h0:∀x,D.getLast?=some x->x.2.2.length≠0:=λx hx=>by have:=(hg x (bp _ (fB hx))).2.2.2.1;lia
  have r:=Tn (T:=T) h0 (by lia) (λx hx=>(hg x (bp _ hx)).1.Op) g1 Sf g2 g3 (k:Int);rw[ϙ];show ∃a' b',gC (.tup [.int k,.lst (xA (.dy d.1 d.2.1))]::Ł (k+1) (d.2.2.map (λo=>eP (.tn o))++ds.flatMap aT)) _ _ _=_;rw[To (show ł [.sh (.lst (xA (.dy d.1 d.2.1))),.sh (.int k),.bw T,.dw (D.map dD)]=_ from r)];have ed:D.map dD ++ [([sV d.1,.int d.2.1],[])]=(D ++ [(d.1,d.2.1,[])]).map dD:=by rw[Ģ];rfl
  rw[ed];obtain⟨a1,b1,e1⟩:=Tq d.2.2 T D (d.1,d.2.1,[]) (k+1) (ds.flatMap aT) s0 s1 s2 (.sh (.int k)) (.sh (.lst (xA (.dy d.1 d.2.1)))) g6 (by simpa using g5);have RC:(D ++ [(d.1,d.2.1,[]++d.2.2)])=D ++ [d]:=by simp
  rw[e1];dsimp only;rw[RC];have hh:D ++ [d]++ds=D++d::ds:=by simp
  obtain⟨a2,b2,e2⟩:=ih T (D ++ [d]) (k+1+d.2.2.length) s0 s1 s2 a1 b1 (by rw[hh];exact hg) (by rw[hh];exact hn) (by simp;lia);rw[hh] at e2;exact⟨a2,b2,e2⟩
def Z3m(D:List Dz)(hl:D.length<=1000)(hd:∀d∈D,d.2.2.length<=1000):du (gD 0 1 2) ũ (dI (Å (ì 0) (Å (ì 1) (Å (ß (uL hV (Å (È 2) á))) á)))) (D.map dD) [.no,.no,.no] []=some ((D.map zV).map jV):=by
 have Ce:∀(D:List Dz) (acc:List PV) (a b c:az),acc.length+D.length<=1000->(∀d∈D,d.2.2.length<=1000)->du (gD 0 1 2) ũ (dI (Å (ì 0) (Å (ì 1) (Å (ß (uL hV (Å (È 2) á))) á)))) (D.map dD) [a,b,c] acc=some (acc++(D.map zV).map jV):=by
  intro D
  induction D with
  |nil=>intro acc a b c _ _;simp[du]
  |cons d D ih=>
   intro acc a b c hl hd;rw[þ] at hl;have h1:acc.length<16777216:=by lia
   have h2:=hd d (by simp);have:=ih (acc ++ [jV (zV d)]) (.sh (sV d.1)) (.sh (.int d.2.1)) (.bw (d.2.2.map a_)) (by simp;lia) (λx hx=>hd x (í _ hx));have e:dD d=([sV d.1,.int d.2.1],d.2.2.map a_):=rfl;have e2:jV (zV d)=.tup [sV d.1,.int d.2.1,.lst (d.2.2.map a_)]:=rfl;have hz:(d.2.2.map a_).length<=16777216:=by simp;lia
   rw[Ý,du,Ý,Ý,e];rw[e2] at this ⊢;generalize d.2.2.map a_=TT at*;simp[gD,h1,ũ,hz];simpa using this
 simpa using Ce D [] .no .no .no (by simpa using hl) hd
def Z2I(w h:Int){T:List Th}{D:List Dz}(hT:T.length<=100000)(hD:D.length<=1000)(hd:∀d∈D,d.2.2.length<=1000):jb [.sh (.int w),.sh (.int h),.bw (T.map ij),.dw (D.map dD)]=.ok ["width","height","things","days"] [.int w,.int h,.lst (T.map ij),.lst ((D.map zV).map jV)]:=by have c:=Z3m D hD hd;generalize hx:T.map ij=tx at*;generalize (D.map zV).map jV=dx,D.map dD=DD at*;simp[jb,cb,yE,hX,IR.of,Ê,putN,jE,ywh,ywt,ywd,yht,yhd,ytd,c,S1,MR,jH,jI,kP]
def wC(s:String):List Nat:=(Ä s).cps.toList
def Qqq3(s:Str):S s.cps.toList=s:=bF (by simp)
def į:Rw->List (List Nat)
 | .th t=>t.1.cps.toList::t.2.map nT
 | .dy l t=>[wC "day",l,nT t]
 | .tn none=>[wC "night"]
 | .tn (some r)=>[wC "ray",nT r.1,nT r.2.1,nT r.2.2]
theorem RD:∀r:Rw,(į r).map sV=xA r
 | .th t=>by unfold į xA sV;rw[Ý,Qqq3,ľ];rfl
 | .dy l t=>rfl
 | .tn none=>rfl
 | .tn (some r)=>rfl
def Z1(T:List Th)(D:List Dz):List Rw:=T.map .th++D.flatMap λd=>.dy d.1 d.2.1::d.2.2.map .tn
def Z0(ws:List (List Nat)):List Nat:=İ [32] ws
def yT(w h:Int):List (List Nat):=[wC "yard",nT w,nT h]
def Ŷ(w h:Int)(T:List Th)(D:List Dz):List (List Nat):=Z0 (yT w h)::(Z1 T D).map λr=>Z0 (į r)
def n_(w h:Int)(T:List Th)(D:List Dz):List Nat:=İ [10] (Ŷ w h T D)
def Wd(l:List Nat):Prop:=l.length<=11/\∀c∈l,33<=c/\c<256
def ZQ{n:Int}(h:Nb n):Wd (nT n):=⟨(ZY h.1 h.2).2,λc hc=>by rcases We h.1 h.2 c hc with h|h<;>lia⟩
def Nm.wd{l:List Nat}(h:Nm l):Wd l:=⟨by have:=h.2.1;lia,λc hc=>by have:=h.2.2 c hc;lia⟩
def RE{s:String}(h:((wC s).length<=11/\(wC s).all (λc=>decide (33<=c/\c<256))=true)):Wd (wC s):=⟨h.1,λc hc=>of_decide_eq_true (aH.mp h.2 c hc)⟩
def Z2J{w:Str}{xs:List Int}(h:Z2 w xs=true):Wd w.cps.toList:=by rcases Wl h with rfl|rfl|rfl|rfl|rfl<;>exact RE (by decide +kernel)
def ZB:Rw->Prop
 | .th t=>Z2 t.1 t.2=true
 | .dy l t=>Nm l/\1<=t/\t<=1000000000
 | .tn o=>Zq o
theorem Zz:∀{r:Rw},ZB r->(∀x∈į r,Wd x)/\į r≠[]/\(į r).length<=101
 | .th t,h=>by
   have h':Z2 t.1 t.2=true:=h;refine⟨λx hx=>?_,by simp[į],?_⟩
   ·rcases Č.mp hx with rfl|hx
    ·exact Z2J h'
    ·obtain⟨n,hn,rfl⟩:=Ĕ.mp hx;exact ZQ ((Zi h').1 n hn)
   ·have:=(Zi h').2;simp[į];lia
 | .dy l t,h=>by
   obtain⟨h1,h2,h3⟩:=h;refine⟨λx hx=>?_,by simp[į],by simp[į]⟩;have:x=wC "day" \/x=l\/x=nT t:=by simpa[į] using hx
   rcases this with rfl|rfl|rfl
   ·exact RE (by decide +kernel)
   ·exact h1.wd
   ·exact ZQ ⟨by lia,by lia⟩
 | .tn none,_=>by
   refine⟨λx hx=>?_,by simp[į],by simp[į]⟩;have:x=wC "night" := by simpa[į] using hx
   subst this;exact RE (by decide +kernel)
 | .tn (some r),h=>by
   obtain⟨h1,h2,h3,h4,h5,h6⟩:=h;refine⟨λx hx=>?_,by simp[į],by simp[į]⟩;have:x=wC "ray" \/x=nT r.1\/x=nT r.2.1\/x=nT r.2.2:=by simpa[į] using hx
   rcases this with rfl|rfl|rfl|rfl
   ·exact RE (by decide +kernel)
   ·exact ZQ ⟨by lia,by lia⟩
   ·exact ZQ ⟨by lia,by lia⟩
   ·exact ZQ ⟨by lia,by lia⟩
theorem ZC{c:Nat}:∀(ys:List (List Nat)) {x:Nat},x∈İ [c] ys->x=c\/∃y∈ys,x∈y
 | [],_,h=>by cases h
 | [y],_,h=>.inr ⟨y,by simp,h⟩
 |y::z::r,x,h=>by
  have h':x∈y ++ [c]++İ [c] (z::r):=h;rcases Ų.mp h' with h1|h1
  ·rcases Ų.mp h1 with h2|h2
   ·exact .inr ⟨y,by simp,h2⟩
   ·exact .inl (by simpa using h2)
  ·rcases ZC (z::r) h1 with e|⟨q,hq,e⟩
   ·exact .inl e
   ·exact .inr ⟨q,í _ hq,e⟩
theorem Zs{c:Nat}:∀(ys:List (List Nat)) (B:Nat),(∀y∈ys,y.length<=B)->(İ [c] ys).length<=ys.length*(B+1)
 | [],B,_=>by simp[İ]
 | [y],B,h=>by have:=h y (by simp);show y.length<=_;simp;lia
 |y::z::r,B,h=>by
  have h1:=h y (by simp);have ih:=Zs (c:=c) (z::r) B λq hq=>h q (í _ hq);show(y ++ [c]++İ [c] (z::r)).length<=_;rw[Ī,Ī];have e:(y::z::r).length*(B+1)=(z::r).length*(B+1)+(B+1):=by rw[þ (a:=y),Nat.add_mul,Nat.one_mul]
  have e1:[c].length=1:=rfl;lia
def ZG{ws:List (List Nat)}(h:∀x∈ws,Wd x)(h0:ws≠[]):Sp.ĥ 32 (Z0 ws)=ws:=Sp.bh 32 ws h0 λy hy z=>by have:=(h y hy).2 32 z;lia
def RF{ws:List (List Nat)}(h:∀x∈ws,Wd x):10∉Z0 ws:=λz=>by
 rcases ZC ws z with e|⟨y,hy,e⟩
 ·cases e
 ·have:=(h y hy).2 10 e;lia
def Zj{ws:List (List Nat)}(h:∀x∈ws,Wd x)(hl:ws.length<=101):(Z0 ws).length<=1212:=by have:=Zs (c:=32) ws 11 λy hy=>(h y hy).1;unfold Z0;have h2:ws.length*(11+1)<=101*12:=cz hl (by lia);lia
def ZA{w h:Int}(hw:1<=w/\w<=20)(hh:1<=h/\h<=20):(∀x∈yT w h,Wd x)/\yT w h≠[]/\(yT w h).length<=101:=by
 refine⟨λx hx=>?_,by simp[yT],by simp[yT]⟩;have:x=wC "yard" \/x=nT w\/x=nT h:=by simpa[yT] using hx
 rcases this with rfl|rfl|rfl
 ·exact RE (by decide +kernel)
 ·exact ZQ ⟨by lia,by lia⟩
 ·exact ZQ ⟨by lia,by lia⟩
def Yl{W:List (List (List Nat))}(h0:W≠[])(h:∀ws∈W,∀x∈ws,Wd x):Sp.ĥ 10 (İ [10] (W.map Z0))=W.map Z0:=by refine Sp.bh 10 _ (by simpa using h0) λy hy=>?_;obtain⟨ws,hw,rfl⟩:=Ĕ.mp hy;exact RF (h ws hw)
def Ym{W:List (List (List Nat))}(hl:W.length<=1000)(h:∀ws∈W,(∀x∈ws,Wd x)/\ws.length<=101):(İ [10] (W.map Z0)).length<=1213000:=by
 have:=Zs (c:=10) (W.map Z0) 1212 λy hy=>by obtain⟨ws,hw,rfl⟩:=Ĕ.mp hy;exact Zj (h ws hw).1 (h ws hw).2
 rw[ď] at this;have h2:W.length*(1212+1)<=1000*1213:=cz hl (by lia);lia
def Zf{c:Nat}(hc:c<256){y:Str}(hy:y=S [c]){l:List Nat}(hl:l.length<=16000000):bi (sV l) [.str y]=some (.ow ((Sp.ĥ c l).map sV)):=by
 have e:BH y=some c:=by rw[hy];rfl
 show((BH y).bind λc=>if c<256/\(S l).length+2<=16777216 then some (RV.ow ((Sp.ĥ c (S l).cps.toList).map λl=>PV.str (S l))) else none)=_;rw[e];show(if c<256/\(S l).length+2<=16777216 then some (RV.ow ((Sp.ĥ c (S l).cps.toList).map λl=>PV.str (S l))) else none)=_;rw[if_pos ⟨hc,by rw[Zc];lia⟩];rfl
def GX:Ä "\n" =S [10]:=by decide +kernel
def RH:Ä " " =S [32]:=by decide +kernel
def Z1M{W:List (List (List Nat))}(hl:W.length<=1000)(h:∀ws∈W,(∀x∈ws,Wd x)/\ws≠[]/\ws.length<=101):Ũ (gN 0) ũ (ß (qF bi (È 0) (Å (mC (.str " ")) á))) ((W.map Z0).map sV) [.no] []=some (W.map λws=>.lst (ws.map sV)):=by
 have:=Ÿ (g:=gN 0) (mt:=ũ) (me:=ß (qF bi (È 0) (Å (mC (.str " ")) á))) (λws=>sV (Z0 ws)) (λws=>PV.lst (ws.map sV)) (λO=>∃s,O=[s]) W [.no] [] ⟨_,rfl⟩ (by simp;lia) (by
  rintro ws hw O ⟨s,rfl⟩;obtain⟨h1,h2,h3⟩:=h ws hw;have e:=Zf (c:=32) (by lia) RH (l:=Z0 ws) (by have:=Zj h1 h3;lia);rw[ZG h1 h2] at e;refine⟨[.sh (sV (Z0 ws))],_,[.sh (sV (Z0 ws))],by simp,rfl,?_,_,rfl⟩;unfold sV at e ⊢;simp[e])
 rw[ľ];simpa[mY] using this
def Zt{T:List Th}{D:List Dz}(hT:∀t∈T,Z2 t.1 t.2=true)(hD:∀d∈D,Z4 d):∀r∈Z1 T D,ZB r:=by
 intro r hr;rcases Ų.mp hr with hr|hr
 ·obtain⟨t,ht,rfl⟩:=Ĕ.mp hr;exact hT t ht
 ·obtain⟨d,hd,hr⟩:=List.mem_flatMap.mp hr;obtain⟨g1,g2,g3,_,_,g6⟩:=hD d hd;rcases Č.mp hr with rfl|hr
  ·exact⟨g1,g2,g3⟩
  ·obtain⟨o,ho,rfl⟩:=Ĕ.mp hr;exact g6 o ho
def Wn{T:List Th}{D:List Dz}(hT:T.length<=40)(hD:∀d∈D,Z4 d)(hl:D.length<=12):(Z1 T D).length<=400:=by
 have:∀D:List Dz,(∀d∈D,Z4 d)->(D.flatMap λd=>Rw.dy d.1 d.2.1::d.2.2.map Rw.tn).length<=D.length*25:=by
  intro D
  induction D with
  |nil=>intro _;simp
  |cons d D ih=>intro h;have h1:=ih λx hx=>h x (í _ hx);have h2:=(h d (by simp)).2.2.2.2.1;rw[ϙ,Ī,þ,þ,ď];lia
 have:=this D hD;unfold Z1;rw[Ī,ď];lia
def Wo(T:List Th)(D:List Dz):((Z1 T D).map λr=>PV.lst ((į r).map sV))=T.map (λt=>eP (.th t))++D.flatMap aT:=by
 have e:∀r,PV.lst ((į r).map sV)=eP r:=λr=>by unfold eP;rw[RD]
 unfold Z1;rw[fw λr _=>e r,Ģ,ľ,List.map_flatMap];congr 1;have:(λd:Dz=>List.map (λr=>eP r) (Rw.dy d.1 d.2.1::d.2.2.map Rw.tn))=aT:=funext λd=>by rw[Ý,ľ];rfl
 rw[this]
def Z2K{w h:Int}(hw:1<=w/\w<=20)(hh:1<=h/\h<=20){T:List Th}(hT:∀t∈T,Z2 t.1 t.2=true)(qm:T.length<=40){D:List Dz}(hD:∀d∈D,Z4 d)(qh:D.length<=12)(hn:(D.map (·.1)).Nodup):aZ [.sh (sV (n_ w h T D))]=.ret (.sh (Zd w h T (D.map zV))):=by
 obtain⟨y1,y2,y3⟩:=ZA hw hh;have hW:∀ws∈yT w h::(Z1 T D).map į,(∀x∈ws,Wd x)/\ws≠[]/\ws.length<=101:=λws hws=>by
  rcases Č.mp hws with rfl|hws
  ·exact⟨y1,y2,y3⟩
  ·obtain⟨r,hr,rfl⟩:=Ĕ.mp hws;exact Zz (Zt hT hD r hr)
 have Tr:(yT w h::(Z1 T D).map į).length<=1000:=by have:=Wn qm hD qh;simp;lia
 have eT:n_ w h T D=İ [10] ((yT w h::(Z1 T D).map į).map Z0):=by unfold n_ Ŷ;rw[Ý,ľ];rfl
 have sp:=Zf (c:=10) (by lia) GX (l:=n_ w h T D) (by rw[eT];have:=Ym Tr λws hws=>⟨(hW ws hws).1,(hW ws hws).2.2⟩;lia);rw[eT,Yl (by simp) λws hws=>(hW ws hws).1,<-eT] at sp;have rc:=Z1M Tr hW;have er:((yT w h::(Z1 T D).map į).map λws=>PV.lst (ws.map sV))=PV.lst [.str "yard",ĵ w,ĵ h]::(T.map (λt=>eP (.th t))++D.flatMap aT):=by rw[Ý,ľ,<-Wo];rfl
 rw[er] at rc;have sz:=Wg hw hh;have ct:=Oo (PV.lst [.str "yard",ĵ w,ĵ h]) (T.map (λt=>eP (.th t))++D.flatMap aT);obtain⟨a1,b1,e1⟩:=Tp T [] 1 (D.flatMap aT) (.sh (sV (n_ w h T D))) (.ow (PV.lst [.str "yard",ĵ w,ĵ h]::(T.map (λt=>eP (.th t))++D.flatMap aT))) (.sh (.lst [.int w,.int h])) .no .no hT (by simpa using qm);obtain⟨a2,b2,e2⟩:=Z2H D ([]++T.map ij) [] (1+T.length) (.sh (sV (n_ w h T D))) (.ow (PV.lst [.str "yard",ĵ w,ĵ h]::(T.map (λt=>eP (.th t))++D.flatMap aT))) (.sh (.lst [.int w,.int h])) a1 b1 (by simpa using hD) (by simpa using hn) (by simpa using qh);rw[Ľ] at e2;have lp:=e1.trans e2;rw[ϰ,ϰ] at lp;have lk:=Zr (D:=D);rw[Wi λd e=>by have:=(hD d (fB e)).2.2.2.1;lia] at lk;have yd:=Z2I w h (T:=T) (D:=D) (by lia) (by lia) λd hd=>by have:=(hD d hd).2.2.2.2.1;lia
 have eq:Zd w h T (D.map zV)=.ins "Yard" ["width","height","things","days"] [.int w,.int h,.lst (T.map ij),.lst ((D.map zV).map jV)]:=rfl;rw[eq];generalize (D.map zV).map jV=DY,D.map dD=DD,T.map ij=TH at*;generalize T.map (λt=>eP (.th t))++D.flatMap aT=RR at*;generalize ((yT w h::(Z1 T D).map į).map Z0).map sV=LN,PV.lst [.str "yard",ĵ w,ĵ h]=YR,n_ w h T D=TX at*;unfold sV at sp lp ⊢;generalize S TX=X at*;unfold gC at lp;have pl1:ae (.sh (.str X))=true:=rfl;simp[aZ,pO,Ê,sp,rc,sz,ct];have em:pi (Ia (ß (rH (È 1) (mP (Ï 1)) hU))) [.sh (.str X),.ow (YR::RR),.sh (.lst [.int w,.int h]),.no,.no,.no,.no]=.ok (Ł 1 RR) [.sh (.str X),.ow (YR::RR),.sh (.lst [.int w,.int h]),.no,.no,.no,.no]:=by simp[Ia,ct]
 have tl:(ą (eK (eJ (ß (ā k_ (ä 4 ó)))) (Ĺ "BadRow" 2 [("row",1)] (Å (aP aU (Å (È 1) á)) á)) ge) (Ħ (aw (ce "Yard" jb (Ă (Ô ė (È 2) (Ï 0)) (Ă (Ô ė (È 2) (Ï 1)) (ä 3 (ä 4 ó)))))))) (Ū 3 4 TH DD [.sh (.str X),.ow (YR::RR),.sh (.lst [.int w,.int h]),.no,.no,a2,b2])=.ok (.rt (.sh (.ins "Yard" ["width","height","things","days"] [.int w,.int h,.lst TH,.lst DY]))) (Ū 3 4 TH DD [.sh (.str X),.ow (YR::RR),.sh (.lst [.int w,.int h]),.no,.no,a2,b2]):=by simp[Ū,jp,lk,yd]
 have pa:([.sh (.str X),.ow (YR::RR),.sh (.lst [.int w,.int h]),.no,.no,.no,.no]:ć).all ae=true:=rfl;unfold O_;rw[if_pos ⟨pa,by simp,by simp⟩];simp only[sD,sE,em];rw[if_pos pa,lp];simp only[ĳ.bK,tl];rfl
theorem Yn:∀ys:List (List Nat),jT (ys.map sV)=some ys
 | []=>rfl
 |y::ys=>by rw[Ý];show(jT (ys.map sV)).map ((S y).cps.toList:: ·)=_;rw[Yn ys];rfl
theorem Yo:∀(ys:List (List Nat)) (B:Nat),(∀y∈ys,y.length<=B)->(ys.map aF).sum<=ys.length*B
 | [],_,_=>by simp
 |y::ys,B,h=>by have h1:=h y (by simp);have ih:=Yo ys B λq hq=>h q (í _ hq);rw[Ý,List.sum_cons,þ,Nat.add_mul];lia
def Wp{c:Nat}{y:Str}(hy:y=S [c]){ys:List (List Nat)}{B:Nat}(h:∀x∈ys,x.length<=B)(hl:ys.length*(B+1)<=16000000):eZ (.str y) [.lst (ys.map sV)]=some (sV (İ [c] ys)):=by rw[hy];show((jT (ys.map sV)).bind λys=>if(ys.map aF).sum+ys.length*(S [c]).length<=16777216 then some (PV.str (S (İ (S [c]).cps.toList ys))) else none)=_;rw[Yn];have h1:=Yo ys B h;have h2:(S [c]).length=1:=rfl;show(if(ys.map aF).sum+ys.length*(S [c]).length<=16777216 then some (PV.str (S (İ [c] ys))) else none)=_;rw[h2,if_pos (by rw[Nat.mul_add] at hl;lia)];rfl
def ZR{ws:List (List Nat)}(h:∀x∈ws,Wd x)(hl:ws.length<=101):eZ (.str " ") [.lst (ws.map sV)]=some (sV (Z0 ws)):=
 Wp RH (B:=11) (λx hx=>(h x hx).1) (by have:ws.length*(11+1)<=101*12:=cz hl (by lia);lia)
def Yp{n:Int}(h:Nb n):n.natAbs.log2<1920:=by
 have:n.natAbs<2 ^ 1920:=by
  have h1:n.natAbs<2 ^ 34:=by unfold Nb at h;lia
  exact ŕ h1 (Nat.pow_le_pow_right (by lia) (by lia))
 by_cases h0:n.natAbs=0
 ·rw[h0];decide
 ·exact(Nat.log2_lt h0).mpr this
def Za{n:Int}(h:Nb n):bO [.int n]=some (ĵ n):=by show(if n.natAbs.log2<1920 then some (PV.str (Ä (ϸ n))) else none)=_;rw[if_pos (Yp h),Yb];rfl
def Yq{ns:List Int}(hn:∀n∈ns,Nb n)(hl:ns.length<=1000):Ũ (gN 0) ũ (aP bO (Å (È 0) á)) (ns.map .int) [.no] []=some (ns.map ĵ):=by
 have:=Ÿ (g:=gN 0) (mt:=ũ) (me:=aP bO (Å (È 0) á)) PV.int ĵ (λO=>∃s,O=[s]) ns [.no] [] ⟨_,rfl⟩ (by simp;lia) (by
  rintro x hx O ⟨s,rfl⟩;have e:=Za (hn x hx);exact⟨[.sh (.int x)],_,[.sh (.int x)],by simp,rfl,by simp[e,-pp],_,rfl⟩)
 simpa using this
def Z34{C:String}(hC:(["Thing","Post","Fence","Sail","Cloth","House"]:List String).contains C=true)(w:Str)(xs:List Int):dm ["Thing","Post","Fence","Sail","Cloth","House"] (Ä "word") (Zp C w xs)=some (.str w):=by unfold dm Zp;dsimp only;rw[if_pos hC];simp
def Z35{C:String}(hC:(["Thing","Post","Fence","Sail","Cloth","House"]:List String).contains C=true)(w:Str)(xs:List Int):dm ["Thing","Post","Fence","Sail","Cloth","House"] (Ä "numbers") (Zp C w xs)=some (.lst (xs.map .int)):=by
 have:(Ä "numbers" == Ä "word")=false:=by decide +kernel
 unfold dm Zp;dsimp only;rw[if_pos hC];simp[ņ,this]
def Yr(w:Str):(["Thing","Post","Fence","Sail","Cloth","House"]:List String).contains (Zu w)=true:=by
 unfold Zu
 repeat' split
 all_goals decide
def Z2f{t:Th}(hg:Z2 t.1 t.2=true):Ŋ [.sh (ij t)]=.ret (.sh (sV (Z0 (į (.th t))))):=by
 obtain⟨h1,h2,h3⟩:=Zz (r:=.th t) hg;have j:=ZR h1 h3;have e:(į (.th t)).map sV=.str t.1::t.2.map ĵ:=RD (.th t);rw[e] at j;have f1:=Z34 (Yr t.1) t.1 t.2;have f2:=Z35 (Yr t.1) t.1 t.2;have c:=Yq (Zi hg).1 (by have:=(Zi hg).2;lia);have hl:(t.2.map ĵ).length<=1000:=by have:=(Zi hg).2;simp;lia
 change dm _ _ (ij t)=_ at f1;change dm _ _ (ij t)=_ at f2;have ad:ô (.lst [.str t.1]) (.lst (t.2.map ĵ))=some (.ow (.str t.1::t.2.map ĵ)):=by rw[dG (by simp only[þ,io];lia)];rfl
 generalize ij t=V,t.2.map ĵ=X,t.2.map PV.int=Qqj,sV (Z0 (į (.th t)))=Z at*;simp[Ŋ,Eu,Ê,f1,f2,c,ad,j]
def Z2g{o:Option P3}(ho:Zq o):pE [.sh (a_ o)]=.ret (.sh (sV (Z0 (į (.tn o))))):=by
 cases o with
 |none=>have e:sV (Z0 (į (.tn none)))=.str "night" := congrArg PV.str (Qqq3 _);rw[e];simp[pE,yD,Ê,a_,Ft]
 |some r=>
  obtain⟨h1,h2,h3⟩:=Zz (r:=.tn (some r)) ho;have j:=ZR h1 h3;obtain⟨b1,b2,b3,b4,b5,b6⟩:=ho;have e:(į (.tn (some r))).map sV=[.str "ray",ĵ r.1,ĵ r.2.1,ĵ r.2.2]:=rfl;rw[e] at j;have c:=Yq (ns:=[r.1,r.2.1,r.2.2]) (λn hn=>by simp at hn;unfold Nb;lia) (by simp);simp only[Ý,Ľ] at c;have ad:ô (.lst [.str "ray"]) (.lst [ĵ r.1,ĵ r.2.1,ĵ r.2.2])=some (.ow [.str "ray",ĵ r.1,ĵ r.2.1,ĵ r.2.2]):=by rw[dG (by simp)];rfl
  generalize sV (Z0 (į (.tn (some r))))=Z,ĵ r.1=A,ĵ r.2.1=B,ĵ r.2.2=C at*;simp[pE,yD,Ê,a_,c3,Ft,c,ad,j]
def Z1x{T:List Th}(hT:∀t∈T,Z2 t.1 t.2=true)(hl:T.length<=1000):Ũ (gN 0) ũ (ß (wz "shown" [("Thing",Ŋ),("Post",Ŋ),("Fence",Ŋ),("Sail",Ŋ),("Cloth",Ŋ),("House",Ŋ)] (ì 0) ó)) (T.map ij) [.no] []=some (T.map λt=>sV (Z0 (į (.th t)))):=by
 have:=Ÿ (g:=gN 0) (mt:=ũ) (me:=ß (wz "shown" [("Thing",Ŋ),("Post",Ŋ),("Fence",Ŋ),("Sail",Ŋ),("Cloth",Ŋ),("House",Ŋ)] (ì 0) ó)) ij (λt=>sV (Z0 (į (.th t)))) (λO=>∃s,O=[s]) T [.no] [] ⟨_,rfl⟩ (by simp;lia) (by
  rintro t ht O ⟨s,rfl⟩;have e:=Z2f (hT t ht);have lk:([("Thing",Ŋ),("Post",Ŋ),("Fence",Ŋ),("Sail",Ŋ),("Cloth",Ŋ),("House",Ŋ)]:List (String×MF)).lookup (Zu t.1)=some Ŋ:=by have:=Wl (hT t ht);rcases this with h|h|h|h|h<;>rw[h]<;>rfl
  refine⟨[.sh (ij t)],_,[.sh (ij t)],by simp,rfl,?_,_,rfl⟩;have ev:ij t=.ins (Zu t.1) ["word","numbers"] [.str t.1,.lst (t.2.map .int)]:=rfl;rw[ev] at e ⊢;generalize sV (Z0 (į (.th t)))=Z,t.2.map PV.int=Qqj,Zu t.1=C at*;have d1:(Ä "shown" =Ä "word")=False:=eq_false (by decide +kernel);have d2:(Ä "shown" =Ä "numbers")=False:=eq_false (by decide +kernel);simp[lk,e,d1,d2])
 simpa using this
def Z1b{os:List (Option P3)}(ho:∀o∈os,Zq o)(hl:os.length<=1000):Ũ (gN 0) ũ (ß (ā pE (ä 0 ó))) (os.map a_) [.no] []=some (os.map λo=>sV (Z0 (į (.tn o)))):=by
 have:=Ÿ (g:=gN 0) (mt:=ũ) (me:=ß (ā pE (ä 0 ó))) a_ (λo=>sV (Z0 (į (.tn o)))) (λO=>∃s,O=[s]) os [.no] [] ⟨_,rfl⟩ (by simp;lia) (by
  rintro o h O ⟨s,rfl⟩;have e:=Z2g (ho o h);refine⟨[.sh (a_ o)],_,[.sh (a_ o)],by simp,rfl,?_,_,rfl⟩;generalize sV (Z0 (į (.tn o)))=Z,a_ o=V at*;simp[e])
 simpa using this
def Z3z{l:List Nat}{t:Int}(h:Nb t)(hl:l.length<=100)(s0 s1 s4:az):GU [mC (.str "day "),BI (ì 2),mC (.str " "),BI (ì 3)] dX [s0,s1,.sh (sV l),.sh (.int t),s4]=.ok (sV (Z0 (į (.dy l t)))) [s0,s1,.sh (sV l),.sh (.int t),s4]:=by
 have e1:dX++Ä "day " =S (wC "day" ++ [32]):=by decide +kernel
 have e2:S (wC "day" ++ [32])++S l=S (wC "day" ++ [32]++l):=bF (by simp[nF]);have e3:S (wC "day" ++ [32]++l)++Ä " " =S (wC "day" ++ [32]++l ++ [32]):=by rw[RH];exact bF (by simp[nF])
 have e4:S (wC "day" ++ [32]++l ++ [32])++S (nT t)=S (wC "day" ++ [32]++l ++ [32]++nT t):=bF (by simp[nF]);have e5:Z0 (į (.dy l t))=wC "day" ++ [32]++l ++ [32]++nT t:=by show wC "day" ++ [32]++(l ++ [32]++nT t)=_;simp
 have l0:(wC "day").length=3:=by decide +kernel
 have ln:=(ZY h.1 h.2).2;have k1:(S (wC "day" ++ [32])).length<=16777216:=by rw[Zc];simp[l0]
 have k2:(S (wC "day" ++ [32]++l)).length<=16777216:=by rw[Zc];simp[l0];lia
 have k3:(S (wC "day" ++ [32]++l ++ [32])).length<=16777216:=by rw[Zc];simp[l0];lia
 have k4:(S (wC "day" ++ [32]++l ++ [32]++nT t)).length<=16777216:=by rw[Zc];simp[l0];lia
 have kl:(S l).length<=16777216:=by rw[Zc];lia
 have lg:=Yp h;have st:=Yb t;rw[e5];unfold sV;simp only[Ei,Eh,Nd,mC,Qd,fA,List.getElem?_cons_zero,ĳ.bK,e1,e2,e3,e4,k1,k2,k3,k4,kl,lg,st,if_true]
def lv(d:Dz):List (List Nat):=Z0 (į (.dy d.1 d.2.1))::d.2.2.map λo=>Z0 (į (.tn o))
def Ys{d:Dz}(h:Z4 d):(lv d).length<=25:=by have:=h.2.2.2.2.1;simp[lv];lia
theorem Yt(Qqj:PV):∀(D:List Dz) (R:List (List Nat)) (a b c:az),(∀d∈D,Z4 d)->R.length+25*D.length<=1000->∃a' b' c',aC (gT 3 (Ĳ (gN 2) (Ĳ (gN 3) (Ĳ (gN 4) gu)))) vi ((D.map zV).map jV) [.sh Qqj,.ow (R.map sV),a,b,c]=.ok .nx [.sh Qqj,.ow ((R++D.flatMap lv).map sV),a',b',c']
 | [],R,a,b,c,_,_=>⟨a,b,c,by simp[aC]⟩
 |d::D,R,a,b,c,hD,hl=>by
  have hd:=hD d (by simp);obtain⟨g1,g2,g3,g4,g5,g6⟩:=id hd;rw[þ] at hl;have hz:=Ys hd;obtain⟨a',b',c',e⟩:=Yt Qqj D (R++lv d) (.sh (sV d.1)) (.sh (.int d.2.1)) (.sh (.lst (d.2.2.map a_))) (λx hx=>hD x (í _ hx)) (by rw[Ī];lia);refine⟨a',b',c',?_⟩;have e2:jV (zV d)=.tup [sV d.1,.int d.2.1,.lst (d.2.2.map a_)]:=rfl;have hg:gT 3 (Ĳ (gN 2) (Ĳ (gN 3) (Ĳ (gN 4) gu))) (jV (zV d)) [.sh Qqj,.ow (R.map sV),a,b,c]=some [.sh Qqj,.ow (R.map sV),.sh (sV d.1),.sh (.int d.2.1),.sh (.lst (d.2.2.map a_))]:=by rw[e2];rfl
  have st:vi [.sh Qqj,.ow (R.map sV),.sh (sV d.1),.sh (.int d.2.1),.sh (.lst (d.2.2.map a_))]=.ok .nx [.sh Qqj,.ow ((R++lv d).map sV),.sh (sV d.1),.sh (.int d.2.1),.sh (.lst (d.2.2.map a_))]:=by
   have e3:=Z3z (l:=d.1) (t:=d.2.1) ⟨by lia,by lia⟩ (by have:=g1.2.1;lia) (.sh Qqj) (.ow (R.map sV)) (.sh (.lst (d.2.2.map a_)));have e4:=Z1b g6 (by lia);have er:(R++lv d).map sV=R.map sV ++ [sV (Z0 (į (.dy d.1 d.2.1)))]++d.2.2.map (λo=>sV (Z0 (į (.tn o)))):=by unfold lv;rw[Ģ,Ý,ľ];simp[mY]
   have k1:(R.map sV).length<16777216:=by simp;lia
   have k2:(R.map sV).length+1+(d.2.2.map (λo=>sV (Z0 (į (.tn o))))).length<=16777216:=by simp;lia
   rw[er];generalize R.map sV=RR,d.2.2.map a_=TT at*;generalize (d.2.2.map λo=>sV (Z0 (į (.tn o))))=OO at*;generalize sV (Z0 (į (.dy d.1 d.2.1)))=DD,sV d.1=N at*;simp[vi,e3,e4,k1,k2,-Ei,-Eh]
  rw[Ý,Ý,aC,hg];dsimp only;rw[st];refine Eq.trans e ?_;rw[ϙ,bq]
def Ts(w h:Int)(T:List Th)(D:List Dz):Ŷ w h T D=Z0 (yT w h)::(T.map (λt=>Z0 (į (.th t)))++D.flatMap lv):=by
 unfold Ŷ Z1;rw[Ģ,ľ,List.map_flatMap];have:(λd:Dz=>List.map (λr=>Z0 (į r)) (Rw.dy d.1 d.2.1::d.2.2.map Rw.tn))=lv:=funext λd=>by rw[Ý,ľ];rfl
 rw[this];rfl
def Z2L{w h:Int}{T:List Th}{D:List Dz}(qm:T.length<=40)(hD:∀d∈D,Z4 d)(qh:D.length<=12):(Ŷ w h T D).length<=401:=by have:=Wn qm hD qh;simp[Ŷ];lia
def Z36{w h:Int}(hw:1<=w/\w<=20)(hh:1<=h/\h<=20){T:List Th}(hT:∀t∈T,Z2 t.1 t.2=true){D:List Dz}(hD:∀d∈D,Z4 d):∀x∈Ŷ w h T D,x.length<=1212:=λx hx=>by
 rcases Č.mp hx with rfl|hx
 ·obtain⟨y1,y2,y3⟩:=ZA hw hh;exact Zj y1 y3
 ·obtain⟨r,hr,rfl⟩:=Ĕ.mp hx;obtain⟨y1,y2,y3⟩:=Zz (Zt hT hD r hr);exact Zj y1 y3
def Yu{w h:Int}(hw:1<=w/\w<=20)(hh:1<=h/\h<=20){T:List Th}(hT:∀t∈T,Z2 t.1 t.2=true)(qm:T.length<=40){D:List Dz}(hD:∀d∈D,Z4 d)(qh:D.length<=12):eZ (.str "\n") [.lst ((Ŷ w h T D).map sV)]=some (sV (n_ w h T D)):=
 Wp GX (B:=1212) (Z36 hw hh hT hD) (by have:=Z2L (w:=w) (h:=h) qm hD qh;have:(Ŷ w h T D).length*(1212+1)<=401*1213:=cz this (by lia);lia)
def Z2M{w h:Int}(hw:1<=w/\w<=20)(hh:1<=h/\h<=20){T:List Th}(hT:∀t∈T,Z2 t.1 t.2=true)(qm:T.length<=40){D:List Dz}(hD:∀d∈D,Z4 d)(qh:D.length<=12):A_ [.sh (Zd w h T (D.map zV))]=.ret (.sh (sV (n_ w h T D))):=by
 obtain⟨y1,y2,y3⟩:=ZA hw hh;have j0:=ZR y1 y3;have ey:(yT w h).map sV=[.str "yard",ĵ w,ĵ h]:=rfl;rw[ey] at j0;have n1:=Za (n:=w) ⟨by lia,by lia⟩;have n2:=Za (n:=h) ⟨by lia,by lia⟩;have c1:=Z1x hT (by lia);obtain⟨a',b',c',lp⟩:=Yt (Zd w h T (D.map zV)) D (Z0 (yT w h)::T.map (λt=>Z0 (į (.th t)))) .no .no .no hD (by simp;lia);have jn:=Yu hw hh hT qm hD qh;rw[Ts] at jn;rw[ſ] at lp;have er:(Z0 (yT w h)::T.map (λt=>Z0 (į (.th t)))).map sV=sV (Z0 (yT w h))::T.map λt=>sV (Z0 (į (.th t))):=by rw[Ý,ľ];rfl
 rw[er] at lp;have k1:1+(T.map λt=>sV (Z0 (į (.th t)))).length<=16777216:=by simp;lia
 have f1:=y_w w h T (D.map zV);have f2:=y_h w h T (D.map zV);have f3:=y_t w h T (D.map zV);have f4:=y_d w h T (D.map zV);generalize Zd w h T (D.map zV)=Qqj,T.map ij=TH,(D.map zV).map jV=DY at*;generalize (T.map λt=>sV (Z0 (į (.th t))))=TS at*;generalize sV (Z0 (yT w h))=Z at*;generalize (Z0 (yT w h)::(T.map (λt=>Z0 (į (.th t)))++D.flatMap lv)).map sV=LL at*;generalize sV (n_ w h T D)=TX at*;simp[A_,Ev,Ê,f1,f2,f3,f4,n1,n2,j0,c1,lp,jn,k1,-pp]
def pW:Rw->List (PV×List Nat)
 | .th t=>(.str t.1,t.1.cps.toList)::t.2.map λn=>(.int n,nT n)
 | .dy l t=>[(.str "day",wC "day"),(sV l,l),(.int t,nT t)]
 | .tn none=>[(.str "night",wC "night")]
 | .tn (some r)=>[(.str "ray",wC "ray"),(.int r.1,nT r.1),(.int r.2.1,nT r.2.1),(.int r.2.2,nT r.2.2)]
theorem Z3A:∀r:Rw,(pW r).map (·.2)=į r
 | .th t=>by unfold pW į;rw[Ý,ľ];rfl
 | .dy _ _=>rfl
 | .tn none=>rfl
 | .tn (some _)=>rfl
def Tt(s:String):bO [.str s]=some (sV (wC s)):=congrArg (λz=>some (PV.str z)) (Qqq3 _).symm
theorem Z3n:∀{r:Rw},ZB r->∀x∈pW r,bO [x.1]=some (sV x.2)
 | .th t,h=>fun x hx=>by
   have h':Z2 t.1 t.2=true:=h;rcases Č.mp hx with rfl|hx
   ·exact congrArg (λz=>some (PV.str z)) (Qqq3 _).symm
   ·obtain⟨n,hn,rfl⟩:=Ĕ.mp hx;exact Za ((Zi h').1 n hn)
 | .dy l t,⟨h1,h2,h3⟩=>fun x hx=>by
   have:x=(.str "day",wC "day")\/x=(sV l,l)\/x=(.int t,nT t):=by simpa[pW] using hx
   rcases this with rfl|rfl|rfl
   ·exact Tt _
   ·rfl
   ·exact Za ⟨by lia,by lia⟩
 | .tn none,_=>fun x hx=>by
   have:x=(.str "night",wC "night"):=by simpa[pW] using hx
   subst this;exact Tt _
 | .tn (some r),⟨h1,h2,h3,h4,h5,h6⟩=>fun x hx=>by
   have:x=(.str "ray",wC "ray")\/x=(.int r.1,nT r.1)\/x=(.int r.2.1,nT r.2.1)\/x=(.int r.2.2,nT r.2.2):=by simpa[pW] using hx
   rcases this with rfl|rfl|rfl|rfl
   ·exact Tt _
   ·exact Za ⟨by lia,by lia⟩
   ·exact Za ⟨by lia,by lia⟩
   ·exact Za ⟨by lia,by lia⟩
def Yv{ws:List (PV×List Nat)}(h:∀x∈ws,bO [x.1]=some (sV x.2))(h1:∀x∈ws,Wd x.2)(hl:ws.length<=101):gv [.sh (.lst (ws.map (·.1)))]=.ret (.sh (sV (Z0 (ws.map (·.2))))):=by
 have c:=Ÿ (g:=gN 0) (mt:=ũ) (me:=aP bO (Å (È 0) á)) (λx:PV×List Nat=>x.1) (λx=>sV x.2) (λO=>∃s,O=[s]) ws [.no] [] ⟨_,rfl⟩ (by simp;lia) (by
  rintro x hx O ⟨s,rfl⟩;have e:=h x hx;refine⟨[.sh x.1],_,[.sh x.1],by simp,rfl,?_,_,rfl⟩;generalize x.1=P at*;simp[e])
 rw[ϰ] at c;have j:=ZR (ws:=ws.map (·.2)) (λy hy=>by obtain⟨x,hx,rfl⟩:=Ĕ.mp hy;exact h1 x hx) (by simpa using hl);rw[ľ] at j;have ec:(sV ∘ λx:PV×List Nat=>x.2)=λx=>sV x.2:=rfl;rw[ec] at j;generalize ws.map (λx=>x.1)=A at*;generalize ws.map (λx=>sV x.2)=B at*;generalize sV (Z0 (ws.map (·.2)))=Z at*;simp[gv,Er,Ê,c,j]
def Wq{r:Rw}(h:ZB r):gv [.sh (.lst ((pW r).map (·.1)))]=.ret (.sh (sV (Z0 (į r)))):=by obtain⟨h1,h2,h3⟩:=Zz h;rw[<-Z3A] at h1 h3 ⊢;exact Yv (Z3n h) (λx hx=>h1 _ (Ĕ.mpr ⟨x,hx,rfl⟩)) (by simpa using h3)
def qP(t:Th):PV:=.lst (.str t.1::t.2.map .int)
def Z1P{t:Th}(h:Z2 t.1 t.2=true):gv [.sh (qP t)]=.ret (.sh (sV (Z0 (į (.th t))))):=by
 have:=Wq (r:=.th t) h;have e:(pW (.th t)).map (·.1)=.str t.1::t.2.map .int:=by unfold pW;rw[Ý,ľ];rfl
 rw[e] at this;exact this
def Z1c{T:List Th}(hT:∀t∈T,Z2 t.1 t.2=true)(hl:T.length<=1000):Ũ (gN 0) ũ (ß (ā gv (ä 0 ó))) (T.map qP) [.no] []=some (T.map λt=>sV (Z0 (į (.th t)))):=by
 have:=Ÿ (g:=gN 0) (mt:=ũ) (me:=ß (ā gv (ä 0 ó))) qP (λt=>sV (Z0 (į (.th t)))) (λO=>∃s,O=[s]) T [.no] [] ⟨_,rfl⟩ (by simp;lia) (by
  rintro t ht O ⟨s,rfl⟩;have e:=Z1P (hT t ht);refine⟨[.sh (qP t)],_,[.sh (qP t)],by simp,rfl,?_,_,rfl⟩;generalize qP t=V,sV (Z0 (į (.th t)))=Z at*;simp[e])
 simpa using this
def Z2N{o:Option P3}(ho:Zq o){R:List PV}(hR:R.length<1000)(s0 s1 s2 s3 s5 s6 s7:az):sf [s0,s1,s2,s3,.ow R,s5,s6,s7,.sh (a_ o)]=.ok .nx [s0,s1,s2,s3,.ow (R ++ [sV (Z0 (į (.tn o)))]),s5,s6,s7,.sh (a_ o)]:=by
 have k1:R.length<16777216:=by lia
 cases o with
 |none=>have e:sV (Z0 (į (.tn none)))=.str "night" := congrArg PV.str (Qqq3 _);rw[e];simp[sf,a_,Ft,k1]
 |some r=>
  have j:=Wq (r:=.tn (some r)) ho;have e:(pW (.tn (some r))).map (·.1)=[.str "ray",.int r.1,.int r.2.1,.int r.2.2]:=rfl;rw[e] at j;have ad:ô (.lst [.str "ray"]) (.lst [.int r.1,.int r.2.1,.int r.2.2])=some (.ow [.str "ray",.int r.1,.int r.2.1,.int r.2.2]):=by rw[dG (by simp)];rfl
  generalize sV (Z0 (į (.tn (some r))))=Z at*;simp[sf,a_,c3,Ft,k1,j,ad]
theorem Yw(s0 s1 s2 s3 s5 s6 s7:az):∀(os:List (Option P3)) (R:List PV) (s8:az),(∀o∈os,Zq o)->R.length+os.length<=1000->∃Wr,aC (gN 8) sf (os.map a_) [s0,s1,s2,s3,.ow R,s5,s6,s7,s8]=.ok .nx [s0,s1,s2,s3,.ow (R++os.map λo=>sV (Z0 (į (.tn o)))),s5,s6,s7,Wr]
 | [],R,s8,_,_=>⟨s8,by simp[aC]⟩
 |o::os,R,s8,h,hl=>by rw[þ] at hl;have st:=Z2N (h o (by simp)) (R:=R) (by lia) s0 s1 s2 s3 s5 s6 s7;obtain⟨Wr,e⟩:=Yw s0 s1 s2 s3 s5 s6 s7 os (R ++ [sV (Z0 (į (.tn o)))]) (.sh (a_ o)) (λx hx=>h x (í _ hx)) (by simp;lia);refine⟨Wr,?_⟩;rw[Ý,aC];show(sf [s0,s1,s2,s3,.ow R,s5,s6,s7,.sh (a_ o)]).bind _=_;rw[st];refine Eq.trans e ?_;simp
theorem Yx(s0 s1 s2 s3:az):∀(D:List Dz) (R:List (List Nat)) (a b c d:az),(∀d∈D,Z4 d)->R.length+25*D.length<=1000->∃a' b' c' d',aC (gT 3 (Ĳ (gN 5) (Ĳ (gN 6) (Ĳ (gN 7) gu)))) AY ((D.map zV).map jV) [s0,s1,s2,s3,.ow (R.map sV),a,b,c,d]=.ok .nx [s0,s1,s2,s3,.ow ((R++D.flatMap lv).map sV),a',b',c',d']
 | [],R,a,b,c,d,_,_=>⟨a,b,c,d,by simp[aC]⟩
 |d::D,R,a,b,c,f,hD,hl=>by
  have hd:=hD d (by simp);obtain⟨g1,g2,g3,g4,g5,g6⟩:=id hd;rw[þ] at hl;have hz:=Ys hd;obtain⟨f1,ef⟩:=Yw s0 s1 s2 s3 (.sh (sV d.1)) (.sh (.int d.2.1)) (.sh (.lst (d.2.2.map a_))) d.2.2 (R.map sV ++ [sV (Z0 (į (.dy d.1 d.2.1)))]) f g6 (by simp;lia);obtain⟨a',b',c',d',e⟩:=Yx s0 s1 s2 s3 D (R++lv d) (.sh (sV d.1)) (.sh (.int d.2.1)) (.sh (.lst (d.2.2.map a_))) f1 (λx hx=>hD x (í _ hx)) (by rw[Ī];lia);refine⟨a',b',c',d',?_⟩;have e2:jV (zV d)=.tup [sV d.1,.int d.2.1,.lst (d.2.2.map a_)]:=rfl;have hg:gT 3 (Ĳ (gN 5) (Ĳ (gN 6) (Ĳ (gN 7) gu))) (jV (zV d)) [s0,s1,s2,s3,.ow (R.map sV),a,b,c,f]=some [s0,s1,s2,s3,.ow (R.map sV),.sh (sV d.1),.sh (.int d.2.1),.sh (.lst (d.2.2.map a_)),f]:=by rw[e2];rfl
  have st:AY [s0,s1,s2,s3,.ow (R.map sV),.sh (sV d.1),.sh (.int d.2.1),.sh (.lst (d.2.2.map a_)),f]=.ok .nx [s0,s1,s2,s3,.ow ((R++lv d).map sV),.sh (sV d.1),.sh (.int d.2.1),.sh (.lst (d.2.2.map a_)),f1]:=by
   have j:=Wq (r:=.dy d.1 d.2.1) ⟨g1,g2,g3⟩;have ep:(pW (.dy d.1 d.2.1)).map (·.1)=[.str "day",sV d.1,.int d.2.1]:=rfl;rw[ep] at j;have er:(R++lv d).map sV=R.map sV ++ [sV (Z0 (į (.dy d.1 d.2.1)))]++d.2.2.map (λo=>sV (Z0 (į (.tn o)))):=by unfold lv;rw[Ģ,Ý,ľ];simp[mY]
   have k1:(R.map sV).length<16777216:=by simp;lia
   rw[er];generalize R.map sV=RR,d.2.2.map a_=TT at*;generalize (d.2.2.map λo=>sV (Z0 (į (.tn o))))=OO at*;generalize sV (Z0 (į (.dy d.1 d.2.1)))=DD,sV d.1=N at*;rw[<-ef];simp[AY,j,k1]
  rw[Ý,Ý,aC,hg];dsimp only;rw[st];refine Eq.trans e ?_;rw[ϙ,bq]
def Z2O{w h:Int}(hw:1<=w/\w<=20)(hh:1<=h/\h<=20){T:List Th}(hT:∀t∈T,Z2 t.1 t.2=true)(qm:T.length<=40){D:List Dz}(hD:∀d∈D,Z4 d)(qh:D.length<=12):GY [.sh (.int w),.sh (.int h),.bw (T.map qP),.bw ((D.map zV).map jV)]=.ret (.sh (sV (n_ w h T D))):=by
 obtain⟨y1,y2,y3⟩:=ZA hw hh;have j0:=Yv (ws:=[(.str "yard",wC "yard"),(.int w,nT w),(.int h,nT h)]) (λx hx=>by
  have:x=(.str "yard",wC "yard")\/x=(.int w,nT w)\/x=(.int h,nT h):=by simpa using hx
  rcases this with rfl|rfl|rfl
  ·exact Tt _
  ·exact Za ⟨by lia,by lia⟩
  ·exact Za ⟨by lia,by lia⟩) (λx hx=>y1 _ (by
  have:x=(.str "yard",wC "yard")\/x=(.int w,nT w)\/x=(.int h,nT h):=by simpa using hx
  rcases this with rfl|rfl|rfl<;>simp[yT])) (by simp)
 change gv [.sh (.lst [.str "yard",.int w,.int h])]=.ret (.sh (sV (Z0 (yT w h)))) at j0;have c1:=Z1c hT (by lia);obtain⟨a',b',c',d',lp⟩:=Yx (.sh (.int w)) (.sh (.int h)) (.bw (T.map qP)) (.bw ((D.map zV).map jV)) D (Z0 (yT w h)::T.map (λt=>Z0 (į (.th t)))) .no .no .no .no hD (by simp;lia);have jn:=Yu hw hh hT qm hD qh;rw[Ts] at jn;rw[ſ] at lp;have er:(Z0 (yT w h)::T.map (λt=>Z0 (į (.th t)))).map sV=sV (Z0 (yT w h))::T.map λt=>sV (Z0 (į (.th t))):=by rw[Ý,ľ];rfl
 rw[er] at lp;have ad:ô (.lst [sV (Z0 (yT w h))]) (.lst (T.map λt=>sV (Z0 (į (.th t)))))=some (.ow (sV (Z0 (yT w h))::T.map λt=>sV (Z0 (į (.th t))))):=by rw[dG (by simp;lia)];rfl
 generalize T.map qP=TH,(D.map zV).map jV=DY at*;generalize (T.map λt=>sV (Z0 (į (.th t))))=TS at*;generalize sV (Z0 (yT w h))=Z at*;generalize (Z0 (yT w h)::(T.map (λt=>Z0 (į (.th t)))++D.flatMap lv)).map sV=LL at*;generalize sV (n_ w h T D)=TX at*;simp[GY,Jc,Ê,j0,c1,ad,lp,jn]
def Z1y(n:Nat):g_ 0 n 1=(ġ n).map λ(i:Nat)=>PV.int (i:Int):=by unfold g_;refine fw λi _=>?_;simp
def Qqq4{n:Nat}(h:n<=1000):b_ [.int (n:Int)]=some ((ġ n).map λ(i:Nat)=>PV.int (i:Int)):=by
 have hs:oQ (n:Int)=true:=by unfold oQ;simp;lia
 unfold b_;simp[hs,Z1y]
def Z2P{r:Rw}(h:ZB r):xz (Z0 (į r)):=λc hc=>by
 obtain⟨h1,h2,h3⟩:=Zz h;rcases ZC _ hc with e|⟨y,hy,e⟩
 ·lia
 ·have:=(h1 y hy).2 c e;lia
theorem Yy:∀{L:List (List Nat)},(∀l∈L,xz l)->aE (L.map sV)=true/\jB (L.map sV)=0
 | [],_=>by simp[aE,jB]
 |l::L,h=>by
  have ih:=Yy (L:=L) λx hx=>h x (í _ hx);have h1:=(h l (by simp)).ok;constructor
  ·rw[Ý];unfold aE;have:Ž (sV l)=true:=by unfold sV Ž;exact h1
   rw[this];exact ih.1
  ·rw[Ý];unfold jB;rw[ih.2];unfold sV qT;rfl
@[simp] theorem Z3Q{x:Int}{n:Nat}(h:n≠0)(h2:n<1073741824):AF x (no_index (Ŗ n):Int)=true:=by unfold AF;have:(no_index (Ŗ n):Int)=(n:Int):=rfl;rw[this];simp;lia
def Hb:wv (.int 10) (.int 9)=some (.int 1000000000):=rfl
def G9(x:Int):Prop:=0<=x/\x<1000000000
theorem Yz(s0 s1 s5 s7 s8:az):∀(ks:List Nat) (acc:List Int) (n:Int) (s4 s6:az),acc.length+ks.length<=100->(∀x∈acc,G9 x)->∃(jU:List Int) (n':Int) (a b:az),aC (gN 4) pw (ks.map λ(i:Nat)=>PV.int (i:Int)) [s0,s1,.ow (acc.map .int),.sh (.int n),s4,s5,s6,s7,s8]=.ok .nx [s0,s1,.ow (jU.map .int),.sh (.int n'),a,s5,b,s7,s8]/\jU.length=acc.length+ks.length/\∀x∈jU,G9 x
 | [],acc,n,s4,s6,_,h=>⟨acc,n,s4,s6,rfl,rfl,h⟩
 |k::ks,acc,n,s4,s6,hl,h=>by
  rw[þ] at hl;obtain⟨jU,n',a,b,e,e2,e3⟩:=Yz s0 s1 s5 s7 s8 ks (acc ++ [n % 1000000000]) (n / 1000000000) (.sh (.int k)) (.sh (.int (n % 1000000000))) (by simp;lia) (by
   intro x hx;rcases Ų.mp hx with hx|hx
   ·exact h x hx
   ·rw[dO.mp hx];unfold G9;lia)
  refine⟨jU,n',a,b,?_,by rw[e2];simp;lia,e3⟩;have k1:acc.length<16777216:=by lia
  have hd:eh [.int n,.int 1000000000]=some (.tup [.int (n / 1000000000),.int (n % 1000000000)]):=by simp[eh]
  have st:pw [s0,s1,.ow (acc.map .int),.sh (.int n),.sh (.int k),s5,s6,s7,s8]=.ok .nx [s0,s1,.ow ((acc ++ [n % 1000000000]).map .int),.sh (.int (n / 1000000000)),.sh (.int k),s5,.sh (.int (n % 1000000000)),s7,s8]:=by simp[pw,Hb,hd,k1,-cU]
  rw[Ý,aC];show(pw [s0,s1,.ow (acc.map .int),.sh (.int n),.sh (.int k),s5,s6,s7,s8]).bind _=_;rw[st];exact e
def Rs(x:Int):Prop:=0<=x/\x<998244353
def Z3B:b_ [.int 2]=some [.int 0,.int 1]:=by rfl
def YA(s0 s1 s4 s6 s7 s8 k:az){acc:List Int}(hl:acc.length<=100){r:Int}(hr:Rs r):∃(r':Int) (a b:az),jJ [s0,s1,.ow (acc.map .int),.sh (.int r),s4,k,s6,s7,s8]=.ok .nx [s0,s1,.ow (acc.map .int),.sh (.int r'),s4,k,s6,a,b]/\Rs r':=by
 have hd:eh [.int r,.int 4099]=some (.tup [.int (r / 4099),.int (r % 4099)]):=by simp[eh]
 obtain⟨h,hh⟩:∃h,r / 4099=h:=⟨_,rfl⟩;obtain⟨l,ON⟩:∃l,r % 4099=l:=⟨_,rfl⟩;unfold Rs at hr;have b1:0<=h/\h<18446744073709551616:=by lia
 have b2:0<=l/\l<18446744073709551616:=by lia
 rw[hh,ON] at hd;obtain⟨S,hS⟩:∃S,l*240007+h*89+1201*(acc.length:Int)+11=S:=⟨_,rfl⟩;refine⟨S % 998244353,.sh (.int h),.sh (.int l),?_,by unfold Rs;lia⟩;have m1:Ϭ l 240007=true:=eo (by lia) (by lia);have m2:Ϭ h 89=true:=eo (by lia) (by lia);have m3:Ϭ 1201 (acc.length:Int)=true:=eo (by lia) (by lia);simp[jJ,hd,m1,m2,m3,hS]
theorem Ws(s0 s4 s6:az){n:Nat}(hn:n<=100):∀(f:Nat) (acc:List Int) (r:Int) (s5 s7 s8:az),acc.length+f=n->(∀x∈acc,G9 x)->Rs r->∃(jU:List Int) (r':Int) (a b c:az),pq [s0,.sh (.int n),.ow (acc.map .int),.sh (.int r),s4,s5,s6,s7,s8]=.ok .nx [s0,.sh (.int n),.ow (jU.map .int),.sh (.int r'),s4,a,s6,b,c]/\jU.length=n/\∀x∈jU,G9 x
 |0,acc,r,s5,s7,s8,hl,h,hr=>by
  refine⟨acc,r,s5,s7,s8,?_,by lia,h⟩;unfold pq;have hm:¬((acc.length:Int)<(n:Int)):=by lia
  rw[gZ];simp[hm]
 |f+1,acc,r,s5,s7,s8,hl,h,hr=>by
  obtain⟨r1,a1,b1,e1,hr1⟩:=YA s0 (.sh (.int n)) s4 s6 s7 s8 (.sh (.int 0)) (acc:=acc) (by lia) hr;obtain⟨r2,a2,b2,e2,T_⟩:=YA s0 (.sh (.int n)) s4 s6 a1 b1 (.sh (.int 1)) (acc:=acc) (by lia) hr1;obtain⟨jU,r',a,b,c,e,q1,q2⟩:=Ws s0 s4 s6 hn f (acc ++ [r2 / 5]) r2 (.sh (.int 1)) a2 b2 (by simp;lia) (by
   intro x hx;rcases Ų.mp hx with hx|hx
   ·exact h x hx
   ·rw[dO.mp hx];unfold G9;unfold Rs at T_;lia) T_
  refine⟨jU,r',a,b,c,?_,q1,q2⟩;have hm:((acc.length:Int)<(n:Int)):=by lia
  have k1:acc.length<16777216:=by lia
  have fr:aC (gN 5) jJ [.int 0,.int 1] [s0,.sh (.int n),.ow (acc.map .int),.sh (.int r),s4,s5,s6,s7,s8]=.ok .nx [s0,.sh (.int n),.ow (acc.map .int),.sh (.int r2),s4,.sh (.int 1),s6,a2,b2]:=by rw[aC];show(jJ [s0,.sh (.int n),.ow (acc.map .int),.sh (.int r),s4,.sh (.int 0),s6,s7,s8]).bind _=_;rw[e1];show aC (gN 5) jJ [.int 1] _=_;rw[aC];show(jJ [s0,.sh (.int n),.ow (acc.map .int),.sh (.int r1),s4,.sh (.int 1),s6,a1,b1]).bind _=_;rw[e2];rfl
  rw[<-e];unfold pq;rw[gZ];simp[hm,Z3B,fr,k1]
def YB(c:Int){n:Nat}(hn:n<=100):∃xs:List Int,mm [.sh (.int c),.sh (.int n)]=.ret (.ow (xs.map .int))/\xs.length=n/\∀x∈xs,G9 x:=by
 by_cases hc:c % 2=0
 ·obtain⟨acc,r,a,b,e,q1,q2⟩:=Yz (.sh (.int c)) (.sh (.int n)) .no .no .no (ġ n) [] (c / 2) .no .no (by simp;lia) (by simp);have rg:=Qqq4 (n:=n) (by lia);rw[Ľ] at e;have m1:Ϭ (n:Int) 1=true:=eo (by lia) (by lia);have q1':acc.length=n:=by simpa using q1
  refine⟨acc,?_,q1',q2⟩;obtain⟨jU,r',a2,b2,c2,e2,q3,q4⟩:=Ws (.sh (.int c)) a b hn 0 acc (r % 998244341+5) .no .no .no (by lia) q2 (by unfold Rs;lia);have:jU=acc:=by
   unfold pq at e2;rw[gZ] at e2;have hm:¬((acc.length:Int)<(n:Int)):=by lia
   simp[hm] at e2;have:=e2.1;exact((List.map_inj_right (λ_ _ h=>by injection h)).mp this).symm
  subst this;simp[mm,yC,Ê,hc,rg,e,e2,m1]
 ·have TU:c % 2=1:=by lia
  obtain⟨jU,r',a2,b2,c2,e2,q3,q4⟩:=Ws (.sh (.int c)) .no .no hn n [] ((c / 2) % 998244341+5) .no .no .no (by simp) (by simp) (by unfold Rs;lia);rw[Ľ] at e2;have m1:Ϭ (n:Int) 0=true:=eo (by lia) (by lia);have rg:b_ [.int 0]=some []:=by rfl
  refine⟨jU,?_,q3,q4⟩;simp[mm,yC,Ê,TU,rg,aC,e2,m1]
theorem Z3o:∀(xs:List Int),xs.length=11->∃a b c d e f g h i j k,xs=[a,b,c,d,e,f,g,h,i,j,k]
 | [a,b,c,d,e,f,g,h,i,j,k],_=>⟨a,b,c,d,e,f,g,h,i,j,k,rfl⟩
def vZ{a b:String}(h:decide (Ä a=Ä b)=false):¬(Ä a=Ä b):=of_decide_eq_false h
def sm(x:Int):Prop:=-100<=x/\x<=100
def Pl(x:Int):Prop:=-1000000000<=x/\x<=1000000000
def YC{x y h:Int}(a:Pl x)(b:Pl y)(c:1<=h/\h<=1000000000):Z2 "post" [x,y,h]=true:=by unfold Pl at a b;unfold Z2 Zb aS BY;simp;lia
def Z37{x y u v h:Int}(a:sm x)(b:sm y)(a':sm u)(b':sm v)(hn:¬(x=u/\y=v))(c:1<=h/\h<=1000000000):Z2 "fence" [x,y,u,v,h]=true:=by have h1:¬(Ä "fence" =Ä "post"):=vZ (by decide +kernel);unfold sm at a b a' b';unfold Z2;rw[if_neg h1,if_pos rfl];unfold Z6 Z8 aS BY;simp;omega
def Z3C{w:Str}(hw:w= "sail" \/w= "house"){x y u v h:Int}(a:sm x)(b:sm y)(a':sm u)(b':sm v)(h1:x<u)(h2:y<v)(c:1<=h/\h<=1000000000):Z2 w [x,y,u,v,h]=true:=by
 have hb:Z5 [x,y,u,v,h]=true:=by unfold sm at a b a' b';unfold Z5 Z8 aS BY;simp;omega
 unfold Z2;rcases hw with rfl|rfl
 ·rw[if_neg (vZ (by decide +kernel)),if_neg (vZ (by decide +kernel)),if_pos rfl];exact hb
 ·rw[if_neg (vZ (by decide +kernel)),if_neg (vZ (by decide +kernel)),if_neg (vZ (by decide +kernel)),if_neg (vZ (by decide +kernel)),if_pos rfl];exact hb
def Z38{x y z a b c d e f:Int}(h1:Pl x)(h2:Pl y)(h3:0<=z/\z<=1000000000)(h4:Pl a)(h5:Pl b)(h6:0<=c/\c<=1000000000)(h7:Pl d)(h8:Pl e)(h9:0<=f/\f<=1000000000):Z2 "cloth" [x,y,z,a,b,c,d,e,f]=true:=by unfold Z2;rw[if_neg (vZ (by decide +kernel)),if_neg (vZ (by decide +kernel)),if_neg (vZ (by decide +kernel)),if_pos rfl];unfold Pl at*;unfold Z7 aS xH;simp;omega
def Wt(t:Th):Prop:=(∃x y h,t=(Ä "post",[x,y,h])/\sm x/\sm y/\(1<=h/\h<=1000000000))\/(∃x y z a b c d e f,t=(Ä "cloth",[x,y,z,a,b,c,d,e,f])/\sm x/\sm y/\(0<=z/\z<=100)/\sm a/\sm b/\(0<=c/\c<=100)/\sm d/\sm e/\(0<=f/\f<=100))\/(¬t.1=Ä "post" /\ ¬t.1=Ä "cloth" /\Z2 t.1 t.2=true)
def Z3p(c:Int){w h:Int}(hw:1<=w/\w<=20)(hh:1<=h/\h<=20):∃t:Th,ib [.sh (.int c),.sh (.int w),.sh (.int h)]=.ret (.ow (.str t.1::t.2.map .int))/\Wt t:=by
 obtain⟨xs,eg,hl,hx⟩:=YB c (n:=11) (by lia);obtain⟨x0,x1,x2,x3,x4,x5,x6,x7,x8,x9,Xq,rfl⟩:=Z3o xs hl;clear hl hx;have Cb:mm [.sh (.int c),.sh (.int 11)]=.ret (.ow [.int x0,.int x1,.int x2,.int x3,.int x4,.int x5,.int x6,.int x7,.int x8,.int x9,.int Xq]):=eg;clear eg;have mw:Ϭ 2 w=true:=eo (by lia) (by lia);have mh:Ϭ 2 h=true:=eo (by lia) (by lia);have n1:¬(2*w+7=0):=by lia
 have n2:¬(2*h+7=0):=by lia
 have n3:¬(w+2=0):=by lia
 have n4:¬(h+2=0):=by lia
 have f1:x1.fmod (2*w+7)=x1 % (2*w+7):=fg _ (by lia);have f2:x2.fmod (2*h+7)=x2 % (2*h+7):=fg _ (by lia);have f3:x1.fmod (w+2)=x1 % (w+2):=fg _ (by lia);have f4:x2.fmod (h+2)=x2 % (h+2):=fg _ (by lia);have p1:=cn x1 n1;have q1:=cq x1 (show 0<2*w+7 by lia);have p2:=cn x2 n2;have q2:=cq x2 (show 0<2*h+7 by lia);have p3:=cn x1 n3;have q3:=cq x1 (show 0<w+2 by lia);have p4:=cn x2 n4;have q4:=cq x2 (show 0<h+2 by lia);generalize x1 % (2*w+7)=X,x2 % (2*h+7)=Qqj,x1 % (w+2)=PX,x2 % (h+2)=PY at*;obtain⟨kd,KQ⟩:∃kd,x0 % 5=kd:=⟨_,rfl⟩;have k:0<=kd/\kd<5:=by lia
 obtain⟨q,hq⟩:∃q,x7 % 4=q:=⟨_,rfl⟩;have wb:0<=q/\q<4:=by lia
 obtain⟨H,hH,Wu⟩:∃H:Int,(if x6 % 8=5 then 1000000000-x5 % 1000 else 1+x5 % 8)=H/\(1<=H/\H<=1000000000):=⟨_,rfl,by split<;>lia⟩;have ms:Ϭ (Xq % 7) (x6 % 2)=true:=eo (by lia) (by lia);obtain⟨C,hC,hCb⟩:∃C:Int,Xq % 7*(x6 % 2)=C/\(0<=C/\C<=100):=by
  refine⟨_,rfl,?_⟩;have:x6 % 2=0\/x6 % 2=1:=by lia
  rcases this with h|h<;>rw[h]<;>lia
 have hw':=hw.1;by_cases k0:kd=0
 ·refine⟨(Ä "post",[PX-1,PY-1,H]),?_,.inl ⟨PX-1,PY-1,H,rfl,⟨by lia,by lia⟩,⟨by lia,by lia⟩,Wu⟩⟩;by_cases hb:x6 % 8=5<;>simp only[hb,if_true,if_false] at hH<;>simp[ib,gl,Ê,Cb,mw,mh,n1,n2,n3,n4,f1,f2,f3,f4,hb,Hb,hH,KQ,k0,-cU]
 by_cases k1:kd=1
 ·have fe:∀u v:Int,sm u->sm v->¬(X-4=u/\Qqj-4=v)->Wt (Ä "fence",[X-4,Qqj-4,u,v,H]):=λu v a b n=>.inr (.inr ⟨vZ (by decide +kernel),vZ (by decide +kernel),Z37 ⟨by lia,by lia⟩ ⟨by lia,by lia⟩ a b n Wu⟩);have hq4:q=0\/q=1\/q=2\/q=3:=by lia
  rcases hq4 with rfl|rfl|rfl|rfl
  ·refine⟨(Ä "fence",[X-4,Qqj-4,X-4+1+x3 % 5,Qqj-4,H]),?_,fe _ _ ⟨by lia,by lia⟩ ⟨by lia,by lia⟩ (by lia)⟩;by_cases hb:x6 % 8=5<;>simp only[hb,if_true,if_false] at hH<;>simp[ib,gl,Ê,Cb,mw,mh,n1,n2,n3,n4,f1,f2,f3,f4,hb,Hb,hH,KQ,k1,hq,-cU]
  ·refine⟨(Ä "fence",[X-4,Qqj-4,X-4+1+x3 % 5,Qqj-4+1+x4 % 5,H]),?_,fe _ _ ⟨by lia,by lia⟩ ⟨by lia,by lia⟩ (by lia)⟩;by_cases hb:x6 % 8=5<;>simp only[hb,if_true,if_false] at hH<;>simp[ib,gl,Ê,Cb,mw,mh,n1,n2,n3,n4,f1,f2,f3,f4,hb,Hb,hH,KQ,k1,hq,-cU]
  ·refine⟨(Ä "fence",[X-4,Qqj-4,X-4,Qqj-4+1+x4 % 5,H]),?_,fe _ _ ⟨by lia,by lia⟩ ⟨by lia,by lia⟩ (by lia)⟩;by_cases hb:x6 % 8=5<;>simp only[hb,if_true,if_false] at hH<;>simp[ib,gl,Ê,Cb,mw,mh,n1,n2,n3,n4,f1,f2,f3,f4,hb,Hb,hH,KQ,k1,hq,-cU]
  ·refine⟨(Ä "fence",[X-4,Qqj-4,X-4-2,Qqj-4+1+x4 % 5,H]),?_,fe _ _ ⟨by lia,by lia⟩ ⟨by lia,by lia⟩ (by lia)⟩;by_cases hb:x6 % 8=5<;>simp only[hb,if_true,if_false] at hH<;>simp[ib,gl,Ê,Cb,mw,mh,n1,n2,n3,n4,f1,f2,f3,f4,hb,Hb,hH,KQ,k1,hq,-cU]
 have bx:∀s:Str,(s= "sail" \/s= "house")->Z2 s [X-4,Qqj-4,X-4+1+x3 % 5,Qqj-4+1+x4 % 5,H]=true:=λs hs=>Z3C hs ⟨by lia,by lia⟩ ⟨by lia,by lia⟩ ⟨by lia,by lia⟩ ⟨by lia,by lia⟩ (by lia) (by lia) Wu;by_cases k2:kd=2
 ·refine⟨(Ä "sail",[X-4,Qqj-4,X-4+1+x3 % 5,Qqj-4+1+x4 % 5,H]),?_,.inr (.inr ⟨vZ (by decide +kernel),vZ (by decide +kernel),bx _ (.inl rfl)⟩)⟩;by_cases hb:x6 % 8=5<;>simp only[hb,if_true,if_false] at hH<;>simp[ib,gl,Ê,Cb,mw,mh,n1,n2,n3,n4,f1,f2,f3,f4,hb,Hb,hH,KQ,k2,-cU]
 by_cases k3:kd=3
 ·refine⟨(Ä "house",[X-4,Qqj-4,X-4+1+x3 % 5,Qqj-4+1+x4 % 5,H]),?_,.inr (.inr ⟨vZ (by decide +kernel),vZ (by decide +kernel),bx _ (.inr rfl)⟩)⟩;by_cases hb:x6 % 8=5<;>simp only[hb,if_true,if_false] at hH<;>simp[ib,gl,Ê,Cb,mw,mh,n1,n2,n3,n4,f1,f2,f3,f4,hb,Hb,hH,KQ,k3,-cU]
 have k4:kd=4:=by lia
 refine⟨(Ä "cloth",[X-4,Qqj-4,x5 % 7,X-4+1+x3 % 5,Qqj-4-2+x7 % 5,x8 % 7,X-4-3+x9 % 7,Qqj-4+1+x4 % 5,C]),?_,.inr (.inl ⟨_,_,_,_,_,_,_,_,_,rfl,⟨by lia,by lia⟩,⟨by lia,by lia⟩,⟨by lia,by lia⟩,⟨by lia,by lia⟩,⟨by lia,by lia⟩,⟨by lia,by lia⟩,⟨by lia,by lia⟩,⟨by lia,by lia⟩,hCb⟩)⟩;by_cases hb:x6 % 8=5<;>simp only[hb,if_true,if_false] at hH<;>simp[ib,gl,Ê,Cb,mw,mh,n1,n2,n3,n4,f1,f2,f3,f4,hb,Hb,hH,KQ,k4,ms,hC,-cU]
def slI(xs:List Int)(lo hi:Option Int):∃ys:List Int,dL (xs.map PV.int) lo hi=ys.map PV.int/\ys.length<=xs.length:=by refine⟨(xs.drop (HT.iR xs.length 0 lo)).take (HT.iR xs.length xs.length hi-HT.iR xs.length 0 lo),?_,by simp;lia⟩;unfold dL;rw[ď,kg,List.map_drop]
def Tu(ns:List Int)(k:Int):∃v:Int,mj [.sh (.lst (ns.map .int)),.sh (.int k)]=.ret (.sh (.int v))/\0<=v:=by
 obtain⟨ys,e,_⟩:=slI ns (some k) (some (k+1));generalize ns.map PV.int=L at*;cases ys with
 |nil=>exact⟨0,by simp[mj,yB,Ê,e,aC],by lia⟩
 |cons y ys=>exact⟨_,by simp[mj,yB,Ê,e,aC,Ep];rfl,by lia⟩
theorem Z3D:∀(xs:List Int),xs.length=4->∃a b c d,xs=[a,b,c,d]
 | [a,b,c,d],_=>⟨a,b,c,d,rfl⟩
def Z2i(c:Int):∃o:Option P3,pA [.sh (.int c)]=.ret (.sh (a_ o))/\Zq o:=by
 obtain⟨xs,eg,hl,hx⟩:=YB c (n:=4) (by lia);obtain⟨a,b,d,e,rfl⟩:=Z3D xs hl;clear hl hx;have Cb:mm [.sh (.int c),.sh (.int 4)]=.ret (.ow [.int a,.int b,.int d,.int e]):=eg;clear eg;by_cases h4:e % 6=4
 ·exact⟨none,by simp[pA,vh,Ê,Cb,h4,a_],trivial⟩
 ·by_cases h5:e % 6=5
  ·exact⟨some (a % 2000001-1000000,b % 2000001-1000000,1+d % 1000000),by simp[pA,vh,Ê,Cb,h5,a_,c3],by unfold Zq Tl;dsimp only;lia⟩
  ·exact⟨some (a % 7-3,b % 7-3,1+d % 3),by simp[pA,vh,Ê,Cb,h4,h5,a_,c3],by unfold Zq Tl;dsimp only;lia⟩
def ZH{x:Int}(h:sm x):Pl x:=⟨by have:=h.1;lia,by have:=h.2;lia⟩
def Z1Q{t:Th}(h:Wt t):Z2 t.1 t.2=true:=by
 rcases h with⟨x,y,z,rfl,hx,hy,hz⟩|⟨x,y,z,a,b,c,d,e,f,rfl,h1,h2,h3,h4,h5,h6,h7,h8,h9⟩|⟨_,_,hg⟩
 ·exact YC (ZH hx) (ZH hy) hz
 ·exact Z38 (ZH h1) (ZH h2) (by lia) (ZH h4) (ZH h5) (by lia) (ZH h7) (ZH h8) (by lia)
 ·exact hg
theorem YD(s0 s5 s6:az){w:Int}(hw:1<=w/\w<=20){v:Int}:∀(ks:List Nat) (T:List Th) (s4:az),(∀k∈ks,k<=100)->T.length+ks.length<=100->(∀t∈T,Z2 t.1 t.2=true)->∃(T':List Th) (a:az),aC (gN 4) pC (ks.map λ(i:Nat)=>PV.int (i:Int)) [s0,.sh (.int w),.sh (.int v),.ow (T.map qP),s4,s5,s6]=.ok .nx [s0,.sh (.int w),.sh (.int v),.ow (T'.map qP),a,s5,s6]/\T'.length=T.length+ks.length/\∀t∈T',Z2 t.1 t.2=true
 | [],T,s4,_,_,hg=>⟨T,s4,rfl,rfl,hg⟩
 |k::ks,T,s4,hk,hl,hg=>by
  rw[þ] at hl;have hk0:=hk k (by simp);obtain⟨t,e,hn⟩:=Z3p (v+104729*k*k) hw (show(1:Int)<=7/\(7:Int)<=20 by lia);obtain⟨T',a,e2,q1,q2⟩:=YD s0 s5 s6 hw (v:=v) ks (T ++ [t]) (.sh (.int k)) (λx hx=>hk x (í _ hx)) (by simp;lia) (by
   intro x hx;rcases Ų.mp hx with hx|hx
   ·exact hg x hx
   ·rw[dO.mp hx];exact Z1Q hn)
  refine⟨T',a,?_,by rw[q1];simp;lia,q2⟩;have k1:(T.map qP).length<16777216:=by simp;lia
  have m1:Ϭ 104729 (k:Int)=true:=eo (by lia) (by lia);have m2:Ϭ (104729*(k:Int)) (k:Int)=true:=eo (by lia) (by lia);have em:(T ++ [t]).map qP=T.map qP ++ [.lst (.str t.1::t.2.map .int)]:=by simp[qP]
  have st:pC [s0,.sh (.int w),.sh (.int v),.ow (T.map qP),.sh (.int k),s5,s6]=.ok .nx [s0,.sh (.int w),.sh (.int v),.ow ((T ++ [t]).map qP),.sh (.int k),s5,s6]:=by rw[em];generalize T.map qP=TT,t.2.map PV.int=L at*;simp[pC,e,k1,m1,m2]
  rw[Ý,aC];show(pC [s0,.sh (.int w),.sh (.int v),.ow (T.map qP),.sh (.int k),s5,s6]).bind _=_;rw[st];exact e2
def Z2Q(a n:Nat)(h:n<=1000):Ş (sV [a]) (.int n)=some (sV (Ê n a)):=by
 show(if 0<=(n:Int)/\(n:Int)<=1000/\(S [a]).length<=1000 then some (PV.str (S (Ê (n:Int).toNat (S [a]).cps.toList).flatten)) else none)=_;have e:(S [a]).cps.toList=[a]:=rfl;rw[if_pos ⟨by lia,by lia,by rw[Zc];simp⟩,Int.toNat_natCast,e];have:(Ê n [a]).flatten=Ê n a:=by
  clear h
  induction n with
  |zero=>rfl
  |succ n ih=>rw[aj,aj,cx,ih];rfl
 rw[this];rfl
def Z1R{f:Nat->List Nat}{m:Nat}(h:∀i<m,∀j<m,f i=f j->i=j):((ġ m).map f).Nodup:=by unfold List.Nodup;rw[List.pairwise_map];exact List.Pairwise.imp_of_mem (λha hb qU he=>qU (h _ (cr.mp ha) _ (cr.mp hb) he)) List.nodup_range
theorem YE(v:Int)(k:Nat)(hk:k<=100):∀(js:List Nat),(∀j∈js,j<=100)->∀(acc:List PV) (s1:az),acc.length+js.length<=1000->∃os:List (Option P3),Ũ (gN 2) ũ (ß (ā pA (Ă (ß (Ĉ ô (ß (Ĉ ô (È 0) (Ô Ş (Ï 31) (È 1)))) (Ô Ş (Ô Ş (Ï 997) (È 2)) (È 2)))) ó))) (js.map λ(i:Nat)=>PV.int (i:Int)) [.sh (.int v),.sh (.int k),s1] acc=some (acc++os.map a_)/\os.length=js.length/\∀o∈os,Zq o
 | [],_,acc,s1,_=>⟨[],by simp[Ũ],rfl,by simp⟩
 |j::js,hj,acc,s1,hl=>by
  rw[þ] at hl;have hj0:=hj j (by simp);obtain⟨o,e1,e2⟩:=Z2i (v+31*k+997*j*j);obtain⟨os,q1,q2,q3⟩:=YE v k hk js (λx hx=>hj x (í _ hx)) (acc ++ [a_ o]) (.sh (.int j)) (by simp;lia);refine⟨o::os,?_,by simp[q2],?_⟩
  ·have hc:acc.length<16777216:=by lia
   have m0:Ϭ 31 (k:Int)=true:=eo (by lia) (by lia);have m1:Ϭ 997 (j:Int)=true:=eo (by lia) (by lia);have m2:Ϭ (997*(j:Int)) (j:Int)=true:=eo (by lia) (by lia);rw[Ý,Ũ,Ý];generalize a_ o=V,os.map a_=W at*;simp[m0,m1,m2,e1,hc];simpa using q1
  ·intro x hx;rcases Č.mp hx with rfl|hx
   ·exact e2
   ·exact q3 x hx
def qQ(k:Nat):List Nat:=Ê (1+k) 100
def Z39{k:Nat}(h:k<=5):Nm (qQ k):=by refine⟨by unfold qQ;simp,by unfold qQ;simp;lia,λc hc=>?_⟩;rw[(nj.mp hc).2];lia
def Z3E:PV.str (Ä "d")=sV [100]:=by
 have:Ä "d" =S [100]:=by decide +kernel
 rw[this];rfl
theorem YF(s0 s1 s3:az){v:Int}(hv:0<=v):∀(f:Nat) (D:List Dz) (s4 s6:az),D.length+f<=5->(∀d∈D,Z4 d)->D.map (·.1)=(ġ D.length).map qQ->∃(D':List Dz) (a b:az),aC (gN 4) pB ((ir D.length f).map λ(i:Nat)=>PV.int (i:Int)) [s0,s1,.sh (.int v),s3,s4,.ow ((D.map zV).map jV),s6]=.ok .nx [s0,s1,.sh (.int v),s3,a,.ow ((D'.map zV).map jV),b]/\D'.length=D.length+f/\(∀d∈D',Z4 d)/\D'.map (·.1)=(ġ D'.length).map qQ
 |0,D,s4,s6,_,hD,hd=>⟨D,s4,s6,rfl,rfl,hD,hd⟩
 |f+1,D,s4,s6,hf,hD,hd=>by
  obtain⟨n,hnn⟩:∃n:Nat,1+v / 28 % 3=n:=⟨(1+v / 28 % 3).toNat,by lia⟩;obtain⟨os,q1,q2,q3⟩:=YE v D.length (by lia) (ġ n) (λj hj=>by have:=cr.mp hj;lia) [] .no (by simp;lia);rw[ϰ] at q1;rw[List.length_range] at q2;have rg:=Qqq4 (n:=n) (by lia);have rm:=Z2Q 100 (1+D.length) (by lia);have hok:Z4 (qQ D.length,1+v % 365,os):=⟨Z39 (by lia),by show 1<=1+v % 365;lia,by show 1+v % 365<=1000000000;lia,by show 1<=os.length;lia,by show os.length<=24;lia,q3⟩;obtain⟨D',a,b,e2,z1,z2,z3⟩:=YF s0 s1 s3 hv f (D ++ [(qQ D.length,1+v % 365,os)]) (.sh (.int D.length)) (.sh (.lst (os.map a_))) (by simp;lia) (by
   intro x hx;rcases Ų.mp hx with hx|hx
   ·exact hD x hx
   ·rw[dO.mp hx];exact hok) (by
   rw[Ģ,hd,Ī,þ,io,List.range_succ,Ģ];rfl)
  refine⟨D',a,b,?_,by rw[z1];simp;lia,z2,z3⟩;have em:((D ++ [(qQ D.length,1+v % 365,os)]).map zV).map jV=(D.map zV).map jV ++ [.tup [sV (qQ D.length),.int (1+v % 365),.lst (os.map a_)]]:=by rw[Ģ,Ģ];rfl
  have k1:((D.map zV).map jV).length<16777216:=by simp;lia
  have cst:(((1+D.length:Nat)):Int)=1+(D.length:Int):=by lia
  rw[cst] at rm;change _=some (sV (qQ D.length)) at rm;have d1:=Z3E;have st:pB [s0,s1,.sh (.int v),s3,.sh (.int D.length),.ow ((D.map zV).map jV),s6]=.ok .nx [s0,s1,.sh (.int v),s3,.sh (.int D.length),.ow (((D ++ [(qQ D.length,1+v % 365,os)]).map zV).map jV),.sh (.lst (os.map a_))]:=by rw[em];generalize (D.map zV).map jV=DD,os.map a_=OS at*;generalize ((ġ n).map λ(i:Nat)=>PV.int (i:Int))=RG at*;generalize sV (qQ D.length)=Z at*;simp[pB,hnn,rg,kP,q1,d1,rm,k1]
  rw[sC,Ý,aC];show(pB [s0,s1,.sh (.int v),s3,.sh (.int D.length),.ow ((D.map zV).map jV),s6]).bind _=_;rw[st];rw[Ī,þ,io] at e2;exact e2
def Z1d{w h:Int}(hw:1<=w/\w<=20)(hh:1<=h/\h<=20){T:List Th}(hT:∀t∈T,Z2 t.1 t.2=true)(qm:T.length<=40){D:List Dz}(hD:∀d∈D,Z4 d)(qh:D.length<=12):bi (sV (n_ w h T D)) [.str "\n"]=some (.ow ((Ŷ w h T D).map sV)):=by
 obtain⟨y1,y2,y3⟩:=ZA hw hh;have hW:∀ws∈yT w h::(Z1 T D).map į,(∀x∈ws,Wd x)/\ws≠[]/\ws.length<=101:=λws hws=>by
  rcases Č.mp hws with rfl|hws
  ·exact⟨y1,y2,y3⟩
  ·obtain⟨r,hr,rfl⟩:=Ĕ.mp hws;exact Zz (Zt hT hD r hr)
 have Tr:(yT w h::(Z1 T D).map į).length<=1000:=by have:=Wn qm hD qh;simp;lia
 have eT:n_ w h T D=İ [10] ((yT w h::(Z1 T D).map į).map Z0):=by unfold n_ Ŷ;rw[Ý,ľ];rfl
 have eL:(yT w h::(Z1 T D).map į).map Z0=Ŷ w h T D:=by unfold Ŷ;rw[Ý,ľ];rfl
 have sp:=Zf (c:=10) (by lia) GX (l:=n_ w h T D) (by rw[eT];have:=Ym Tr λws hws=>⟨(hW ws hws).1,(hW ws hws).2.2⟩;lia);rw[eT,Yl (by simp) λws hws=>(hW ws hws).1,<-eT,eL] at sp;exact sp
def Z1T(ns:List Int):∃(w:Int) (T:List Th) (D:List Dz),AZ [.sh (.lst (ns.map .int))]=.ret (.ow ((Ŷ w 7 T D).map sV))/\(1<=w/\w<=20)/\T.length<=6/\(∀t∈T,Z2 t.1 t.2=true)/\D.length<=3/\(∀d∈D,Z4 d)/\D.map (·.1)=(ġ D.length).map qQ:=by
 obtain⟨u,e0,h0⟩:=Tu ns 0;obtain⟨v,e1,h1⟩:=Tu ns 1;obtain⟨w,ew⟩:∃w:Int,1+u % 20=w:=⟨_,rfl⟩;have hw:1<=w/\w<=20:=by lia
 obtain⟨n,hn⟩:∃n:Nat,v % 7=n:=⟨(v % 7).toNat,by lia⟩;obtain⟨m,hm⟩:∃m:Nat,v / 7 % 4=m:=⟨(v / 7 % 4).toNat,by lia⟩;obtain⟨T,a,e2,q1,q2⟩:=YD (.sh (.lst (ns.map .int))) .no .no hw (v:=v) (ġ n) [] .no (λk hk=>by have:=cr.mp hk;lia) (by simp;lia) (by simp);obtain⟨D,b,c,e3,z1,z2,z3⟩:=YF (.sh (.lst (ns.map .int))) (.sh (.int w)) (.ow (T.map qP)) h1 m [] a .no (by simp;lia) (by simp) (by simp);have r1:=Qqq4 (n:=n) (by lia);have r2:=Qqq4 (n:=m) (by lia);rw[io,<-sG,Ľ,Ľ] at e3;rw[Ľ] at e2;have qm:T.length<=6:=by rw[q1];simp;lia
 have qh:D.length<=3:=by rw[z1];simp;lia
 have tx:=Z2O hw (show(1:Int)<=7/\(7:Int)<=20 by lia) q2 (by lia) z2 (by lia);have sp:=Z1d hw (show(1:Int)<=7/\(7:Int)<=20 by lia) q2 (by lia) z2 (by lia);refine⟨w,T,D,?_,hw,qm,q2,qh,z2,z3⟩;generalize ns.map PV.int=NS,T.map qP=TW,(D.map zV).map jV=DY at*;generalize ((ġ n).map λ(i:Nat)=>PV.int (i:Int))=RN at*;generalize ((ġ m).map λ(i:Nat)=>PV.int (i:Int))=RM at*;generalize (Ŷ w 7 T D).map sV=LL at*;have eX:sV (n_ w 7 T D)=.str (S (n_ w 7 T D)):=rfl;rw[eX] at tx sp;generalize S (n_ w 7 T D)=TX at*;simp[AZ,Es,Ê,e0,e1,ew,hn,hm,r1,r2,e2,e3,tx,sp]
noncomputable abbrev BR(k:Int):PX:=⟨"BadRow",["row"],[.int k]⟩
def Wv{ws:List PV}{k:Int}{T:List PV}{D:DL}(h:0<D.length\/T.length=40):ie [.sh (.lst ws),.sh (.int k),.bw T,.dw D]=.exc (BR k):=by
 cases D with
 |nil=>
  have h:(T.length:Int)=40:=by rcases h with h|h<;>first|lia|exact absurd h (by simp)
  simp[ie,pN,Ż,đ,Ê,h,Ĺ,wH,putN,jE]
 |cons d D=>
  have h:(0:Int)<(D.length:Int)+1:=by lia
  simp[ie,pN,Ż,đ,Ê,h,Ĺ,wH,putN,jE]
def Z2j{ws:List PV}{k:Int}{T:List PV}{D:DL}(hr:pM [.sh (.lst ws),.sh (.int k)]=.exc (BR k)):ie [.sh (.lst ws),.sh (.int k),.bw T,.dw D]=.exc (BR k):=by
 by_cases h:0<D.length\/T.length=40
 ·exact Wv h
 ·have h1:D=[]:=ip.mp (by lia);have h2:¬(T.length:Int)=40:=by lia
  subst h1;simp[ie,pN,Ż,đ,Ê,h2,hr,rX]
def Ww{ws:List PV}{k:Int}{D:DL}(h:D=[]\/∃z,D.getLast?=some z/\z.1.length=2/\z.2.length=24):jq [.sh (.lst ws),.sh (.int k),.dw D]=.exc (BR k):=by
 rcases h with rfl|⟨z,hz,Hm,RJ⟩
 ·simp[jq,pH,Ż,đ,Ê,Ĺ,wH,putN,jE]
 ·cases D with
  |nil=>cases hz
  |cons d D=>
   have h:¬((D.length:Int)+1=0):=by lia
   simp[jq,pH,Ż,đ,Ê,h,pd,hz,Hm,RJ,Ĺ,wH,putN,jE]
def Z2R{ws:List PV}{k:Int}{D:DL}(h2:∀d∈D,d.1.length=2/\d.2.length<=1000)(hr:mn [.sh (.lst ws),.sh (.int k)]=.exc (BR k)):jq [.sh (.lst ws),.sh (.int k),.dw D]=.exc (BR k):=by
 cases D with
 |nil=>exact Ww (.inl rfl)
 |cons d D=>
  obtain⟨z,hz⟩:∃z,(d::D).getLast?=some z:=⟨_,List.getLast?_eq_some_getLast (by simp)⟩;obtain⟨Hm,hz3⟩:=h2 z (fB hz);have hz4:z.2.length<16777216:=by lia
  have h:¬((D.length:Int)+1=0):=by lia
  by_cases RJ:z.2.length=24
  ·exact Ww (.inr ⟨z,hz,Hm,RJ⟩)
  ·have RJ:¬(z.2.length:Int)=24:=by lia
   simp[jq,pH,Ż,đ,Ê,h,pd,hz,Hm,hz4,RJ,hr,rY]
def YG{ws:List PV}{k:Int}{D:List Dz}(h:Ze D=true\/D.length=12):gw [.sh (.lst ws),.sh (.int k),.dw (D.map dD)]=.exc (BR k):=by
 have lk:=Zr (D:=D);have ln:(D.map dD).length=D.length:=by simp
 cases hb:Ze D with
 |true=>rw[hb] at lk;generalize D.map dD=DD at*;simp[gw,lK,Ż,đ,Ê,lk,Ĺ,wH,putN,jE]
 |false=>
  rw[hb] at lk h;have Oq:((D.map dD).length:Int)=12:=by rw[ln];rcases h with h|h;cases h;lia
  generalize D.map dD=DD at*;simp[gw,lK,Ż,đ,Ê,lk,Oq,Ĺ,wH,putN,jE]
def Z3a{ws:List PV}{k:Int}{D:List Dz}(hr:pI [.sh (.lst ws),.sh (.int k)]=.exc (BR k)):gw [.sh (.lst ws),.sh (.int k),.dw (D.map dD)]=.exc (BR k):=by
 have lk:=Zr (D:=D);have ln:(D.map dD).length=D.length:=by simp
 by_cases h:Ze D=true\/D.length=12
 ·exact YG h
 ·have hb:Ze D=false:=by simpa using λz=>h (.inl z)
  rw[hb] at lk;have Oq:¬((D.map dD).length:Int)=12:=by rw[ln];exact λz=>h (.inr (by lia))
  generalize D.map dD=DD at*;simp[gw,lK,Ż,đ,Ê,lk,Oq,hr,AT]
def Z2k{l:List Nat}(hl:xz l){D:List Dz}(hD:∀d∈D,xz d.1)(h:l∈D.map (·.1)):B1 false (sV l) (.lst (D.map λd=>sV d.1))=some (.bl true):=by
 have h1:Ž (sV l)=true:=by unfold sV Ž;exact hl.ok
 have h2:aE (D.map λd=>sV d.1)=true:=by have:=(Yy (L:=D.map (·.1)) λx hx=>by obtain⟨d,hd,rfl⟩:=Ĕ.mp hx;exact hD d hd).1;rw[ľ] at this;exact this
 have h3:((D.map λd=>sV d.1).any λy=>bT y (sV l))=true:=by rw[List.any_eq_true];obtain⟨d,hd,rfl⟩:=Ĕ.mp h;refine⟨sV d.1,Ĕ.mpr ⟨d,hd,rfl⟩,?_⟩;unfold sV bT;simp
 unfold B1;dsimp only;rw[h1,h2,ZZ,h3];rfl
def Z2S{D:List Dz}(h0:Ze D=false)(hD:D.length<12)(hp:∀d∈D,xz d.1){l:List Nat}(hm:Nm l)(hn:l∈D.map (·.1)){t:Int}(h1:1<=t)(h2:t<=1000000000)(k:Int):gw [.sh (.lst [.str "day",sV l,ĵ t]),.sh (.int k),.dw (D.map dD)]=.exc (BR k):=by
 have lk:=Zr (D:=D);rw[h0] at lk;have rd:=Yi hm h1 h2 k (sl:=.sh (.lst [.str "day",sV l,ĵ t])) (.inl rfl);have cg:=Yj D (by lia);have ni:=Z2k hm.Op hp hn;have Wj:¬((D.map dD).length:Int)=12:=by simp;lia
 generalize D.map dD=DD at*;generalize D.map (λd=>sV d.1)=NN at*;generalize sV l=L at*;simp[gw,lK,Ż,đ,Ê,lk,Wj,rd,AT,RV.slot,rW,jH,jI,kP,cg,ni,Ĺ,wH,putN,jE]
def Z3b(D:List Dz)(h:∀d∈D,d.2.2.length<=24):∀d∈D.map dD,d.1.length=2/\d.2.length<=1000:=λd hd=>by obtain⟨z,hz,rfl⟩:=Ĕ.mp hd;refine⟨rfl,?_⟩;have:=h z hz;show(z.2.2.map a_).length<=1000;simp;lia
def YH{a:Str}(ha:Ĩ a=true)(n:¬Ä "ray" =a/\¬Ä "night" =a/\¬a=Ä "day"){ws:List PV}{k:Int}{T:List PV}{D:DL}(e:ie [.sh (.lst (.str a::ws)),.sh (.int k),.bw T,.dw D]=.exc (BR k)):ł [.sh (.lst (.str a::ws)),.sh (.int k),.bw T,.dw D]=.exc (BR k):=by obtain⟨n1,n2,n3⟩:=n;have i:=ZP ha;have q:=ϯ ha ZN;simp only[n1,n2,decide_false,sx] at i;simp only[n3,decide_false] at q;simp[ł,jL,Ż,đ,Ê,i,q,ō,cj,e]
def Z2T{a:Str}(ha:Ĩ a=true)(n1:Ä "ray" =a\/Ä "night" =a){ws:List PV}{k:Int}{T:List PV}{D:DL}(e:jq [.sh (.lst (.str a::ws)),.sh (.int k),.dw D]=.exc (BR k)):ł [.sh (.lst (.str a::ws)),.sh (.int k),.bw T,.dw D]=.exc (BR k):=by
 have i:=ZP ha;have b:(decide (Ä "ray" =a) || decide (Ä "night" =a))=true:=by rcases n1 with h|h<;>simp[h]
 rw[b] at i;simp[ł,jL,Ż,đ,Ê,i,ō,cj,e]
def YI{a:Str}(ha:a=Ä "day"){ws:List PV}{k:Int}{T:List PV}{D:DL}(e:gw [.sh (.lst (.str a::ws)),.sh (.int k),.dw D]=.exc (BR k)):ł [.sh (.lst (.str a::ws)),.sh (.int k),.bw T,.dw D]=.exc (BR k):=by subst ha;have i:=ZP ZN;have q:=ϯ ZN ZN;have n1:¬Ä "ray" =Ä "day" := vZ (by decide +kernel);have n2:¬Ä "night" =Ä "day" := vZ (by decide +kernel);simp only[n1,n2,decide_false,sx] at i;simp only[decide_true] at q;simp[ł,jL,Ż,đ,Ê,i,q,ō,cj,e]
def Z3q{ws:List PV}{k:Int}{T:List PV}{D:DL}(h:ł [.sh (.lst ws),.sh (.int k),.bw T,.dw D]=.exc (BR k))(ps:List PV)(s0 s1 s2 a b:az) :
 gC (.tup [.int k,.lst ws]::ps) [s0,s1,s2,.no,.no,a,b] T D=.exc (BR k) [s0,s1,s2,.no,.no,.sh (.int k),.sh (.lst ws)]:=by
 unfold gC;rw[dz];have e:ō ł [6,5,3,4] (Ū 3 4 T D ((([s0,s1,s2,.no,.no,a,b]:ć).set 5 (.sh (.int k))).set 6 (.sh (.lst ws))))=.exc (BR k) (Ū 3 4 T D ((([s0,s1,s2,.no,.no,a,b]:ć).set 5 (.sh (.int k))).set 6 (.sh (.lst ws)))):=by simp[ō,Ū,cj,jp,h]
 rw[e];rfl
def ba(l:List Nat):PV:=.lst ((Sp.ĥ 32 l).map sV)
def ZS{ls:List (List Nat)}(hl:ls.length<=1000)(h:∀l∈ls,l.length<=16000):Ũ (gN 0) ũ (ß (qF bi (È 0) (Å (mC (.str " ")) á))) (ls.map sV) [.no] []=some (ls.map ba):=by
 have:=Ÿ (g:=gN 0) (mt:=ũ) (me:=ß (qF bi (È 0) (Å (mC (.str " ")) á))) sV ba (λO=>∃s,O=[s]) ls [.no] [] ⟨_,rfl⟩ (by simp;lia) (by
  rintro l hw O ⟨s,rfl⟩;have e:=Zf (c:=32) (by lia) RH (l:=l) (by have:=h l hw;lia);refine⟨[.sh (sV l)],_,[.sh (sV l)],by simp,rfl,?_,_,rfl⟩;unfold ba;unfold sV at e ⊢;simp[e])
 simpa using this
def Z2l{w h:Int}(hw:1<=w/\w<=20)(hh:1<=h/\h<=20){ls:List (List Nat)}(hl:ls.length<=400)(hn:∀l∈ls,10∉l/\l.length<=1212){k:Int}
 (lp:∀s0 s1 s2:az,∃O,gC (Ł 1 (ls.map ba)) [s0,s1,s2,.no,.no,.no,.no] [] []=.exc (BR k) O):aZ [.sh (sV (İ [10] (Z0 (yT w h)::ls)))]=.exc (BR k):=by
 obtain⟨y1,y2,y3⟩:=ZA hw hh;have r0:ba (Z0 (yT w h))=.lst [.str "yard",ĵ w,ĵ h]:=by unfold ba;rw[ZG y1 y2];rfl
 have hA:∀l∈Z0 (yT w h)::ls,10∉l/\l.length<=1212:=λl hx=>by
  rcases Č.mp hx with rfl|hx
  ·exact⟨RF y1,Zj y1 y3⟩
  ·exact hn l hx
 have tl:=Zs (c:=10) (Z0 (yT w h)::ls) 1212 λl hx=>(hA l hx).2;have YJ:(Z0 (yT w h)::ls).length*(1212+1)<=401*1213:=cz (by simp;lia) (by lia);have sp:=Zf (c:=10) (by lia) GX (l:=İ [10] (Z0 (yT w h)::ls)) (by lia);rw[Sp.bh 10 _ (by simp) λl hx=>(hA l hx).1] at sp;have rc:=ZS (ls:=Z0 (yT w h)::ls) (by simp;lia) λl hx=>by have:=(hA l hx).2;lia
 rw[Ý (f:=ba),r0] at rc;have sz:=Wg hw hh;have ct:=Oo (PV.lst [.str "yard",ĵ w,ĵ h]) (ls.map ba);obtain⟨O,lp⟩:=lp (.sh (sV (İ [10] (Z0 (yT w h)::ls)))) (.ow (PV.lst [.str "yard",ĵ w,ĵ h]::ls.map ba)) (.sh (.lst [.int w,.int h]));generalize ls.map ba=RR,(Z0 (yT w h)::ls).map sV=LN,PV.lst [.str "yard",ĵ w,ĵ h]=YR,İ [10] (Z0 (yT w h)::ls)=TX at*;unfold sV at sp lp ⊢;generalize S TX=X at*;unfold gC at lp;simp[aZ,pO,Ê,sp,rc,sz,ct];have em:pi (Ia (ß (rH (È 1) (mP (Ï 1)) hU))) [.sh (.str X),.ow (YR::RR),.sh (.lst [.int w,.int h]),.no,.no,.no,.no]=.ok (Ł 1 RR) [.sh (.str X),.ow (YR::RR),.sh (.lst [.int w,.int h]),.no,.no,.no,.no]:=by simp[Ia,ct]
 have pa:([.sh (.str X),.ow (YR::RR),.sh (.lst [.int w,.int h]),.no,.no,.no,.no]:ć).all ae=true:=rfl;unfold O_;rw[if_pos ⟨pa,by simp,by simp⟩];simp only[sD,sE,em];rw[if_pos pa,lp];rfl
def Z3c:∀(ds:List Dz) (m:Nat) (ü:List PV) (T:List PV) (D:List Dz) (k:Nat) (s0 s1 s2 a b:az),(∀d∈D++ds,Z4 d)->((D++ds).map (·.1)).Nodup->D.length+ds.length<=12->m<=(ds.flatMap aT).length->
 ∃(a' b':az) (D':List Dz),gC (Ł k ((ds.flatMap aT).take m++ü)) [s0,s1,s2,.no,.no,a,b] T (D.map dD)=gC (Ł (k+m) ü) [s0,s1,s2,.no,.no,a',b'] T (D'.map dD)/\(∀d∈D',d.2.2.length<=24)/\D'.length<=12/\D.length<=D'.length/\(0<m->0<D'.length):=by
 intro ds
 induction ds with
 |nil=>
  intro m ü T D k s0 s1 s2 a b hg hn hl hm;have:m=0:=by simpa using hm
  subst this;exact⟨a,b,D,by simp,λd hd=>(hg d (by simpa using hd)).2.2.2.2.1,by simpa using hl,î _,λh=>by lia⟩
 |cons d ds ih=>
  intro m ü T D k s0 s1 s2 a b hg hn hl hm;have hD:∀x∈D,x.2.2.length<=24:=λx hx=>(hg x (bp _ hx)).2.2.2.2.1;cases m with
  |zero=>exact⟨a,b,D,by simp,hD,by simp at hl;lia,î _,λh=>by lia⟩
  |succ m=>
   rw[þ] at hl;obtain⟨g1,g2,g3,g4,g5,g6⟩:=hg d (by simp);have Sf:d.1∉D.map (·.1):=by rw[Ģ,Ý,ke] at hn;intro z;exact hn.2.2 _ z _ (by simp) rfl
   have h0:∀x,D.getLast?=some x->x.2.2.length≠0:=λx hx=>by have:=(hg x (bp _ (fB hx))).2.2.2.1;lia
   have r:=Tn (T:=T) h0 (by lia) (λx hx=>(hg x (bp _ hx)).1.Op) g1 Sf g2 g3 (k:Int);have ed:D.map dD ++ [([sV d.1,.int d.2.1],[])]=(D ++ [(d.1,d.2.1,[])]).map dD:=by rw[Ģ];rfl
   have et:(((d::ds).flatMap aT).take (m+1)++ü)=eP (.dy d.1 d.2.1)::((d.2.2.map (λo=>eP (.tn o))++ds.flatMap aT).take m++ü):=by rw[ϙ];rfl
   rw[et];show ∃(a' b':az) (D':List Dz),gC (.tup [.int k,.lst (xA (.dy d.1 d.2.1))]::Ł (k+1) _) _ _ _=_/\_;rw[To (show ł [.sh (.lst (xA (.dy d.1 d.2.1))),.sh (.int k),.bw T,.dw (D.map dD)]=_ from r),ed];by_cases Xb:m<=d.2.2.length
   ·have e1:(d.2.2.map (fun o=>eP (.tn o))++ds.flatMap aT).take m=(d.2.2.take m).map fun o=>eP (.tn o):=by
     rw[zp (by simpa using Xb),kg]
    rw[e1];obtain⟨a1,b1,q⟩:=Tq (d.2.2.take m) T D (d.1,d.2.1,[]) (k+1) ü s0 s1 s2 (.sh (.int k)) (.sh (.lst (xA (.dy d.1 d.2.1)))) (λo ho=>g6 o (dP ho)) (by simp;lia);refine⟨a1,b1,D ++ [(d.1,d.2.1,d.2.2.take m)],?_,λx hx=>?_,by simp;lia,by simp,by simp⟩
    ·rw[q];have l:(d.2.2.take m).length=m:=by simp;lia
     rw[l,show k+1+m=k+(m+1) by lia];rfl
    ·rcases Ų.mp hx with hx|hx
     ·exact hD x hx
     ·rw[dO.mp hx];show(d.2.2.take m).length<=24;simp;lia
   ·have e1:(d.2.2.map (fun o=>eP (.tn o))++ds.flatMap aT).take m++ü=d.2.2.map (fun o=>eP (.tn o))++((ds.flatMap aT).take (m-d.2.2.length)++ü):=by
     rw[List.take_append,fv (by simp;lia),ď,bq]
    rw[e1];obtain⟨a1,b1,q⟩:=Tq d.2.2 T D (d.1,d.2.1,[]) (k+1) ((ds.flatMap aT).take (m-d.2.2.length)++ü) s0 s1 s2 (.sh (.int k)) (.sh (.lst (xA (.dy d.1 d.2.1)))) g6 (by simpa using g5);have RC:(D ++ [(d.1,d.2.1,[]++d.2.2)])=D ++ [d]:=by simp
    have hh:D ++ [d]++ds=D++d::ds:=by simp
    have hm3:m-d.2.2.length<=(ds.flatMap aT).length:=by
     rw[ϙ,Ī] at hm;have:(aT d).length=d.2.2.length+1:=by simp[aT]
     lia
    obtain⟨a2,b2,D',e2,q1,q2,q3,q4⟩:=ih (m-d.2.2.length) ü T (D ++ [d]) (k+1+d.2.2.length) s0 s1 s2 a1 b1 (by rw[hh];exact hg) (by rw[hh];exact hn) (by simp;lia) hm3;rw[Ī,zk] at q3;refine⟨a2,b2,D',?_,q1,q2,by lia,λ_=>by lia⟩;rw[q];dsimp only;rw[RC,e2,show k+1+d.2.2.length+(m-d.2.2.length)=k+(m+1) by lia]
def Z2m{T:List Th}{D:List Dz}(hT:∀t∈T,Z2 t.1 t.2=true)(qm:T.length<=40)(hD:∀d∈D,Z4 d)(qh:D.length<=12)(hn:(D.map (·.1)).Nodup)(n:Nat)(h:n<=(Z1 T D).length)(ü:List PV)(s0 s1 s2:az) :
 ∃(a' b':az) (T':List PV) (D':List Dz),gC (Ł 1 (((Z1 T D).map eP).take n++ü)) [s0,s1,s2,.no,.no,.no,.no] [] []=gC (Ł (1+n) ü) [s0,s1,s2,.no,.no,a',b'] T' (D'.map dD)/\(∀d∈D',d.2.2.length<=24)/\(n<=T.length->D'=[])/\(T.length<n->0<D'.length):=by
 have er:(Z1 T D).map eP=T.map (λt=>eP (.th t))++D.flatMap aT:=by rw[<-Wo];refine fw λr _=>?_;unfold eP;rw[RD]
 have hlen:(Z1 T D).length=T.length+(D.flatMap aT).length:=by have:=congrArg aF er;simpa using this
 rw[er];by_cases Cd:n<=T.length
 ·have e1:(T.map (fun t=>eP (.th t))++D.flatMap aT).take n=(T.take n).map fun t=>eP (.th t):=by
   rw[zp (by simpa using Cd),kg]
  rw[e1];obtain⟨a,b,q⟩:=Tp (T.take n) [] 1 ü s0 s1 s2 .no .no (λt ht=>hT t (dP ht)) (by simp;lia);have l:(T.take n).length=n:=by simp;lia
  rw[l] at q;exact⟨a,b,_,[],q,by simp,λ_=>rfl,λh=>by lia⟩
 ·have e1:(T.map (fun t=>eP (.th t))++D.flatMap aT).take n++ü=T.map (fun t=>eP (.th t))++((D.flatMap aT).take (n-T.length)++ü):=by
   rw[List.take_append,fv (by simp;lia),ď,bq]
  rw[e1];obtain⟨a,b,q⟩:=Tp T [] 1 ((D.flatMap aT).take (n-T.length)++ü) s0 s1 s2 .no .no hT (by simp;lia);obtain⟨a2,b2,D',e2,q1,q2,q3,q4⟩:=Z3c D (n-T.length) ü ([]++T.map ij) [] (1+T.length) s0 s1 s2 a b (by simpa using hD) (by simpa using hn) (by simpa using qh) (by lia);refine⟨a2,b2,[]++T.map ij,D',?_,q1,λh=>by lia,λh=>q4 (by lia)⟩;rw[q];rw[Ľ] at e2;rw[e2,show 1+T.length+(n-T.length)=1+n by lia]
def qk(l:List Nat):List Nat:=(Sp.ĥ 32 l).headD []
def Tv(l:List Nat):List (List Nat):=(Sp.ĥ 32 l).tail
def ZD(l:List Nat):ba l=.lst (.str (S (qk l))::(Tv l).map sV):=by obtain⟨p,ps,e⟩:=Sp.fb 32 l;unfold ba qk Tv;rw[e];rfl
def ZT{l:List Nat}{a:Str}{ws:List PV}(h:ba l=.lst (.str a::ws)):S (qk l)=a:=by
 rw[ZD] at h;injection h with h
 injection h with h
 injection h
def Zx{r:Rw}(h:ZB r):ba (Z0 (į r))=eP r:=by obtain⟨h1,h2,h3⟩:=Zz h;unfold ba eP;rw[ZG h1 h2,RD]
def YK{w h:Int}(hw:1<=w/\w<=20)(hh:1<=h/\h<=20):ba (Z0 (yT w h))=.lst [.str "yard",ĵ w,ĵ h]:=by obtain⟨y1,y2,y3⟩:=ZA hw hh;unfold ba;rw[ZG y1 y2];rfl
def Ln(l:List Nat):Prop:=10∉l/\l.length<=1212/\∀c∈l,c<1000
def Tw{r:Rw}(h:ZB r):Ln (Z0 (į r)):=by obtain⟨h1,h2,h3⟩:=Zz h;exact⟨RF h1,Zj h1 h3,Z2P h⟩
def Tz{w h:Int}(hw:1<=w/\w<=20)(hh:1<=h/\h<=20):Ln (Z0 (yT w h)):=by
 obtain⟨h1,h2,h3⟩:=ZA hw hh;refine⟨RF h1,Zj h1 h3,λc hc=>?_⟩;rcases ZC _ hc with e|⟨y,hy,e⟩
 ·lia
 ·have:=(h1 y hy).2 c e;lia
def Z2n{w h:Int}(hw:1<=w/\w<=20)(hh:1<=h/\h<=20){T:List Th}{D:List Dz}(hT:∀t∈T,Z2 t.1 t.2=true)(hD:∀d∈D,Z4 d):∀l∈Ŷ w h T D,Ln l:=λl hl=>by
 rcases Č.mp hl with rfl|hl
 ·exact Tz hw hh
 ·obtain⟨r,hr,rfl⟩:=Ĕ.mp hl;exact Tw (Zt hT hD r hr)
def Kz(l:List Nat):Bool:=l.all (λc=>decide (c≠10/\c<1000)) && decide (l.length<=1212)
def Zg{l:List Nat}(h:Kz l=true):Ln l:=by unfold Kz at h;rw[ē,aH] at h;have q:=λc hc=>of_decide_eq_true (h.1 c hc);exact⟨λz=>(q 10 z).1 rfl,of_decide_eq_true h.2,λc hc=>(q c hc).2⟩
theorem YL:∀(l:List Nat),∀p ps,Sp.ĥ 32 l=p::ps->∀c∈p,c∈l
 | [],p,ps,e=>by cases e;simp
 |x::xs,p,ps,e=>by
  obtain⟨q,qs,eq⟩:=Sp.fb 32 xs;rw[Sp.ĥ,eq] at e;split at e
  ·cases e;simp
  ·cases e;intro c hc;rcases Č.mp hc with rfl|hc
   ·simp
   ·exact í _ (YL xs q _ eq c hc)
def Ln.hd{l:List Nat}(h:Ln l):Ĩ (S (qk l))=true:=by
 obtain⟨p,ps,e⟩:=Sp.fb 32 l;have:qk l=p:=by unfold qk;rw[e];rfl
 rw[this];exact xz.ok λc hc=>h.2.2 c (YL l p ps e c hc)
def Zv(l:List Nat):Bool:=decide (S (qk l)=Ä "day")
def v_:Nat->List (List Nat)->List Nat
 |_,[]=>[]
 |k,l::ls=>if Zv l then k::v_ (k+1) ls else v_ (k+1) ls
theorem Wx:∀(a b:List (List Nat)) (k:Nat),v_ k (a++b)=v_ k a++v_ (k+a.length) b
 | [],b,k=>by simp[v_]
 |l::a,b,k=>by rw[ſ,v_,v_,Wx a b (k+1),þ,show k+1+a.length=k+(a.length+1) by lia];split<;>rfl
theorem Wy:∀(a:List (List Nat)) (k:Nat),(∀l∈a,Zv l=false)->v_ k a=[]
 | [],_,_=>rfl
 |l::a,k,h=>by rw[v_,if_neg (by rw[h l (by simp)];simp)];exact Wy a (k+1) λx hx=>h x (í _ hx)
theorem YM:∀(ls:List (List Nat)) (k:Nat) (f:Nat->Bool),(∀i l,ls[i]?=some l->f (k+i)=Zv l)->(ir k ls.length).filter f=v_ k ls
 | [],_,_,_=>rfl
 |l::ls,k,f,h=>by rw[þ,sC,List.filter_cons,v_,YM ls (k+1) f λi x hx=>by rw[show k+1+i=k+(i+1) by lia];exact h (i+1) x hx];have:=h 0 l rfl;rw[Nat.add_zero] at this;rw[this]
def nI(i:Nat):PV:=.int i
def Z2o{ls:List (List Nat)}(hl:ls.length<=1000)(h:∀l∈ls,Ln l):wW [.sh (.lst (ls.map sV)),.sh (.str "day")]=.ret (.ow ((v_ 0 ls).map nI)):=by
 have c:=gj (g:=gN 2) (mt:=bU (Ô ń (Ô ė (ß (qF bi (Ô ė (È 1) (È 2)) (Å (mC (.str " ")) á))) (Ï 0)) (È 0))) (me:=ì 2) nI nI (λi=>(ls[i]?.map Zv).getD false) (λO=>∃s,O=[.sh (.str "day"),.sh (.lst (ls.map sV)),s]) (ġ ls.length) [.sh (.str "day"),.sh (.lst (ls.map sV)),.no] [] ⟨_,rfl⟩ (by simp;lia) (by
  rintro i hi O ⟨s,rfl⟩;have R_:=cr.mp hi;obtain⟨l,e1⟩:∃l,ls[i]?=some l:=⟨_,ž R_⟩;have YN:=h l (fu e1);have e2:(ls.map sV)[i]?=some (sV l):=by rw[Ņ,e1];rfl
  have sp:=Zf (c:=32) (by lia) RH (l:=l) (by have:=YN.2.1;lia);have e3:(Sp.ĥ 32 l).map sV=.str (S (qk l))::(Tv l).map sV:=by have:=ZD l;unfold ba at this;injection this
  rw[e3] at sp;have q:=ϯ YN.hd ZN;have e4:((ls[i]?.map Zv).getD false)=decide (S (qk l)=Ä "day"):=by rw[e1];rfl
  refine⟨[.sh (.str "day"),.sh (.lst (ls.map sV)),.sh (nI i)],[.sh (.str "day"),.sh (.lst (ls.map sV)),.sh (nI i)],rfl,?_,λ_=>⟨_,rfl⟩,λ_=>⟨[.sh (.str "day"),.sh (.lst (ls.map sV)),.sh (nI i)],by simp,_,rfl⟩⟩;rw[e4];generalize (Tv l).map sV=TL at*;generalize decide (S (qk l)=Ä "day")=B at*;generalize S (qk l)=HD,ls.map sV=LS at*;unfold sV at*;simp[nI,e2,sp,q])
 rw[sG,YM ls 0 _ (λi l e=>by rw[Nat.zero_add,e];rfl),ϰ] at c;have rg:=Qqq4 (n:=ls.length) hl;rw[sG] at rg;change b_ _=some ((ir 0 ls.length).map nI) at rg;have ln:(ls.map sV).length=ls.length:=by simp
 generalize (ir 0 ls.length).map nI=RG,(v_ 0 ls).map nI=SP,ls.map sV=LS at*;have yY:LS.length<=16777216:=by lia
 have rg':b_ [.int (LS.length:Int)]=some RG:=by rw[ln];exact rg
 simp[wW,El,Ê,yY,rg',kP,c]
def gJ:Nat->List Dz->List Nat
 |_,[]=>[]
 |k,d::D=>k::gJ (k+1+d.2.2.length) D
def dyB:Rw->Bool
 | .dy _ _=>true
 |_=>false
def Wz{r:Rw}(h:ZB r):Zv (Z0 (į r))=dyB r:=by
 have e:=Zx h;unfold Zv;cases r with
 |th t=>have:=ZT (ws:=t.2.map ĵ) (a:=t.1) e;rw[this];exact decide_eq_false (Wm h).2.2
 |dy l t=>have:=ZT (ws:=[sV l,ĵ t]) (a:=Ä "day") e;rw[this];exact decide_eq_true rfl
 |tn o=>
  cases o with
  |none=>have:=ZT (ws:=[]) (a:=Ä "night") e;rw[this];exact decide_eq_false (by decide +kernel)
  |some r=>have:=ZT (ws:=[ĵ r.1,ĵ r.2.1,ĵ r.2.2]) (a:=Ä "ray") e;rw[this];exact decide_eq_false (by decide +kernel)
theorem YO:∀(D:List Dz) (k:Nat),(∀d∈D,Z4 d)->v_ k (D.flatMap lv)=gJ k D
 | [],_,_=>rfl
 |d::D,k,h=>by obtain⟨g1,g2,g3,_,_,g6⟩:=h d (by simp);have e1:Zv (Z0 (į (.dy d.1 d.2.1)))=true:=Wz (r:=.dy d.1 d.2.1) ⟨g1,g2,g3⟩;rw[ϙ];unfold lv;rw[ſ,v_,if_pos e1,Wx,Wy _ _ λl hl=>by obtain⟨o,ho,rfl⟩:=Ĕ.mp hl;exact Wz (r:=.tn o) (g6 o ho)];have ih:=YO D (k+1+d.2.2.length) λx hx=>h x (í _ hx);unfold lv at ih;rw[ď,ih,gJ];rfl
def Z3r{w h:Int}(hw:1<=w/\w<=20)(hh:1<=h/\h<=20){T:List Th}{D:List Dz}(hT:∀t∈T,Z2 t.1 t.2=true)(hD:∀d∈D,Z4 d):v_ 0 (Ŷ w h T D)=gJ (1+T.length) D:=by
 have e0:Zv (Z0 (yT w h))=false:=by unfold Zv;rw[ZT (YK hw hh)];decide +kernel
 rw[Ts,v_,if_neg (by rw[e0];simp),Wx,Wy _ _ λl hl=>by obtain⟨t,ht,rfl⟩:=Ĕ.mp hl;exact Wz (r:=.th t) (hT t ht)];rw[ď,YO D _ hD,ϰ,Nat.zero_add]
theorem Zk:∀(D:List Dz) (k:Nat),(gJ k D).length=D.length
 | [],_=>rfl
 |d::D,k=>by rw[gJ,þ,Zk D,þ]
theorem WA:∀(D:List Dz) (k j:Nat),j<D.length->(gJ k D)[j]?=some (k+((D.take j).flatMap aT).length)
 | [],_,_,h=>by cases h
 |d::D,k,0,_=>by simp[gJ]
 |d::D,k,j+1,h=>by
  rw[gJ,fA,WA D _ j (by simpa using h),kf,ϙ,Ī];have:(aT d).length=d.2.2.length+1:=by simp[aT]
  rw[this];congr 1;lia
def Z2U:∀(ds:List Dz) (ü:List PV) (T:List PV) (D:List Dz) (k:Nat) (s0 s1 s2 a b:az),(∀d∈D++ds,Z4 d)->((D++ds).map (·.1)).Nodup->D.length+ds.length<=12->
 ∃a' b',gC (Ł k (ds.flatMap aT++ü)) [s0,s1,s2,.no,.no,a,b] T (D.map dD)=gC (Ł (k+(ds.flatMap aT).length) ü) [s0,s1,s2,.no,.no,a',b'] T ((D++ds).map dD):=by
 intro ds
 induction ds with
 |nil=>intro ü T D k s0 s1 s2 a b _ _ _;exact⟨a,b,by simp⟩
 |cons d ds ih=>
  intro ü T D k s0 s1 s2 a b hg hn hl;rw[þ] at hl;obtain⟨g1,g2,g3,g4,g5,g6⟩:=hg d (by simp);have Sf:d.1∉D.map (·.1):=by rw[Ģ,Ý,ke] at hn;intro z;exact hn.2.2 _ z _ (by simp) rfl
  have h0:∀x,D.getLast?=some x->x.2.2.length≠0:=λx hx=>by have:=(hg x (bp _ (fB hx))).2.2.2.1;lia
  have r:=Tn (T:=T) h0 (by lia) (λx hx=>(hg x (bp _ hx)).1.Op) g1 Sf g2 g3 (k:Int);rw[ϙ,bq];show ∃a' b',gC (.tup [.int k,.lst (xA (.dy d.1 d.2.1))]::Ł (k+1) (d.2.2.map (λo=>eP (.tn o))++(ds.flatMap aT++ü))) _ _ _=_;rw[To (show ł [.sh (.lst (xA (.dy d.1 d.2.1))),.sh (.int k),.bw T,.dw (D.map dD)]=_ from r)];have ed:D.map dD ++ [([sV d.1,.int d.2.1],[])]=(D ++ [(d.1,d.2.1,[])]).map dD:=by rw[Ģ];rfl
  rw[ed];obtain⟨a1,b1,e1⟩:=Tq d.2.2 T D (d.1,d.2.1,[]) (k+1) (ds.flatMap aT++ü) s0 s1 s2 (.sh (.int k)) (.sh (.lst (xA (.dy d.1 d.2.1)))) g6 (by simpa using g5);have RC:(D ++ [(d.1,d.2.1,[]++d.2.2)])=D ++ [d]:=by simp
  rw[e1];dsimp only;rw[RC];have hh:D ++ [d]++ds=D++d::ds:=by simp
  obtain⟨a2,b2,e2⟩:=ih ü T (D ++ [d]) (k+1+d.2.2.length) s0 s1 s2 a1 b1 (by rw[hh];exact hg) (by rw[hh];exact hn) (by simp;lia);rw[hh] at e2;refine⟨a2,b2,e2.trans ?_⟩;have:(aT d).length=d.2.2.length+1:=by simp[aT]
  rw[Ī,this,show k+1+d.2.2.length+(ds.flatMap aT).length=k+(d.2.2.length+1+(ds.flatMap aT).length) by lia]
def YQ(T:List Th)(D:List Dz):(Z1 T D).map eP=T.map (λt=>eP (.th t))++D.flatMap aT:=by rw[<-Wo];refine fw λr _=>?_;unfold eP;rw[RD]
def nJ(T:List Th)(D:List Dz)(j:Nat):Nat:=T.length+((D.take j).flatMap aT).length
def YS{T:List Th}{D:List Dz}(hT:∀t∈T,Z2 t.1 t.2=true)(qm:T.length<=40)(hD:∀d∈D,Z4 d)(qh:D.length<=12)(hn:(D.map (·.1)).Nodup)(j:Nat)(ü:List PV)(s0 s1 s2:az) :
 ∃a b,gC (Ł 1 (((Z1 T D).map eP).take (nJ T D j)++ü)) [s0,s1,s2,.no,.no,.no,.no] [] []=gC (Ł (1+nJ T D j) ü) [s0,s1,s2,.no,.no,a,b] (T.map ij) ((D.take j).map dD):=by
 have er:((Z1 T D).map eP).take (nJ T D j)=T.map (λt=>eP (.th t))++(D.take j).flatMap aT:=by
  rw[YQ];have:D.flatMap aT=(D.take j).flatMap aT++(D.drop j).flatMap aT:=by rw[<-sI,sJ]
  rw[this,<-bq];exact List.take_left' (by simp[nJ])
 rw[er,bq];obtain⟨a,b,q⟩:=Tp T [] 1 ((D.take j).flatMap aT++ü) s0 s1 s2 .no .no hT (by simpa using qm);have hs:(D.take j).Sublist D:=sB j D;obtain⟨a2,b2,e2⟩:=Z2U (D.take j) ü ([]++T.map ij) [] (1+T.length) s0 s1 s2 a b (λd hd=>hD d (dP (by simpa using hd))) (by rw[ϰ];exact List.Nodup.sublist (hs.map _) hn) (by have:=hs.length_le;simp at this ⊢;lia);refine⟨a2,b2,?_⟩;rw[q];rw[Ľ] at e2;rw[e2,ϰ,ϰ,show 1+T.length+((D.take j).flatMap aT).length=1+nJ T D j by unfold nJ;lia]
def WB{w:Int}(hw:1<=w/\w<=20){T:List Th}{D:List Dz}(hT:∀t∈T,Z2 t.1 t.2=true)(hD:∀d∈D,Z4 d)(n:Nat){xs:List (List Nat)}(hx:∀l∈xs,Ln l)(hl:n+xs.length<=400){k:Int}
 (pre:∀s0 s1 s2:az,∃O,gC (Ł 1 (((Z1 T D).map eP).take n++xs.map ba)) [s0,s1,s2,.no,.no,.no,.no] [] []=.exc (BR k) O):aZ [.sh (sV (İ [10] ((Ŷ w 7 T D).take (n+1)++xs)))]=.exc (BR k):=by
 have e:(Ŷ w 7 T D).take (n+1)++xs=Z0 (yT w 7)::(((Z1 T D).map λr=>Z0 (į r)).take n++xs):=rfl;have er:(((Z1 T D).map λr=>Z0 (į r)).take n++xs).map ba=((Z1 T D).map eP).take n++xs.map ba:=by rw[Ģ,kg,ľ];congr 2;exact fw λr hr=>Zx (Zt hT hD r hr)
 rw[e];refine Z2l hw (by lia) (by simp;lia) (λl hl=>?_) (by rw[er];exact pre);rcases Ų.mp hl with hl|hl
 ·obtain⟨r,hr,rfl⟩:=Ĕ.mp (dP hl);have:=Tw (Zt hT hD r hr);exact⟨this.1,this.2.1⟩
 ·have:=hx l hl;exact⟨this.1,this.2.1⟩
def WC{l:List Nat}{k:Nat}{T:List PV}{D:DL}(h:ł [.sh (ba l),.sh (.int k),.bw T,.dw D]=.exc (BR k))(ps:List PV)(s0 s1 s2 a b:az):∃O,gC (Ł k (ba l::ps)) [s0,s1,s2,.no,.no,a,b] T D=.exc (BR k) O:= ⟨_,Z3q h (Ł (k+1) ps) s0 s1 s2 a b⟩
def Z3d{w:Int}(hw:1<=w/\w<=20){T:List Th}{D:List Dz}(hT:∀t∈T,Z2 t.1 t.2=true)(qm:T.length<=40)(hD:∀d∈D,Z4 d)(qh:D.length<=12)(hn:(D.map (·.1)).Nodup){n:Nat}(h:n<=(Z1 T D).length){x:List Nat}{xs:List (List Nat)}(hx:∀l∈x::xs,Ln l)(hl:n+xs.length+1<=400)
 (hb:∀(T':List PV) (D':List Dz),(∀d∈D',d.2.2.length<=24)->(n<=T.length->D'=[])->(T.length<n->0<D'.length)->ł [.sh (ba x),.sh (.int ((1+n:Nat):Int)),.bw T',.dw (D'.map dD)]=.exc (BR ((1+n:Nat):Int))):aZ [.sh (sV (İ [10] ((Ŷ w 7 T D).take (n+1)++x::xs)))]=.exc (BR ((1+n:Nat):Int)):=by
 refine WB hw hT hD n hx (by simp;lia) λs0 s1 s2=>?_;obtain⟨a,b,T',D',e,q1,q2,q3⟩:=Z2m hT qm hD qh hn n h ((x::xs).map ba) s0 s1 s2;rw[e];exact WC (hb T' D' q1 q2 q3) _ s0 s1 s2 a b
def TB{w:Int}(hw:1<=w/\w<=20){T:List Th}{D:List Dz}(hT:∀t∈T,Z2 t.1 t.2=true)(qm:T.length<=40)(hD:∀d∈D,Z4 d)(qh:D.length<=12)(hn:(D.map (·.1)).Nodup)(j:Nat){x:List Nat}{xs:List (List Nat)}(hx:∀l∈x::xs,Ln l)(hl:nJ T D j+xs.length+1<=400)
 (hb:ł [.sh (ba x),.sh (.int ((1+nJ T D j:Nat):Int)),.bw (T.map ij),.dw ((D.take j).map dD)]=.exc (BR ((1+nJ T D j:Nat):Int))):aZ [.sh (sV (İ [10] ((Ŷ w 7 T D).take (nJ T D j+1)++x::xs)))]=.exc (BR ((1+nJ T D j:Nat):Int)):=by
 refine WB hw hT hD _ hx (by simp;lia) λs0 s1 s2=>?_;obtain⟨a,b,e⟩:=YS hT qm hD qh hn j ((x::xs).map ba) s0 s1 s2;rw[e];exact WC hb _ s0 s1 s2 a b
def Z1W{w h:Int}(hw:1<=w/\w<=20)(hh:1<=h/\h<=20){ls:List (List Nat)}(hl:ls.length<=400)(hn:∀l∈ls,10∉l/\l.length<=1212){T':List PV}{D':List Dz}(hb:Ze D'=true)
 (lp:∀s0 s1 s2:az,∃a b,gC (Ł 1 (ls.map ba)) [s0,s1,s2,.no,.no,.no,.no] [] []=.ok (T',D'.map dD) [s0,s1,s2,.no,.no,a,b]):aZ [.sh (sV (İ [10] (Z0 (yT w h)::ls)))]=.exc (BR ((ls.length+1:Nat):Int)):=by
 have r0:=YK hw hh;obtain⟨y1,y2,y3⟩:=ZA hw hh;have hA:∀l∈Z0 (yT w h)::ls,10∉l/\l.length<=1212:=λl hx=>by
  rcases Č.mp hx with rfl|hx
  ·exact⟨RF y1,Zj y1 y3⟩
  ·exact hn l hx
 have tl:=Zs (c:=10) (Z0 (yT w h)::ls) 1212 λl hx=>(hA l hx).2;have YJ:(Z0 (yT w h)::ls).length*(1212+1)<=401*1213:=cz (by simp;lia) (by lia);have sp:=Zf (c:=10) (by lia) GX (l:=İ [10] (Z0 (yT w h)::ls)) (by lia);rw[Sp.bh 10 _ (by simp) λl hx=>(hA l hx).1] at sp;have rc:=ZS (ls:=Z0 (yT w h)::ls) (by simp;lia) λl hx=>by have:=(hA l hx).2;lia
 rw[Ý (f:=ba),r0] at rc;have sz:=Wg hw hh;have ct:=Oo (PV.lst [.str "yard",ĵ w,ĵ h]) (ls.map ba);obtain⟨a2,b2,lp⟩:=lp (.sh (sV (İ [10] (Z0 (yT w h)::ls)))) (.ow (PV.lst [.str "yard",ĵ w,ĵ h]::ls.map ba)) (.sh (.lst [.int w,.int h]));have lk:=Zr (D:=D');rw[hb] at lk;have hr:(ls.map ba).length=ls.length:=by simp
 generalize D'.map dD=DD,ls.map ba=RR,(Z0 (yT w h)::ls).map sV=LN,PV.lst [.str "yard",ĵ w,ĵ h]=YR,İ [10] (Z0 (yT w h)::ls)=TX at*;unfold sV at sp lp ⊢;generalize S TX=X at*;unfold gC at lp;have T_:RR.length+1<=16777216:=by lia
 have hr3:((ls.length+1:Nat):Int)=(RR.length:Int)+1:=by lia
 rw[hr3];simp[aZ,pO,Ê,sp,rc,sz,ct];have em:pi (Ia (ß (rH (È 1) (mP (Ï 1)) hU))) [.sh (.str X),.ow (YR::RR),.sh (.lst [.int w,.int h]),.no,.no,.no,.no]=.ok (Ł 1 RR) [.sh (.str X),.ow (YR::RR),.sh (.lst [.int w,.int h]),.no,.no,.no,.no]:=by simp[Ia,ct]
 have tl:(ą (eK (eJ (ß (ā k_ (ä 4 ó)))) (Ĺ "BadRow" 2 [("row",1)] (Å (aP aU (Å (È 1) á)) á)) ge) (Ħ (aw (ce "Yard" jb (Ă (Ô ė (È 2) (Ï 0)) (Ă (Ô ė (È 2) (Ï 1)) (ä 3 (ä 4 ó)))))))) (Ū 3 4 T' DD [.sh (.str X),.ow (YR::RR),.sh (.lst [.int w,.int h]),.no,.no,a2,b2])=.exc (BR ((RR.length:Int)+1)) (Ū 3 4 T' DD [.sh (.str X),.ow (YR::RR),.sh (.lst [.int w,.int h]),.no,.no,a2,b2]):=by simp[Ū,jp,lk,Ĺ,wH,putN,jE,T_]
 have pa:([.sh (.str X),.ow (YR::RR),.sh (.lst [.int w,.int h]),.no,.no,.no,.no]:ć).all ae=true:=rfl;unfold O_;rw[if_pos ⟨pa,by simp,by simp⟩];simp only[sD,sE,em];rw[if_pos pa,lp];simp only[ĳ.bK,tl];rfl
def Z1A{x:List Nat}{ls:List (List Nat)}(hl:ls.length<=400)(hn:∀l∈x::ls,10∉l/\l.length<=1212)(hs:si [.sh (ba x),.sh (.int 0)]=.exc (BR 0)):aZ [.sh (sV (İ [10] (x::ls)))]=.exc (BR 0):=by
 have tl:=Zs (c:=10) (x::ls) 1212 λl hx=>(hn l hx).2;have YJ:(x::ls).length*(1212+1)<=401*1213:=cz (by simp;lia) (by lia);have sp:=Zf (c:=10) (by lia) GX (l:=İ [10] (x::ls)) (by lia);rw[Sp.bh 10 _ (by simp) λl hx=>(hn l hx).1] at sp;have rc:=ZS (ls:=x::ls) (by simp;lia) λl hx=>by have:=(hn l hx).2;lia
 rw[Ý (f:=ba)] at rc;generalize ls.map ba=RR at*;generalize (x::ls).map sV=LN at*;generalize ba x=YR,İ [10] (x::ls)=TX at*;unfold sV at sp ⊢;generalize S TX=X at*;simp[aZ,pO,Ê,sp,rc,hs]
structure Yd(w:Int)(T:List Th)(D:List Dz):Prop where
 hw:1<=w/\w<=20
 hT:∀t∈T,Z2 t.1 t.2=true
 tl:T.length<=40
 hD:∀d∈D,Z4 d
 dl:D.length<=12
 hn:(D.map (·.1)).Nodup
 z:(Z1 T D).length<=200
def Sg(L ls:List (List Nat))(v:PV):Prop:=ls.length<=300/\(∀l∈ls,Ln l)/\((v=.non/\ls=L)\/∃k:Int,v=.int k/\aZ [.sh (sV (İ [10] ls))]=.exc (BR k))
def Yd.ln{w:Int}{T:List Th}{D:List Dz}(Qqj:Yd w T D):∀l∈Ŷ w 7 T D,Ln l:=Z2n Qqj.hw (by lia) Qqj.hT Qqj.hD
def Zw(w:Int)(T:List Th)(D:List Dz):(Ŷ w 7 T D).length=(Z1 T D).length+1:=by unfold Ŷ;simp
def ZE(T:List Th)(D:List Dz):(Z1 T D).length=T.length+(D.flatMap aT).length:=by have:=congrArg aF (YQ T D);simpa using this
def WD{L:List (List Nat)}(h:∀l∈L,Ln l){x:List Nat}(hx:Ln x)(k:Nat):(∀l∈x::L.drop k,Ln l)/\∀l∈L.take k++x::L.drop k,Ln l:=by
 have h1:∀l∈x::L.drop k,Ln l:=λl hl=>by
  rcases Č.mp hl with rfl|hl
  ·exact hx
  ·exact h l (List.mem_of_mem_drop hl)
 refine⟨h1,λl hl=>?_⟩;rcases Ų.mp hl with hl|hl
 ·exact h l (dP hl)
 ·exact h1 l hl
def TC{w:Int}{T:List Th}{D:List Dz}(Qqj:Yd w T D){n:Nat}(h:n<=(Z1 T D).length){x:List Nat}(hx:Ln x)
 (hb:∀(T':List PV) (D':List Dz),(∀d∈D',d.2.2.length<=24)->(n<=T.length->D'=[])->(T.length<n->0<D'.length)->ł [.sh (ba x),.sh (.int ((1+n:Nat):Int)),.bw T',.dw (D'.map dD)]=.exc (BR ((1+n:Nat):Int))):Sg (Ŷ w 7 T D) ((Ŷ w 7 T D).take (1+n)++x::(Ŷ w 7 T D).drop (1+n)) (.int ((1+n:Nat):Int)):=by
 obtain⟨h1,h2⟩:=WD Qqj.ln hx (1+n);have hz:=Qqj.z;have hl:=Zw w T D;refine⟨by simp;lia,h2,.inr ⟨_,rfl,?_⟩⟩;have:=Z3d Qqj.hw Qqj.hT Qqj.tl Qqj.hD Qqj.dl Qqj.hn h h1 (by simp;lia) hb;rw[iu 1 n] at this ⊢;exact this
def YT{l:List Nat}(hl:Ln l)(n:¬Ä "ray" =S (qk l)/\¬Ä "night" =S (qk l)/\¬S (qk l)=Ä "day"){k:Int}{T:List PV}{D:DL}(e:pM [.sh (ba l),.sh (.int k)]=.exc (BR k)\/0<D.length\/T.length=40):ł [.sh (ba l),.sh (.int k),.bw T,.dw D]=.exc (BR k):=by rw[ZD] at e ⊢;exact YH hl.hd n (e.elim Z2j Wv)
def TD{l:List Nat}(hl:Ln l)(n:Ä "ray" =S (qk l)\/Ä "night" =S (qk l)){k:Int}{T:List PV}{D:DL}(e:(∀d∈D,d.1.length=2/\d.2.length<=1000)/\mn [.sh (ba l),.sh (.int k)]=.exc (BR k)\/D=[]\/∃z,D.getLast?=some z/\z.1.length=2/\z.2.length=24):ł [.sh (ba l),.sh (.int k),.bw T,.dw D]=.exc (BR k):=by rw[ZD] at e ⊢;exact Z2T hl.hd n (e.elim (λe=>Z2R e.1 e.2) Ww)
def TF{l:List Nat}(n:S (qk l)=Ä "day"){k:Int}{T:List PV}{D:List Dz}(e:pI [.sh (ba l),.sh (.int k)]=.exc (BR k)\/Ze D=true\/D.length=12):ł [.sh (ba l),.sh (.int k),.bw T,.dw (D.map dD)]=.exc (BR k):=by rw[ZD] at e ⊢;exact YI n (e.elim Z3a YG)
def ZU:List (List Nat):=["","yard 2 2","post 1 2","post 1 2 0","post 01 2 3","fence 1 1 1 1 3","sail 2 0 1 3 4","house 0 0 1 0 4","cloth 0 0 -1 1 1 1 2 2 2","cloth 0 0 1 1 1 1 2 2","tower 1 2 3","ray 1 1 0","ray 1 1","night 1","ray 1000001 0 1","ray 0 -1000001 1","ray 0 0 1000001","day a","day q1 3","day Q 3","day qx 0","day qx 1000000001","day abcdefghi 1"," night","post 1 2 3 ","post  1 2 3","Night","post","post 1000000001 0 1","post 0 0 1000000001","ray a b c","day qx x","day qx 1 1","fence 0 0 1 1","post -0 1 1","post 1 1 +1","ray 0 0 +1","day qx 00000000001","post 1 1 1e1"].map wC
def T1(l:List Nat):Prop:=Ln l/\∀(k:Int) (T:List PV) (D:List Dz),(∀d∈D,d.2.2.length<=24)->ł [.sh (ba l),.sh (.int k),.bw T,.dw (D.map dD)]=.exc (BR k)
def Z2V{l:List Nat}(h:Kz l=true)(n:¬Ä "ray" =S (qk l)/\¬Ä "night" =S (qk l)/\¬S (qk l)=Ä "day")(e:∀k,pM [.sh (ba l),.sh (.int k)]=.exc (BR k)):T1 l:=⟨Zg h,λk _ _ _=>YT (Zg h) n (.inl (e k))⟩
def Z3e{l:List Nat}(h:Kz l=true)(n:Ä "ray" =S (qk l)\/Ä "night" =S (qk l))(e:∀k,mn [.sh (ba l),.sh (.int k)]=.exc (BR k)):T1 l:=⟨Zg h,λk _ D hD=>TD (Zg h) n (.inl ⟨Z3b D hD,e k⟩)⟩
def Z3s{l:List Nat}(h:Kz l=true)(n:S (qk l)=Ä "day")(e:∀k,pI [.sh (ba l),.sh (.int k)]=.exc (BR k)):T1 l:=⟨Zg h,λk _ D _=>TF n (.inl (e k))⟩
def Z2W:∀l∈ZU,T1 l:=by
 unfold ZU
 repeat (first|exact λ_ h=>nomatch (show _∈([]:List (List Nat)) from h)|refine zq.mpr ⟨(by first|exact Z2V (by decide +kernel) (by decide +kernel) (λk=>by kernel_rfl)|exact Z3e (by decide +kernel) (by decide +kernel) (λk=>by kernel_rfl)|exact Z3s (by decide +kernel) (by decide +kernel) (λk=>by kernel_rfl)),?_⟩)
def KA:List (List Nat):=["yard 0 3","yard 21 1","yard 1 21","yard 1","yard 1 1 1","Yard 1 1","","yard 01 1","night","yard  1 1"].map wC
def Z3f:∀l∈KA,Kz l=true/\si [.sh (ba l),.sh (.int 0)]=.exc (BR 0):=by
 unfold KA
 repeat (first|exact λ_ h=>nomatch (show _∈([]:List (List Nat)) from h)|refine zq.mpr ⟨⟨by decide +kernel,by kernel_rfl⟩,?_⟩)
def Z1B:Em []=.ret (.ow (ZU.map sV)):=by kernel_rfl
def Z18:Ng []=.ret (.ow (KA.map sV)):=by kernel_rfl
def YU{α:Type}(xs:List α)(k:Nat)(hk:k<=xs.length):dL xs none (some (k:Int))=xs.take k:=by unfold dL;rw[HT.Ad,HT.wj,Nat.min_eq_left hk];simp
def TJ{A:List PV}(hA:A.length<=1000){k:Nat}(hk:k<=A.length){z:Int}(hz:z=k)(p:PV):se [.sh (.lst A),.sh (.int z),.sh p]=.ret (.sh (.tup [.lst (A.take k++p::A.drop k),.int k])):=by
 subst hz;have c1:=YU A k hk;have c2:=RB A k hk;have a1:ô (.lst (A.take k)) (.lst [p])=some (.ow (A.take k ++ [p])):=dG (by simp;lia);have a2:ô (.lst (A.take k ++ [p])) (.lst (A.drop k))=some (.ow (A.take k ++ [p]++A.drop k)):=dG (by simp;lia);have e:A.take k++p::A.drop k=A.take k ++ [p]++A.drop k:=by simp
 rw[e];generalize A.take k=B,A.drop k=C at*;generalize B ++ [p]=E at*;simp[se,En,Ê,c1,c2,a1,a2]
def Zy{w:Int}{T:List Th}{D:List Dz}(Qqj:Yd w T D):wW [.sh (.lst ((Ŷ w 7 T D).map sV)),.sh (.str "day")]=.ret (.ow ((gJ (1+T.length) D).map nI)):=by have:=Z2o (ls:=Ŷ w 7 T D) (by have:=Qqj.z;have:=Zw w T D;lia) Qqj.ln;rw[Z3r Qqj.hw (by lia) Qqj.hT Qqj.hD] at this;exact this
def Hd(w:Int)(T:List Th)(D:List Dz)(wy n:Int):Prop:=∃ls v,dA [.sh (.lst ((Ŷ w 7 T D).map sV)),.sh (.int wy),.sh (.int n)]=.ret (.sh (.tup [.lst (ls.map sV),v]))/\Sg (Ŷ w 7 T D) ls v
def ZL(L:List (List Nat))(k:Nat)(x:List Nat):(L.map sV).take k++sV x::(L.map sV).drop k=(L.take k++x::L.drop k).map sV:=by rw[Ģ,Ý,kg,List.map_drop]
def Qqq5(s:String):PV.str (Ä s)=sV (wC s):=congrArg PV.str (Qqq3 _).symm
def RK{n k:Int}(h:0<k):¬k=0/\n.fmod k=n % k:=⟨by lia,fg _ (by lia)⟩
def Z3t{w:Int}{T:List Th}{D:List Dz}(Qqj:Yd w T D){wy n:Int}(h:wy<2):Hd w T D wy n:=by have sp:=Zy Qqj;refine⟨Ŷ w 7 T D,.non,?_,by have:=Qqj.z;have:=Zw w T D;lia,Qqj.ln,.inl ⟨rfl,rfl⟩⟩;generalize (Ŷ w 7 T D).map sV=LS,(gJ (1+T.length) D).map nI=SP at*;simp[dA,bV,Ê,sp,h]
def Z3F{w:Int}{T:List Th}{D:List Dz}(Qqj:Yd w T D){n:Int}:Hd w T D 2 n:=by
 have sp:=Zy Qqj;have fr:=Z18;obtain⟨i,hi⟩:∃i:Nat,n % 10=i:=⟨(n % 10).toNat,by lia⟩;have hl:KA.length=10:=rfl;have Fg:(KA.map sV).length=10:=rfl;obtain⟨x,hx⟩:∃x,KA[i]?=some x:=⟨_,ž (by lia)⟩;have OM:(KA.map sV)[i]?=some (sV x):=by rw[Ņ,hx];rfl
 obtain⟨o1,o2⟩:=Z3f x (fu hx);have ln:=Qqj.ln;have hz:=Qqj.z;have hn:=Zw w T D;have hL:∀l∈x::(Z1 T D).map (λr=>Z0 (į r)),Ln l:=λl hl=>by
  rcases Č.mp hl with rfl|hl
  ·exact Zg o1
  ·exact ln l (í _ hl)
 refine⟨x::(Z1 T D).map (λr=>Z0 (į r)),.int 0,?_,by simp;lia,hL,.inr ⟨0,rfl,Z1A (by simp;lia) (λl hl=>⟨(hL l hl).1,(hL l hl).2.1⟩) o2⟩⟩;have e:(Ŷ w 7 T D).map sV=sV (Z0 (yT w 7))::((Z1 T D).map (λr=>Z0 (į r))).map sV:=rfl;rw[e] at sp ⊢;rw[Ý];have ct:=Oo (sV (Z0 (yT w 7))) (((Z1 T D).map (λr=>Z0 (į r))).map sV);have ad:ô (.lst [sV x]) (.lst (((Z1 T D).map (λr=>Z0 (į r))).map sV))=some (.ow (sV x::((Z1 T D).map (λr=>Z0 (į r))).map sV)):=by rw[dG (by simp;lia)];rfl
 generalize ((Z1 T D).map (λr=>Z0 (į r))).map sV=LS at*;generalize (gJ (1+T.length) D).map nI=SP,KA.map sV=FR,sV (Z0 (yT w 7))=Z,sV x=X at*;simp[dA,bV,Ê,sp,fr,Fg,hi,OM,ct,ad]
def Z3G{w:Int}{T:List Th}{D:List Dz}(Qqj:Yd w T D){n:Int}(h0:0<D.length):Hd w T D 3 n:=by
 have sp:=Zy Qqj;have hz:=Qqj.z;have hn:=Zw w T D;have hr:=ZE T D;obtain⟨d,D1,rfl⟩:∃d D1,D=d::D1:=by cases D with
  |nil=>cases h0
  |cons d D1=>exact⟨_,_,rfl⟩
 have h1:1<=((d::D1).flatMap aT).length:=by rw[ϙ,Ī];simp[aT];lia
 obtain⟨N,hN⟩:∃N:Int,(((Ŷ w 7 T (d::D1)).map sV).length:Int)=N:=⟨_,rfl⟩;have Qqq6:N=(Z1 T (d::D1)).length+1:=by rw[<-hN,ď,hn];rfl
 obtain⟨s0,hs⟩:∃s0:Int,((1+T.length:Nat):Int)=s0:=⟨_,rfl⟩;have e1:(gJ (1+T.length) (d::D1)).map nI=.int s0::(gJ (1+T.length+1+d.2.2.length) D1).map nI:=by rw[gJ,Ý];unfold nI;rw[hs]
 rw[e1] at sp;obtain⟨mo,fm⟩:=RK (n:=n) (k:=N-s0) (by lia);have p1:=cn n (show N-s0≠0 by lia);have p2:=cq n (show 0<N-s0 by lia);obtain⟨m,hm⟩:∃m:Nat,n % (N-s0)=m:=⟨(n % (N-s0)).toNat,by lia⟩;rw[hm] at fm p2;have hx:Ln (wC "post 1 1 1"):=Zg (by decide +kernel);have ou:=TC Qqj (n:=T.length+1+m) (by lia) hx (λT' D' q1 q2 q3=>YT hx (by decide +kernel) (.inr (.inl (by have:=q3 (by lia);simpa using this))));have pe:=TJ (A:=(Ŷ w 7 T (d::D1)).map sV) (by simp;lia) (k:=1+(T.length+1+m)) (by simp;lia) (z:=s0+1+m) (by lia) (sV (wC "post 1 1 1"));rw[ZL] at pe;rw[<-Qqq5 "post 1 1 1"] at pe;refine⟨_,_,?_,ou⟩;clear ou;generalize ((Ŷ w 7 T (d::D1)).take (1+(T.length+1+m))++wC "post 1 1 1" ::(Ŷ w 7 T (d::D1)).drop (1+(T.length+1+m))).map sV=OU,(Ŷ w 7 T (d::D1)).map sV=LS,(gJ (1+T.length+1+d.2.2.length) D1).map nI=SP at*;have yY:LS.length<=16777216:=by lia
 simp[dA,bV,Ê,sp,hN,yY,mo,fm,pe]
def Z3H{w:Int}{T:List Th}{D:List Dz}(Qqj:Yd w T D){n:Int}(KO:0<=n):Hd w T D 4 n:=by
 have sp:=Zy Qqj;have hz:=Qqj.z;have hn:=Zw w T D;have hr:=ZE T D;obtain⟨N,hN⟩:∃N:Int,(((Ŷ w 7 T D).map sV).length:Int)=N:=⟨_,rfl⟩;have Qqq6:N=(Z1 T D).length+1:=by rw[<-hN,ď,hn];rfl
 obtain⟨s0,hs⟩:∃s0:Int,((1+T.length:Nat):Int)=s0:=⟨_,rfl⟩;have ad:ô (.lst ((gJ (1+T.length) D).map nI)) (.lst [.int N])=some (.ow ((gJ (1+T.length) D).map nI ++ [.int N])):=dG (by rw[ď,Zk];have:=Qqj.dl;simp;lia);have hd:∃R,(gJ (1+T.length) D).map nI ++ [.int N]=.int s0::R:=by
  cases D with
  |nil=>exact⟨[],by rw[gJ,Ľ,ϰ];simp at hr;congr 2;lia⟩
  |cons d D=>exact⟨_,by rw[gJ,Ý];unfold nI;rw[hs];rfl⟩
 obtain⟨R,hR⟩:=hd;rw[hR] at ad;obtain⟨mo,fm⟩:=RK (n:=n) (k:=s0) (by lia);have p1:=cn n (show s0≠0 by lia);have p2:=cq n (show 0<s0 by lia);obtain⟨m,hm⟩:∃m:Nat,n % s0=m:=⟨(n % s0).toNat,by lia⟩;rw[hm] at fm p2;have h2:n / 50 % 2=0\/n / 50 % 2=1:=by lia
 rcases h2 with h2|h2
 ·have hx:Ln (wC "ray 1 0 1"):=Zg (by decide +kernel);have ou:=TC Qqj (n:=m) (by lia) hx (λT' D' q1 q2 q3=>TD hx (by decide +kernel) (.inr (.inl (by rw[q2 (by lia)];rfl))));have pe:=TJ (A:=(Ŷ w 7 T D).map sV) (by simp;lia) (k:=1+m) (by simp;lia) (z:=1+m) (by lia) (sV (wC "ray 1 0 1"));rw[ZL,<-Qqq5 "ray 1 0 1"] at pe;refine⟨_,_,?_,ou⟩;clear ou;generalize ((Ŷ w 7 T D).take (1+m)++wC "ray 1 0 1" ::(Ŷ w 7 T D).drop (1+m)).map sV=OU,(Ŷ w 7 T D).map sV=LS,(gJ (1+T.length) D).map nI=SP at*;have yY:LS.length<=16777216:=by lia
  simp[dA,bV,Ê,sp,hN,yY,ad,mo,fm,h2,pe]
 ·have hx:Ln (wC "night"):=Zg (by decide +kernel);have ou:=TC Qqj (n:=m) (by lia) hx (λT' D' q1 q2 q3=>TD hx (by decide +kernel) (.inr (.inl (by rw[q2 (by lia)];rfl))));have pe:=TJ (A:=(Ŷ w 7 T D).map sV) (by simp;lia) (k:=1+m) (by simp;lia) (z:=1+m) (by lia) (sV (wC "night"));rw[ZL,<-Qqq5 "night"] at pe;refine⟨_,_,?_,ou⟩;clear ou;generalize ((Ŷ w 7 T D).take (1+m)++wC "night" ::(Ŷ w 7 T D).drop (1+m)).map sV=OU,(Ŷ w 7 T D).map sV=LS,(gJ (1+T.length) D).map nI=SP at*;have yY:LS.length<=16777216:=by lia
  simp[dA,bV,Ê,sp,hN,yY,ad,mo,fm,h2,pe]
theorem YW:∀D:List Dz,(D.flatMap lv).length=(D.flatMap aT).length
 | []=>rfl
 |d::D=>by rw[ϙ,ϙ,Ī,Ī,YW D];simp[lv,aT]
def ZM(T:List Th)(D:List Dz):nJ T D D.length=(Z1 T D).length:=by rw[ZE,nJ,sK]
def Z1Y{D:List Dz}{j:Nat}{d:Dz}(h:D[j]?=some d):D=D.take j++d::D.drop (j+1):=by obtain⟨hj,rfl⟩:=fh.mp h;rw[<-dN hj,sJ]
def YX{w:Int}{T:List Th}{D:List Dz}{j:Nat}{d:Dz}(h:D[j]?=some d):∃R,(Ŷ w 7 T D).drop (1+nJ T D j)=Z0 (į (.dy d.1 d.2.1))::R:=by
 have e:Ŷ w 7 T D=(Z0 (yT w 7)::(T.map (λt=>Z0 (į (.th t)))++(D.take j).flatMap lv))++(Z0 (į (.dy d.1 d.2.1))::((d.2.2.map λo=>Z0 (į (.tn o)))++(D.drop (j+1)).flatMap lv)):=by
  rw[Ts];have:D.flatMap lv=(D.take j).flatMap lv++(lv d++(D.drop (j+1)).flatMap lv):=by rw[<-ϙ,<-sI,<-Z1Y h]
  rw[this,ſ,bq];rfl
 refine⟨(d.2.2.map λo=>Z0 (į (.tn o)))++(D.drop (j+1)).flatMap lv,?_⟩;rw[e];exact List.drop_left' (by rw[þ,Ī,ď,YW,nJ];lia)
def Z20{α:Type}{xs R:List α}{k:Nat}{x:α}(h:xs.drop k=x::R):xs[k]?=some x:=by have:=congrArg (λl=>l[0]?) h;simpa using this
def Z3I{w:Int}{T:List Th}{D:List Dz}(Qqj:Yd w T D){n:Int}(h0:0<D.length):Hd w T D 5 n:=by
 have sp:=Zy Qqj;have hz:=Qqj.z;have hn:=Zw w T D;have hr:=ZE T D;have hdl:=Qqj.dl;obtain⟨N,hN⟩:∃N:Int,(((Ŷ w 7 T D).map sV).length:Int)=N:=⟨_,rfl⟩;have Qqq6:N=(Z1 T D).length+1:=by rw[<-hN,ď,hn];rfl
 have hS:(((gJ (1+T.length) D).map nI).length:Int)=(D.length:Int):=by rw[ď,Zk]
 obtain⟨mo,fm⟩:=RK (n:=n) (k:=D.length) (by lia);have p1:=cn n (show(D.length:Int)≠0 by lia);have p2:=cq n (show 0<(D.length:Int) by lia);obtain⟨j,hj⟩:∃m:Nat,n % (D.length:Int)=m:=⟨(n % (D.length:Int)).toNat,by lia⟩;rw[hj] at fm p2;obtain⟨d,hd⟩:∃d,D[j]?=some d:=⟨_,ž (by lia)⟩;have hdm:=fu hd;have sa:((gJ (1+T.length) D).map nI)[j]?=some (.int ((1+nJ T D j:Nat):Int)):=by rw[Ņ,WA D _ j (by lia)];unfold nJ nI;rw[<-Nat.add_assoc];rfl
 obtain⟨R,hR⟩:=YX (w:=w) (T:=T) hd;have la:((Ŷ w 7 T D).map sV)[1+nJ T D j]?=some (sV (Z0 (į (.dy d.1 d.2.1)))):=by rw[Ņ,Z20 hR];rfl
 obtain⟨g1,g2,g3,g4,g5,g6⟩:=Qqj.hD d hdm;have Sh:ZB (.dy d.1 d.2.1):=⟨g1,g2,g3⟩;have hx:∀l∈[Z0 (į (.dy d.1 d.2.1)),wC "night"],Ln l:=λl hl=>by
  have:l=Z0 (į (.dy d.1 d.2.1))\/l=wC "night" := by simpa using hl
  rcases this with rfl|rfl
  ·exact Tw Sh
  ·exact Zg (by decide +kernel)
 have tk:D.take D.length=D:=sK;have lk:Ze D=false:=Wi λx e=>by have:=(Qqj.hD x (fB e)).2.2.2.1;lia
 have WE:D.length<12\/D.length=12:=by lia
 have bx:=TB Qqj.hw Qqj.hT Qqj.tl Qqj.hD Qqj.dl Qqj.hn D.length (x:=Z0 (į (.dy d.1 d.2.1))) (xs:=[wC "night"]) hx (by rw[ZM];simp;lia) (by
  rw[tk];rcases WE with h12|h12
  ·rw[Zx Sh];exact YI rfl (Z2S lk h12 (λx hx=>(Qqj.hD x hx).1.Op) g1 (Ĕ.mpr ⟨d,hdm,rfl⟩) g2 g3 _)
  ·exact TF (by have:=Zx Sh;exact ZT (ws:=[sV d.1,ĵ d.2.1]) this) (.inr (.inr h12)))
 rw[ZM,fv (by rw[hn];lia)] at bx;refine⟨Ŷ w 7 T D ++ [Z0 (į (.dy d.1 d.2.1)),wC "night"],.int N,?_,by simp;lia,λl hl=>?_,.inr ⟨N,rfl,by rw[Qqq6,show((Z1 T D).length:Int)+1=((1+(Z1 T D).length:Nat):Int) by lia];exact bx⟩⟩
 ·have ad:ô (.lst ((Ŷ w 7 T D).map sV)) (.lst [sV (Z0 (į (.dy d.1 d.2.1))),.str "night"])=some (.ow ((Ŷ w 7 T D).map sV ++ [sV (Z0 (į (.dy d.1 d.2.1))),.str "night"])):=dG (by simp;lia);rw[Ģ,Ý,Ý,Ľ,<-Qqq5 "night"];have hE:((gJ (1+T.length) D).map nI).isEmpty=false:=by
   rw[zr];intro z;rw[z] at hS;simp at hS;lia
  generalize (Ŷ w 7 T D).map sV ++ [sV (Z0 (į (.dy d.1 d.2.1))),PV.str "night"]=OU at*;generalize (Ŷ w 7 T D).map sV=LS,(gJ (1+T.length) D).map nI=SP,sV (Z0 (į (.dy d.1 d.2.1)))=X,1+nJ T D j=A at*;have yY:LS.length<=16777216:=by lia
  have WF:SP.length<=16777216:=by lia
  have hE2:¬SP=[]:=by rw[zr] at hE;exact hE
  have YY:¬D=[]:=by intro z;rw[z] at h0;cases h0
  simp[dA,bV,Ê,sp,hN,yY,WF,hE2,hS,mo,YY,fm,sa,la,ad]
 ·rcases Ų.mp hl with hl|hl
  ·exact Qqj.ln l hl
  ·exact hx l hl
def YZ:Nm (wC "zz"):=⟨by decide +kernel,by decide +kernel,by decide +kernel⟩
def Z3u{D:List Dz}(h:D.map (·.1)=(ġ D.length).map qQ)(j:Nat):wC "zz" ∉(D.take j).map (·.1):=λz=>by
 obtain⟨d,hd,e⟩:=Ĕ.mp z;have:d.1∈D.map (·.1):=Ĕ.mpr ⟨d,dP hd,rfl⟩;rw[h] at this;obtain⟨i,_,ei⟩:=Ĕ.mp this;have e2:qQ i=wC "zz" := ei.trans e;have e3:wC "zz" =[122,122]:=by decide +kernel
 rw[e3,qQ,iu,aj] at e2;injection e2 with e4
 cases e4
def Y_(D:List Dz):Ze (D ++ [(wC "zz",3,[])])=true:=by unfold Ze;rw[List.getLast?_concat];rfl
def Z3v:ba (wC "day zz 3")=.lst [.str "day",sV (wC "zz"),ĵ 3]:=by
 have e:Z0 (į (.dy (wC "zz") 3))=wC "day zz 3" := by decide +kernel
 rw[<-e,Zx (r:=.dy (wC "zz") 3) ⟨YZ,by lia,by lia⟩];rfl
def Qqj0{T:List Th}{D:List Dz}{w:Int}(Qqj:Yd w T D)(Ot:D.length<=3)(hm:D.map (·.1)=(ġ D.length).map qQ)(j:Nat)(ü:List PV)(s0 s1 s2:az) :
 ∃a b,gC (Ł 1 (((Z1 T D).map eP).take (nJ T D j)++ba (wC "day zz 3")::ü)) [s0,s1,s2,.no,.no,.no,.no] [] []=gC (Ł (1+nJ T D j+1) ü) [s0,s1,s2,.no,.no,a,b] (T.map ij) ((D.take j ++ [(wC "zz",3,[])]).map dD):=by
 obtain⟨a,b,e⟩:=YS Qqj.hT Qqj.tl Qqj.hD Qqj.dl Qqj.hn j (ba (wC "day zz 3")::ü) s0 s1 s2;have hs:(D.take j).length<=D.length:=(sB j D).length_le;have r:=Tn (T:=T.map ij) (D:=D.take j) (λx hx=>by have:=(Qqj.hD x (dP (fB hx))).2.2.2.1;lia) (by lia) (λx hx=>(Qqj.hD x (dP hx)).1.Op) YZ (Z3u hm j) (t:=3) (by lia) (by lia) ((1+nJ T D j:Nat):Int);refine⟨.sh (.int ((1+nJ T D j:Nat):Int)),.sh (.lst [.str "day",sV (wC "zz"),ĵ 3]),e.trans ?_⟩;rw[Z3v];have ed:(D.take j ++ [(wC "zz",3,[])]).map dD=(D.take j).map dD ++ [([sV (wC "zz"),.int 3],[])]:=by rw[Ģ];rfl
 rw[ed];exact To (show ł [.sh (.lst [.str "day",sV (wC "zz"),ĵ 3]),.sh (.int ((1+nJ T D j:Nat):Int)),.bw (T.map ij),.dw ((D.take j).map dD)]=_ from r) (Ł (1+nJ T D j+1) ü) s0 s1 s2 a b
def Qqj1(T:List Th)(D:List Dz)(j:Nat):nJ T D j<=(Z1 T D).length:=by
 rw[ZE,nJ];have:D.flatMap aT=(D.take j).flatMap aT++(D.drop j).flatMap aT:=by rw[<-sI,sJ]
 rw[this,Ī];lia
def Z3g{T:List Th}{D:List Dz}{w:Int}(Qqj:Yd w T D)(Ot:D.length<=3)(hm:D.map (·.1)=(ġ D.length).map qQ){j:Nat}(hj:j<=D.length):aZ [.sh (sV (İ [10] ((Ŷ w 7 T D).take (1+nJ T D j)++wC "day zz 3" ::(Ŷ w 7 T D).drop (1+nJ T D j))))]=.exc (BR ((1+nJ T D j+1:Nat):Int)):=by
 have hz:=Qqj.z;have hn:=Zw w T D;have hx:Ln (wC "day zz 3"):=Zg (by decide +kernel);obtain⟨h1,h2⟩:=WD Qqj.ln hx (1+nJ T D j);rcases Nat.lt_or_ge j D.length with h|h
 ·obtain⟨d,hd⟩:∃d,D[j]?=some d:=⟨_,ž h⟩;obtain⟨g1,g2,g3,g4,g5,g6⟩:=Qqj.hD d (fu hd);have Sh:ZB (.dy d.1 d.2.1):=⟨g1,g2,g3⟩;obtain⟨R,hR⟩:=YX (w:=w) (T:=T) hd;rw[iu 1 (nJ T D j)] at hR h1 ⊢;refine WB Qqj.hw Qqj.hT Qqj.hD (nJ T D j) h1 (by have:=Qqj1 T D j;simp;lia) λs0 s1 s2=>?_;rw[hR,Ý,Ý];obtain⟨a,b,e⟩:=Qqj0 Qqj Ot hm j (ba (Z0 (į (.dy d.1 d.2.1)))::R.map ba) s0 s1 s2;rw[e,iu (nJ T D j) 1];exact WC (TF (by have:=Zx Sh;exact ZT (ws:=[sV d.1,ĵ d.2.1]) this) (.inr (.inl (Y_ _)))) _ s0 s1 s2 a b
 ·have TV:j=D.length:=by lia
  subst TV;have e0:(Ŷ w 7 T D).take (1+nJ T D D.length)++wC "day zz 3" ::(Ŷ w 7 T D).drop (1+nJ T D D.length)=Z0 (yT w 7)::((Z1 T D).map (λr=>Z0 (į r)) ++ [wC "day zz 3"]):=by rw[ZM,fv (by rw[hn];lia),cy (by rw[hn];lia)];rfl
  rw[e0,ZM];have el:1+(Z1 T D).length+1=((Z1 T D).map (λr=>Z0 (į r)) ++ [wC "day zz 3"]).length+1:=by simp;lia
  rw[el];refine Z1W Qqj.hw (by lia) (by simp;lia) (λl hl=>?_) (T':=T.map ij) (D':=D ++ [(wC "zz",3,[])]) (Y_ D) λs0 s1 s2=>?_
  ·rw[e0] at h2;have:=h2 l (í _ hl);exact⟨this.1,this.2.1⟩
  ·obtain⟨a,b,e⟩:=Qqj0 Qqj Ot hm D.length [] s0 s1 s2;have er:((Z1 T D).map (λr=>Z0 (į r)) ++ [wC "day zz 3"]).map ba=((Z1 T D).map eP).take (nJ T D D.length) ++ [ba (wC "day zz 3")]:=by
    rw[ZM,fv (by simp),Ģ,ľ];congr 1;exact fw λr hr=>Zx (Zt Qqj.hT Qqj.hD r hr)
   refine⟨a,b,?_⟩;rw[er,e,sK];simp[Ł,dz]
def Z3J{w:Int}{T:List Th}{D:List Dz}(Qqj:Yd w T D)(Ot:D.length<=3)(hm:D.map (·.1)=(ġ D.length).map qQ){n:Int}:Hd w T D 6 n:=by
 have sp:=Zy Qqj;have hz:=Qqj.z;have hn:=Zw w T D;have hr:=ZE T D;obtain⟨N,hN⟩:∃N:Int,(((Ŷ w 7 T D).map sV).length:Int)=N:=⟨_,rfl⟩;have Qqq6:N=(Z1 T D).length+1:=by rw[<-hN,ď,hn];rfl
 have hS:(((gJ (1+T.length) D).map nI).length:Int)=(D.length:Int):=by rw[ď,Zk]
 obtain⟨mo,fm⟩:=RK (n:=n) (k:=(D.length:Int)+1) (by lia);have p1:=cn n (show(D.length:Int)+1≠0 by lia);have p2:=cq n (show 0<(D.length:Int)+1 by lia);obtain⟨j,hj⟩:∃m:Nat,n % ((D.length:Int)+1)=m:=⟨(n % ((D.length:Int)+1)).toNat,by lia⟩;rw[hj] at fm p2;have ad:ô (.lst ((gJ (1+T.length) D).map nI)) (.lst [.int N])=some (.ow ((gJ (1+T.length) D).map nI ++ [.int N])):=dG (by rw[ď,Zk];simp;lia);have sa:((gJ (1+T.length) D).map nI ++ [.int N])[j]?=some (.int ((1+nJ T D j:Nat):Int)):=by
  rcases Nat.lt_or_ge j D.length with h|h
  ·rw[aG (by rw[ď,Zk];exact h),Ņ,WA D _ j h];unfold nJ nI;rw[<-Nat.add_assoc];rfl
  ·have TV:j=D.length:=by lia
   subst TV;rw[fk (by rw[ď,Zk];lia),ď,Zk,Nat.sub_self,ZM];show some (PV.int N)=_;rw[Qqq6];congr 2;lia
 have bz:=Z3g Qqj Ot hm (j:=j) (by lia);have ec:((1+nJ T D j+1:Nat):Int)=((1+nJ T D j:Nat):Int)+1:=by lia
 rw[ec] at bz;have hx:Ln (wC "day zz 3"):=Zg (by decide +kernel);obtain⟨h1,h2⟩:=WD Qqj.ln hx (1+nJ T D j);have nl:=Qqj1 T D j;refine⟨(Ŷ w 7 T D).take (1+nJ T D j)++wC "day zz 3" ::(Ŷ w 7 T D).drop (1+nJ T D j),.int ((1+nJ T D j:Nat)+1:Int),?_,by simp;lia,h2,.inr ⟨_,rfl,bz⟩⟩;have hA:1+nJ T D j<=((Ŷ w 7 T D).map sV).length:=by rw[ď,hn];lia
 rw[<-ZL,<-Qqq5 "day zz 3"];clear bz h1 h2;generalize (gJ (1+T.length) D).map nI ++ [.int N]=SN,(Ŷ w 7 T D).map sV=LS at*;generalize (gJ (1+T.length) D).map nI=SP,1+nJ T D j=A at*;have c1:=YU LS A hA;have c2:=RB LS A hA;have yY:LS.length<=16777216:=by lia
 have WF:SP.length<=16777216:=by lia
 have a1:ô (.lst (LS.take A)) (.lst [.str "day zz 3"])=some (.ow (LS.take A ++ [.str "day zz 3"])):=dG (by simp;lia);have a2:ô (.lst (LS.take A ++ [.str "day zz 3"])) (.lst (LS.drop A))=some (.ow (LS.take A ++ [.str "day zz 3"]++LS.drop A)):=dG (by simp;lia);have e:LS.take A ++ .str "day zz 3" ::LS.drop A=LS.take A ++ [.str "day zz 3"]++LS.drop A:=by simp
 rw[e];generalize LS.take A=B,LS.drop A=C at*;generalize B ++ [PV.str "day zz 3"]=E at*;simp[dA,bV,Ê,sp,hN,yY,WF,hS,ad,mo,fm,sa,c1,c2,a1,a2]
def He{v:Int}(h:1<=v/\v<=9):Z2 "post" [0,0,v]=true:=YC ⟨by lia,by lia⟩ ⟨by lia,by lia⟩ ⟨by lia,by lia⟩
def Z3h{v:Int}(h:1<=v/\v<=9):wC "post 0 0 " ++ nT v=Z0 (į (.th ("post",[0,0,v]))):=by
 have:v=1\/v=2\/v=3\/v=4\/v=5\/v=6\/v=7\/v=8\/v=9:=by lia
 rcases this with rfl|rfl|rfl|rfl|rfl|rfl|rfl|rfl|rfl<;>decide +kernel
def Z3K{w:Int}(hw:1<=w/\w<=20){v:Int}(hv:1<=v/\v<=9)(L:List (List Nat)):Sg L (Z0 (yT w 7)::Ê 41 (Z0 (į (.th ("post",[0,0,v]))))) (.int 41):=by
 have hg:=He hv;have hT:∀t∈Ê 40 (((Ä "post"),[0,0,v]):Th),Z2 t.1 t.2=true:=λt ht=>by rw[(nj.mp ht).2];exact hg
 have hr:ZB (.th ("post",[0,0,v])):=hg;have hx:=Tw hr;have bx:=TB hw hT (by simp) (D:=[]) (by simp) (by simp) (by simp) 0 (x:=Z0 (į (.th ("post",[0,0,v])))) (xs:=[]) (λl hl=>by rw[dO.mp hl];exact hx) (by simp[nJ]) (by
  rw[Zx hr];exact YH (ZO hg) (Wm hg) (Wv (.inr (by simp))))
 have e:(Ŷ w 7 (Ê 40 ((Ä "post"),[0,0,v])) []).take (nJ (Ê 40 ((Ä "post"),[0,0,v])) [] 0+1) ++ [Z0 (į (.th ("post",[0,0,v])))]=Z0 (yT w 7)::Ê 41 (Z0 (į (.th ("post",[0,0,v])))):=rfl;rw[e] at bx;refine⟨by simp,λl hl=>?_,.inr ⟨41,rfl,bx⟩⟩;rcases Č.mp hl with rfl|hl
 ·exact Tz hw (by lia)
 ·rw[(nj.mp hl).2];exact hx
def d8:List (List Nat):=(ġ 13).flatMap λi=>[wC "day" ++ [32,97+i,32,49],wC "night"]
def D8:List Dz:=(ġ 12).map λi=>([97+i],1,[none])
def Z3L{w:Int}(hw:1<=w/\w<=20)(L:List (List Nat)):Sg L (Z0 (yT w 7)::d8) (.int 25):=by
 have hD:∀d∈D8,Z4 d:=λd hd=>by
  obtain⟨i,hi,rfl⟩:=Ĕ.mp hd;have:=cr.mp hi;refine⟨⟨by simp,by simp,λc hc=>?_⟩,by simp,by simp,by simp,by simp,λo ho=>?_⟩
  ·have:c=97+i:=by simpa using hc
   lia
  ·have:o=none:=by simpa using ho
   subst this;exact True.intro
 have ln8:∀l∈d8,Ln l:=by
  have:d8.all Kz=true:=by decide +kernel
  intro l hl;exact Zg (aH.mp this l hl)
 have hn:(D8.map (·.1)).Nodup:=by decide +kernel
 have bx:=TB hw (T:=[]) (by simp) (by simp) hD (by decide) hn 12 (x:=wC "day m 1") (xs:=[wC "night"]) (λl hl=>by
  have:l=wC "day m 1" \/l=wC "night" := by simpa using hl
  rcases this with rfl|rfl<;>exact Zg (by decide +kernel)) (by decide +kernel) (TF (by decide +kernel) (.inr (.inr (by decide))))
 have n24:nJ [] D8 12=24:=by rfl
 rw[n24] at bx;have e1:(Z1 [] D8).map (λr=>Z0 (į r))=d8.take 24:=by decide +kernel
 have e2:d8=d8.take 24 ++ [wC "day m 1",wC "night"]:=by decide +kernel
 have e:(Ŷ w 7 [] D8).take (24+1) ++ [wC "day m 1",wC "night"]=Z0 (yT w 7)::d8:=by unfold Ŷ;rw[e1,kf,List.take_take,Nat.min_self,ſ,<-e2]
 rw[e] at bx;refine⟨by rw[þ,show d8.length=26 by decide +kernel];lia,λl hl=>?_,.inr ⟨25,rfl,bx⟩⟩;rcases Č.mp hl with rfl|hl
 ·exact Tz hw (by lia)
 ·exact ln8 l hl
def d9:List (List Nat):=wC "day x 1" ::(Ê 13 [wC "ray 1 1 1",wC "night"]).flatten
def D9:List Dz:=[([120],1,(Ê 12 [some (1,1,1),none]).flatten)]
def Z3M{w:Int}(hw:1<=w/\w<=20)(L:List (List Nat)):Sg L (Z0 (yT w 7)::d9) (.int 26):=by
 have hD:∀d∈D9,Z4 d:=λd hd=>by
  rw[dO.mp hd];refine⟨⟨by simp,by simp,λc hc=>?_⟩,by simp,by simp,by simp,by simp,λo ho=>?_⟩
  ·have:c=120:=by simpa using hc
   lia
  ·obtain⟨l,hl,ho⟩:=List.mem_flatten.mp ho;rw[(nj.mp hl).2] at ho;have:o=some (1,1,1)\/o=none:=by simpa using ho
   rcases this with rfl|rfl
   ·exact⟨by simp,by simp,by simp,by simp,by simp,by simp⟩
   ·exact True.intro
 have ln9:∀l∈d9,Ln l:=by
  have:d9.all Kz=true:=by decide +kernel
  intro l hl;exact Zg (aH.mp this l hl)
 have hx:Ln (wC "ray 1 1 1"):=Zg (by decide +kernel);have bx:=TB hw (T:=[]) (by simp) (by simp) hD (by decide) (by decide +kernel) 1 (x:=wC "ray 1 1 1") (xs:=[wC "night"]) (λl hl=>by
  have:l=wC "ray 1 1 1" \/l=wC "night" := by simpa using hl
  rcases this with rfl|rfl<;>exact Zg (by decide +kernel)) (by decide +kernel) (TD hx (by decide +kernel) (.inr (.inr ⟨_,rfl,rfl,rfl⟩)))
 have n25:nJ [] D9 1=25:=by rfl
 rw[n25] at bx;have e1:(Z1 [] D9).map (λr=>Z0 (į r))=d9.take 25:=by decide +kernel
 have e2:d9=d9.take 25 ++ [wC "ray 1 1 1",wC "night"]:=by decide +kernel
 have e:(Ŷ w 7 [] D9).take (25+1) ++ [wC "ray 1 1 1",wC "night"]=Z0 (yT w 7)::d9:=by unfold Ŷ;rw[e1,kf,List.take_take,Nat.min_self,ſ,<-e2]
 rw[e] at bx;refine⟨by rw[þ,show d9.length=27 by decide +kernel];lia,λl hl=>?_,.inr ⟨26,rfl,bx⟩⟩;rcases Č.mp hl with rfl|hl
 ·exact Tz hw (by lia)
 ·exact ln9 l hl
def lp8(x:PV)(n:Int):aC (gN 3) Eo ((ġ 13).map nI) [.ow [x],.sh (.int 8),.sh (.int n),.no]=.ok .nx [.ow (x::d8.map sV),.sh (.int 8),.sh (.int n),.sh (.int 12)]:=by kernel_rfl
def Z3w(x:PV)(R:List PV)(n:Int):kY [.sh (.lst (x::R)),.sh (.int 8),.sh (.int n)]=.ret (.sh (.tup [.lst (x::d8.map sV),.int 25])):=by have lp:=lp8 x n;have rg:b_ [.int 13]=some ((ġ 13).map nI):=Qqq4 (n:=13) (by lia);generalize (ġ 13).map nI=RG,d8.map sV=X at*;simp[kY,vg,Ê,rg,lp]
def Z3N:(Ê 13 [PV.str "ray 1 1 1",PV.str "night"]).flatten=((Ê 13 [wC "ray 1 1 1",wC "night"]).flatten).map sV:=by kernel_rfl
def Z3x(x:PV)(R:List PV)(n:Int):kY [.sh (.lst (x::R)),.sh (.int 9),.sh (.int n)]=.ret (.sh (.tup [.lst (x::d9.map sV),.int 26])):=by
 have e:d9.map sV=.str "day x 1" ::(Ê 13 [PV.str "ray 1 1 1",PV.str "night"]).flatten:=by rw[Z3N,Qqq5];rfl
 have al:ô (.lst [x,.str "day x 1"]) (.lst (Ê 13 [PV.str "ray 1 1 1",PV.str "night"]).flatten)=some (.ow (x:: .str "day x 1" ::(Ê 13 [PV.str "ray 1 1 1",PV.str "night"]).flatten)):=dG (by simp);rw[e];simp only[Ê,cx,List.flatten_nil,ſ,ϰ] at al;simp[kY,vg,Ê,al]
def Z3y(x:PV)(R:List PV)(n:Int):kY [.sh (.lst (x::R)),.sh (.int 7),.sh (.int n)]=.ret (.sh (.tup [.lst (x::(Ê 41 (Z0 (į (.th ("post",[0,0,1+n % 9]))))).map sV),.int 41])):=by
 have hv:1<=1+n % 9/\1+n % 9<=9:=by lia
 have st:=Za (n:=1+n % 9) ⟨by lia,by lia⟩;have ad:ô (.str "post 0 0 ") (ĵ (1+n % 9))=some (.sh (sV (Z0 (į (.th ("post",[0,0,1+n % 9])))))):=by
  rw[<-Z3h hv];have l1:=(ZY (n:=1+n % 9) (by lia) (by lia)).2;have l2:(Ä "post 0 0 ").length=9:=by decide +kernel
  have l3:(S (nT (1+n % 9))).length<=11:=by rw[Zc];exact l1
  unfold ĵ sV ô;simp only;rw[if_pos (by lia)];congr 3;exact bF (by simp[nF,wC])
 rw[List.map_replicate];generalize sV (Z0 (į (.th ("post",[0,0,1+n % 9]))))=X,ĵ (1+n % 9)=Z at*;have al:ô (.lst [x]) (.lst (Ê 41 X))=some (.ow (x::Ê 41 X)):=dG (by simp);simp only[Ê] at al;simp[kY,vg,Ê,st,ad,-pp,al]
def Z3i{w:Int}{T:List Th}{D:List Dz}(Qqj:Yd w T D){wy n:Int}(h:wy=7\/wy=8\/wy=9):Hd w T D wy n:=by
 have sp:=Zy Qqj;have e:(Ŷ w 7 T D).map sV=sV (Z0 (yT w 7))::((Z1 T D).map (λr=>Z0 (į r))).map sV:=rfl;have Ce:∀(ls:List (List Nat)) (v:PV),kY [.sh (.lst ((Ŷ w 7 T D).map sV)),.sh (.int wy),.sh (.int n)]=.ret (.sh (.tup [.lst (ls.map sV),v]))->dA [.sh (.lst ((Ŷ w 7 T D).map sV)),.sh (.int wy),.sh (.int n)]=.ret (.sh (.tup [.lst (ls.map sV),v])):=λls v pe=>by generalize ls.map sV=OU at*;clear e;generalize (Ŷ w 7 T D).map sV=LS,(gJ (1+T.length) D).map nI=SP at*;rcases h with rfl|rfl|rfl<;>simp[dA,bV,Ê,sp,pe]
 rcases h with rfl|rfl|rfl
 ·exact⟨_,_,Ce (Z0 (yT w 7)::Ê 41 (Z0 (į (.th ("post",[0,0,1+n % 9]))))) _ (by rw[e];exact Z3y _ _ _),Z3K Qqj.hw (by lia) _⟩
 ·exact⟨_,_,Ce (Z0 (yT w 7)::d8) _ (by rw[e];exact Z3w _ _ _),Z3L Qqj.hw _⟩
 ·exact⟨_,_,Ce (Z0 (yT w 7)::d9) _ (by rw[e];exact Z3x _ _ _),Z3M Qqj.hw _⟩
def WG{w:Int}{T:List Th}{D:List Dz}(Qqj:Yd w T D){wy n:Int}(KO:0<=n)(h:wy=10\/(wy=3\/wy=5)/\D.length=0):Hd w T D wy n:=by
 have sp:=Zy Qqj;have hz:=Qqj.z;have hn:=Zw w T D;have br:=Z1B;obtain⟨N,hN⟩:∃N:Int,(((Ŷ w 7 T D).map sV).length:Int)=N:=⟨_,rfl⟩;have Qqq6:N=(Z1 T D).length+1:=by rw[<-hN,ď,hn];rfl
 obtain⟨mo,fm⟩:=RK (n:=n) (k:=N) (by lia);have p1:=cn n (show N≠0 by lia);have p2:=cq n (show 0<N by lia);obtain⟨m,hm⟩:∃m:Nat,n % N=m:=⟨(n % N).toNat,by lia⟩;rw[hm] at fm p2;obtain⟨i,hi⟩:∃i:Nat,n / 50 % 39=i:=⟨(n / 50 % 39).toNat,by lia⟩;have hl:ZU.length=39:=rfl;have Fg:((ZU.map sV).length:Int)=39:=rfl;obtain⟨x,hx⟩:∃x,ZU[i]?=some x:=⟨_,ž (by lia)⟩;have OM:(ZU.map sV)[i]?=some (sV x):=by rw[Ņ,hx];rfl
 obtain⟨o1,o2⟩:=Z2W x (fu hx);have ou:=TC Qqj (n:=m) (by lia) o1 (λT' D' q1 _ _=>o2 _ T' D' q1);have pe:=TJ (A:=(Ŷ w 7 T D).map sV) (by simp;lia) (k:=1+m) (by simp;lia) (z:=1+m) (by lia) (sV x);rw[ZL] at pe;refine⟨_,_,?_,ou⟩;have yY:((Ŷ w 7 T D).map sV).length<=16777216:=by rw[ď];lia
 have YY:¬Ŷ w 7 T D=[]:=by intro z;rw[z] at hn;cases hn
 have WH:(ZU.map sV).length<=16777216:=by rw[ď,hl];lia
 have hs:D.length=0->(gJ (1+T.length) D).map nI=[]:=λz=>by have:D=[]:=ip.mp z;subst this;rfl
 clear ou;generalize ((Ŷ w 7 T D).take (1+m)++x::(Ŷ w 7 T D).drop (1+m)).map sV=OU,(Ŷ w 7 T D).map sV=LS,ZU.map sV=BS,sV x=X,(gJ (1+T.length) D).map nI=SP at*;rcases h with rfl|⟨rfl|rfl,hd⟩
 ·simp[dA,bV,Ê,sp,hN,yY,WH,br,Fg,hi,OM,mo,fm,pe]
 ·rw[hs hd] at sp;simp[dA,bV,Ê,sp,hN,yY,WH,br,Fg,hi,OM,mo,fm,pe]
 ·rw[hs hd] at sp;simp[dA,bV,Ê,sp,hN,yY,WH,br,Fg,hi,OM,mo,fm,pe]
def Z21{w:Int}{T:List Th}{D:List Dz}(Qqj:Yd w T D)(Ot:D.length<=3)(hm:D.map (·.1)=(ġ D.length).map qQ){wy n:Int}(KO:0<=n)(h:0<=wy/\wy<11):Hd w T D wy n:=by
 have hd:D.length=0\/0<D.length:=by lia
 have:wy<2\/wy=2\/wy=3\/wy=4\/wy=5\/wy=6\/(wy=7\/wy=8\/wy=9)\/wy=10:=by lia
 rcases this with h|rfl|rfl|rfl|rfl|rfl|h|rfl
 ·exact Z3t Qqj h
 ·exact Z3F Qqj
 ·exact hd.elim (λz=>WG Qqj KO (.inr ⟨.inl rfl,z⟩)) (Z3G Qqj)
 ·exact Z3H Qqj KO
 ·exact hd.elim (λz=>WG Qqj KO (.inr ⟨.inr rfl,z⟩)) (Z3I Qqj)
 ·exact Z3J Qqj Ot hm
 ·exact Z3i Qqj h
 ·exact WG Qqj KO (.inl rfl)
def isx(k:Int):(dq Zl Zm Zn Zo [PV.xc "BadRow" [Ä "row"] [PV.int k],.cls "BadRow"]=some (.bl true)/\dq Zl Zm Zn Zo [PV.xc "BadRow" [Ä "row"] [PV.int k],.ty "ValueError"]=some (.bl true)/\dq Zl Zm Zn Zo [.int k,.ty "bool"]=some (.bl false))/\(∀C,C= "NoNumber" \/C= "BadThing" \/C= "NoStone" \/C= "NoTurn" \/C= "NoRow" \/C= "NoDay" ->dq Zl Zm Zn Zo [PV.xc "BadRow" [Ä "row"] [PV.int k],.cls C]=some (.bl false)):=by refine⟨⟨by kernel_rfl,by kernel_rfl,by kernel_rfl⟩,λC hC=>?_⟩;rcases hC with rfl|rfl|rfl|rfl|rfl|rfl<;>kernel_rfl
def Qqj2{x:PV}{k:Int}(h:aZ [.sh x]=.exc (BR k))(b:Bool):xa [.sh x,.sh (.bl b)]=.ret (.sh (.int k)):=by
 obtain⟨⟨i1,i2,i3⟩,i4⟩:=isx k;have j1:=i4 "NoNumber" (by simp);have j2:=i4 "BadThing" (by simp);have j3:=i4 "NoStone" (by simp);have j4:=i4 "NoTurn" (by simp);have j5:=i4 "NoRow" (by simp);have j6:=i4 "NoDay" (by simp);clear i4;have xf:wJ ["BadRow"] (Ä "row") (PV.xc "BadRow" [Ä "row"] [PV.int k])=some (.int k):=by kernel_rfl
 have al:ô (.lst [.bl false,.bl false,.bl false]) (.lst [.bl false,.bl false,.bl false])=some (.ow [.bl false,.bl false,.bl false,.bl false,.bl false,.bl false]):=dG (by simp);cases b<;>simp[xa,EJ,Ê,h,vp,cb,EI,hX,i1,i2,i3,j1,j2,j3,j4,j5,j6,xf,al,IR.of,Go,Ϩ]
def Z3j{l:fR}{w:Ø}{K:É}{mg:Str->Option Á}{fa:À}{a:sk}(T:Tx K mg a)(hfa:mg "law" =some (.ref fa)):∃fd:Ė,(∀(s:Â) (v:Á),cG s fd ⟨[v],[]⟩ [("_law_script",v)])/\∀base:Ð,K.In base->base.Ns Ϛ mg->∃cm,Ě l.prog w K mg base (ϭ l.prog w) 12 fa fd ["_law_script"] (bM ⟨K,cm⟩ 1 pP):=by have e:=hfa.symm.trans T.ER.m;cases e;exact⟨a.EN,λs v=>T.ER.bb s [v] rfl,λbase _ _=>⟨_,On T⟩⟩
def Z2p(ns:List Int)(hn:ns.length<=63):pP [.sh (.lst (ns.map .int))]=.ret (.sh (.bl true)):=by
 obtain⟨u,e2,h2⟩:=Tu ns 2;obtain⟨v,e3,h3⟩:=Tu ns 3;obtain⟨w,T,D,er,hw,qm,hT,qh,hD,hm⟩:=Z1T ns;have Ho:(D.map (·.1)).Nodup:=by rw[hm];refine Z1R λi _ j _ h=>?_;have:=congrArg aF h;simp[qQ] at this;lia
 have hzz:(Z1 T D).length<=200:=by
  have:=ZE T D;have h25:∀D:List Dz,(∀d∈D,Z4 d)->(D.flatMap aT).length<=D.length*25:=by
   intro D
   induction D with
   |nil=>intro _;simp
   |cons d D ih=>
    intro h;have h1:=ih λx hx=>h x (í _ hx);have h2:=(h d (by simp)).2.2.2.2.1;have h3:(aT d).length=d.2.2.length+1:=by simp[aT]
    rw[ϙ,Ī,þ];lia
  have:=h25 D hD;lia
 have Qqj:Yd w T D:=⟨hw,hT,by lia,hD,by lia,Ho,hzz⟩;obtain⟨ls,dv,es,l1,l2,ou⟩:=Z21 Qqj qh hm (n:=v) h3 (wy:=u % 11) (by lia);have jn:=Wp GX (ys:=ls) (B:=1212) (λx hx=>(l2 x hx).2.1) (by have:ls.length*(1212+1)<=300*1213:=cz l1 (by lia);lia);rcases ou with⟨rfl,rfl⟩|⟨k,rfl,rd⟩
 ·have rd:=Z2K hw (show(1:Int)<=7/\(7:Int)<=20 by lia) hT (by lia) hD (by lia) Ho;have sh:=Z2M hw (show(1:Int)<=7/\(7:Int)<=20 by lia) hT (by lia) hD (by lia);have pl:=xz.ok (l:=n_ w 7 T D) λc hc=>by
   rcases ZC _ hc with e|⟨y,hy,e⟩
   ·lia
   ·exact(Qqj.ln y hy).2.2 c e
  have eq:ń (sV (n_ w 7 T D)) (sV (n_ w 7 T D))=some (.bl true):=BE (by unfold sV Ž;exact pl) (by unfold sV qT;decide);change eZ _ _=some (sV (n_ w 7 T D)) at jn;generalize (Ŷ w 7 T D).map sV=LS,sV (n_ w 7 T D)=TX,Zd w 7 T (D.map zV)=YV,ns.map PV.int=NS at*;simp[pP,yK,Ê,er,e2,e3,es,jn,Ft,rd,sh,eq]
 ·have r0:=Qqj2 rd false;have r1:=Qqj2 rd true;generalize ls.map sV=OU,(Ŷ w 7 T D).map sV=LS,sV (İ [10] ls)=TX,ns.map PV.int=NS at*;simp[pP,yK,Ê,er,e2,e3,es,jn,Ft,r0,r1]
def Z3O{l:fR}{q:Þ}{jx:List Str}{XP:(Str->Option Á)->Ð->Prop}{YP:Ø->Ð->Prop}{d:DefRec}{K:Params->É}(hn:l.most=some 63)(Ov:d.params.defaults=[])
 (hY:∀(w:Ø) (h:Ð),YP w h->(K w.params).In h)
 (F:∀(w:Ø) (mg:Str→Option Á) (fa:À) (h:Ð),(K w.params).In h→h.Ns Ϛ mg→mg d.name=some (.ref fa)→
   ∃fd:Ė,(∀(s:Â) (u:Á),cG s fd ⟨[u],[]⟩ [("_law_script",u)])/\∀base:Ð,(K w.params).In base->base.Ns Ϛ mg->∃cm,Ě l.prog w (K w.params) mg base (ϭ l.prog w) 12 fa fd ["_law_script"] (bM ⟨K w.params,cm⟩ 1 pP)) :
 nM q jx XP YP l.row.toRowW d [] (λf vs=>nq f vs):=
 P.BC (k:=12) (x:= "_law_script") (m:=pP) hn Ov ⟨rfl,by decide,by decide⟩ hY F Z2p
end
end T
namespace PySem.W.Fast
def tw17809299529393983839:=Nat
def tw3248297356943594198:=Nat
def tw12134498437025890232:=Nat
def tw3236474775649735390:=Nat
def tw11197944564327063693:=Nat
def tw4960246155237593467:=Nat
def tw15198753122576304316:=Nat
def tw14847905166223026706:=Nat
def tw3011482248459992203:=Nat
def tw7998694308551442738:=Nat
def tw4912037477203746912:=Nat
def tw3847445126943624218:=Nat
def tw3371578552037123197:=Nat
def tw17961407595707819836:=Nat
def tw13836544894292705703:=Nat
def tw3253194185361666069:=Nat
def tw3926693224886408501:=Nat
def tw9865862237558627514:=Nat
def tw4513997138595517061:=Nat
def tw12062001932219234562:=Nat
def tw1652070709875272812:=Nat
def tw15440621758426454821:=Nat
def tw14795235871934082837:=Nat
def tw3994806352388510222:=Nat
def tw1844999739354118259:=Nat
def tw16485539092579565333:=Nat
def tw2735864496644314298:=Nat
def tw2842900814742526480:=Nat
def tw1988820131549939713:=Nat
def tw8946107223269465842:=Nat
def tw6571743424677375170:=Nat
def tw12814512786768989471:=Nat
def tw6971807283143480137:=Nat
def tw16008020214525826629:=Nat
def tw9109890371797580089:=Nat
def tw7482285864570681955:=Nat
def tw2183001092960744224:=Nat
def tw1990106307282335871:=Nat
def tw7911782947760320220:=Nat
def tw15104651038536356895:=Nat
def tw1211946323351487152:=Nat
def tw13828250196000960735:=Nat
def tw15288738037906927066:=Nat
def tw9647155558264916135:=Nat
def tw6376079609955793387:=Nat
def tw10410710182454451271:=Nat
def tw9089075474699148424:=Nat
def tw16699688772554704524:=Nat
def tw15571244367373463875:=Nat
def tw4895031380095410569:=Nat
def tw2751689635990726719:=Nat
def tw8943989096012391319:=Nat
def tw3079883293813834610:=Nat
def tw4182085098747335595:=Nat
def tw7546325527741640880:=Nat
def tw638897870729492214:=Nat
def tw1541515210770380572:=Nat
def tw17456909615260322421:=Nat
def tw17998000208625750121:=Nat
def tw9331013969877371508:=Nat
def tw16203447166168531794:=Nat
def tw7809886501294882525:=Nat
def tw14205675254912316630:=Nat
def tw4604890297800538077:=Nat
def tw17571069184233588851:=Nat
def tw11446080730352894736:=Nat
def tw65494669430150450:=Nat
def tw70003631869524649:=Nat
def tw5852350509851335416:=Nat
def tw2684949087409880948:=Nat
def tw7939107031762201939:=Nat
def tw2749122706210822615:=Nat
def tw11291121699062836547:=Nat
def tw11112658916032916620:=Nat
def tw16892654693783119365:=Nat
def tw11698190959170232412:=Nat
def tw2777116443947096166:=Nat
def tw1604010380793059528:=Nat
def tw15976039325085319521:=Nat
def tw15260471318725156611:=Nat
def tw9594816701938479622:=Nat
def tw12810226358845332229:=Nat
def tw13626695469373068303:=Nat
def tw17064011058309190669:=Nat
def tw4505505402586817657:=Nat
def tw207329823374476267:=Nat
def tw13130467681825268080:=Nat
def tw5085507430516737907:=Nat
def tw10130918088554782966:=Nat
def tw18268392228706754122:=Nat
def tw7564052636982920275:=Nat
def tw3694978843256605629:=Nat
def tw3138971404940931158:=Nat
def tw13608919102239782684:=Nat
def tw5662025069595980093:=Nat
def tw598974382118178026:=Nat
def tw1574595945362573644:=Nat
def tw12744877970105903810:=Nat
def tw9089014688914382105:=Nat
def tw6174246193570467665:=Nat
def tw8491508317351010234:=Nat
def tw9610436647831483805:=Nat
def tw14708977120672941568:=Nat
def tw2977826853688782493:=Nat
def tw5417238882067629184:=Nat
def tw11074117791822402411:=Nat
def tw15316353104043390829:=Nat
def tw12320831659918832638:=Nat
def tw10321437612344195484:=Nat
def tw8577977468094985412:=Nat
def tw1619440316712234930:=Nat
def tw5687254965806391591:=Nat
def tw12726027203103226082:=Nat
def tw13414742583005198868:=Nat
def tw6667813331737946677:=Nat
def tw17217732231126139179:=Nat
def tw860341252603611031:=Nat
def tw5188539158301126743:=Nat
def tw4828330795678144090:=Nat
def tw1748779179971378147:=Nat
def tw1964320422136176433:=Nat
def tw15255703784633443819:=Nat
def tw10052292607942518330:=Nat
def tw12425189221257962638:=Nat
def tw9956845490385706848:=Nat
def tw4802181834388134692:=Nat
def tw15211225248097324311:=Nat
def tw1328945580496171241:=Nat
def tw2584292639168384342:=Nat
def tw5218494853444474788:=Nat
def tw5600783770275814497:=Nat
def tw3273212267792618560:=Nat
def tw8976962298617785024:=Nat
def tw16069416784109538424:=Nat
def tw5253513490021722341:=Nat
def tw7031094783328065713:=Nat
def tw12700391945308942637:=Nat
def tw4069195990046341984:=Nat
def tw17493818782335877578:=Nat
def tw16267904326751768833:=Nat
def tw12690533118854578038:=Nat
def tw8626319714731083297:=Nat
def tw9505491129763384626:=Nat
def tw15252587761534251874:=Nat
def tw11071811548007010549:=Nat
def tw15266151391751743607:=Nat
def tw365023303834660176:=Nat
def tw14647945677785359878:=Nat
def tw8226601855287533015:=Nat
def tw694828491631022628:=Nat
def tw5145648747139934859:=Nat
def tw11209710308392783970:=Nat
def tw7271427767658354279:=Nat
def tw1196218898084914894:=Nat
def tw7750834662145834778:=Nat
def tw6583504873753458665:=Nat
def tw7272799877960808556:=Nat
def tw17323807504689637445:=Nat
def tw13378649575406813710:=Nat
def tw15579639474707118383:=Nat
def tw10515250503139190808:=Nat
def tw2163371535579094050:=Nat
def tw6720753336590661789:=Nat
def tw17180257018780549591:=Nat
def tw8456014767378659932:=Nat
def tw4609637441016777425:=Nat
def tw576144262731595115:=Nat
def tw1244167639174284567:=Nat
def tw8162491401068393243:=Nat
def tw6706410729933977094:=Nat
def tw11957479611169010202:=Nat
def tw15621082336120926930:=Nat
def tw160931063886732973:=Nat
def tw2008927026432373737:=Nat
def tw4668545545929935650:=Nat
def tw16566903253624378051:=Nat
def tw1609473231412171697:=Nat
def tw13376902208150364401:=Nat
def tw1650624600435336887:=Nat
def tw11145140415803493411:=Nat
def tw12833701636706069959:=Nat
def tw516179089928469832:=Nat
def tw4107006752450223024:=Nat
def tw7971889004460013212:=Nat
def tw4409021140820386752:=Nat
def tw3479423901027709651:=Nat
def tw12056613387896958518:=Nat
def tw7295696795431461639:=Nat
def tw5758680170724707317:=Nat
def tw286558476800355174:=Nat
def tw1086382879710606850:=Nat
def tw8829820328036693770:=Nat
def tw13742770234235489075:=Nat
def tw5294431442756627789:=Nat
def tw17569786370174234069:=Nat
def tw14201351218539208087:=Nat
def tw4924084537578991305:=Nat
def tw13319226112728027923:=Nat
def tw9246129169572399550:=Nat
def tw3017243916062928461:=Nat
def tw13506833688949374004:=Nat
def tw17767093624881186918:=Nat
def tw7959859017094175422:=Nat
def tw10380326274619990627:=Nat
def tw10291953288851576565:=Nat
def tw9467464597913871778:=Nat
def tw3428795726558182443:=Nat
def tw12990346691845309096:=Nat
def tw18434786335848283162:=Nat
def tw6148311380823978180:=Nat
def tw14687083171772434147:=Nat
def tw14926655568555858734:=Nat
def tw3256250250802505647:=Nat
def tw3071332385102232407:=Nat
def tw847770435207622621:=Nat
def tw8381877699672122658:=Nat
def tw6471800415079721587:=Nat
def tw14384087437328350058:=Nat
def tw17185602001354869728:=Nat
def tw1268514338269872759:=Nat
def tw16593042355815134054:=Nat
def tw1764738822980062899:=Nat
def tw4940921696139718414:=Nat
def tw5473586381373184489:=Nat
def tw17514334306779561474:=Nat
def tw12981791738625179173:=Nat
def tw8325337756639354694:=Nat
def tw10405747111046382926:=Nat
def tw8474032345627770206:=Nat
def tw9446237471509735299:=Nat
def tw16811260017838268304:=Nat
def tw7927100370051807636:=Nat
def tw10751091214113925821:=Nat
def tw14475097302101355762:=Nat
def tw15368885593113049810:=Nat
def tw1355077861915189956:=Nat
def tw11363781529522971911:=Nat
def tw6554806673041132558:=Nat
def tw3264957109217214059:=Nat
def tw5604699033157211570:=Nat
def tw9724251068813371452:=Nat
def tw5356637597963869819:=Nat
def tw186115239896114909:=Nat
def tw14992739982388613206:=Nat
def tw16664391653253475629:=Nat
def tw5024474625787747690:=Nat
def tw17739826643828694095:=Nat
def tw1270906002966202106:=Nat
def tw16860510527628699490:=Nat
def tw12995746633772555412:=Nat
def tw7082712725838667886:=Nat
def tw10719235801032567579:=Nat
def tw8791752401420343236:=Nat
def tw17175661282408850227:=Nat
def tw787918412046505928:=Nat
def tw13507519336684673896:=Nat
def tw3306814166351867019:=Nat
def tw14183052447575878858:=Nat
def tw15242489126340930652:=Nat
def tw1016085035530308725:=Nat
def tw1630706356847026948:=Nat
def tw3403120936795342220:=Nat
def tw1424031233393146643:=Nat
def tw3633195396781194095:=Nat
def tw14678628469837674097:=Nat
def tw2089772279676204066:=Nat
def tw2671292644216793229:=Nat
def tw8648048413058700325:=Nat
def tw9139412916717735492:=Nat
def tw7468446989848320345:=Nat
def tw10807155470231436780:=Nat
def tw15513963249453984628:=Nat
def tw13965169664792355108:=Nat
def tw9844046743100720894:=Nat
def tw16249266260403487410:=Nat
def tw1016670574266934044:=Nat
def tw15958552488731004640:=Nat
def tw1990633196222757741:=Nat
def tw8272729399774311972:=Nat
def tw3359604106209166889:=Nat
def tw11306357581099531251:=Nat
def tw3977751856939049713:=Nat
def tw1080664148981425734:=Nat
def tw16836159036503752755:=Nat
def tw3992983855225361475:=Nat
def tw15792792052748356974:=Nat
def tw6706392205221125276:=Nat
def tw3726802983129713193:=Nat
def tw16012589118482204253:=Nat
def tw71458351860016201:=Nat
def tw12549728662620546631:=Nat
def tw9136612034245009849:=Nat
def tw15103172647549118723:=Nat
def tw12149330487702565974:=Nat
def tw11673079308030713304:=Nat
def tw1577545102905970028:=Nat
def tw9130722724128904253:=Nat
def tw10001264002962267676:=Nat
def tw5516886596213409298:=Nat
def tw1055187938363977051:=Nat
def tw1895014946652123457:=Nat
def tw14062869222521710486:=Nat
def tw9488796073677020177:=Nat
def tw6692623126348536380:=Nat
def tw3042719307764458262:=Nat
def tw1146018022864728489:=Nat
def tw5957366425065194840:=Nat
def tw6833856539425616309:=Nat
def tw14770432766688046971:=Nat
def tw3900082855350751681:=Nat
def tw10107511583784834266:=Nat
def tw8314905786472132804:=Nat
def tw8754112341309368450:=Nat
def tw2519392440130753956:=Nat
def tw10795013401835738693:=Nat
def tw17384711281242138715:=Nat
def tw11779404939746296814:=Nat
def tw12468300173373250489:=Nat
def tw14599333585541816166:=Nat
def tw14270324870933867940:=Nat
def tw14542826637512679910:=Nat
def tw8012153061189866403:=Nat
def tw15866026652453428680:=Nat
def tw10219333332876136139:=Nat
def tw3282205969476113362:=Nat
def tw7019235768376374686:=Nat
def tw8147976071826845727:=Nat
def tw12867797137838768944:=Nat
def tw5322178245589384630:=Nat
def tw3152086163331155062:=Nat
def tw3380746680741672840:=Nat
def tw11460539067262611236:=Nat
def tw4319109093528484761:=Nat
def tw8488579652556266874:=Nat
def tw10044438460192898221:=Nat
def tw4863475757898450397:=Nat
def tw14596755264569416184:=Nat
def tw9589810829422037235:=Nat
def tw5947546924110036518:=Nat
def tw5711973280655091997:=Nat
def tw4449345294467158514:=Nat
def tw9242626510694556807:=Nat
def tw9247428534787144093:=Nat
def tw1360622296942789914:=Nat
def tw9877347255416618692:=Nat
def tw3537060644234136797:=Nat
def tw9532837781486195480:=Nat
def tw3752744067051697798:=Nat
def tw6619538832380301898:=Nat
def tw9120583417077289334:=Nat
def tw12357560622308313897:=Nat
def tw16028832863024847490:=Nat
def tw14652483154505595880:=Nat
def tw3821444286521497136:=Nat
def tw10200875089142888104:=Nat
def tw17956263921099528554:=Nat
def tw11050891305264991542:=Nat
def tw14903478584435942028:=Nat
def tw2497262553316121711:=Nat
def tw14352126138552700771:=Nat
def tw10457037730214351267:=Nat
def tw9856300634479653090:=Nat
def tw17755116555594293462:=Nat
def tw4095641260086573388:=Nat
def tw14141467946794564472:=Nat
def tw2416184590199114065:=Nat
def tw7684939430886285894:=Nat
def tw18768948737872843:=Nat
def tw7309084654784248664:=Nat
def tw14952435797626444651:=Nat
def tw378942520939443465:=Nat
def tw5529055518523986681:=Nat
def tw7246579007872198126:=Nat
def tw9955416978781775694:=Nat
def tw2202811571945827186:=Nat
def tw897210298955088170:=Nat
def tw2451852650742885372:=Nat
def tw18376621271086159580:=Nat
def tw420729046639317760:=Nat
def tw10548176308266640404:=Nat
def tw8888083631656843474:=Nat
def tw18130331968268686152:=Nat
def tw1339499370613276144:=Nat
def tw4478560703966931277:=Nat
def tw3794337260792638210:=Nat
def tw13220006844090388240:=Nat
def tw10032484113404298716:=Nat
def tw8502547156890171651:=Nat
def tw7005405804170606622:=Nat
def tw10690024498185272429:=Nat
def tw5626410049199068394:=Nat
def tw4358583404849003629:=Nat
def tw11179935288333850964:=Nat
def tw887754231370675490:=Nat
def tw16041748363807509338:=Nat
def tw14356052013077142252:=Nat
def tw9331603871963982211:=Nat
def tw17534487988087721159:=Nat
def tw12526949102260939613:=Nat
def tw1140113270583317226:=Nat
def tw13529005167217233531:=Nat
def tw14724874092536580125:=Nat
def tw6024133133553680289:=Nat
def tw5660420517191337143:=Nat
def tw12497504749772873215:=Nat
def tw15317240518526920331:=Nat
def tw3915058965649255111:=Nat
def tw13764243075951822602:=Nat
def tw15251077795485121867:=Nat
def tw9187791555805843553:=Nat
def tw303978167655088757:=Nat
def tw209850417145713427:=Nat
def tw13601438543158966896:=Nat
def tw8352133796128072440:=Nat
def tw11838369298429328356:=Nat
def tw13480665232978528443:=Nat
def tw3359222482714487865:=Nat
def tw17760761224903130473:=Nat
def tw11639903977687879510:=Nat
def tw14921527864193641400:=Nat
def tw10160457319680477438:=Nat
def tw7248997892382848276:=Nat
def tw8524330247908796436:=Nat
def tw9954100676482439965:=Nat
def tw6413779036030383594:=Nat
def tw4709409910762550299:=Nat
def tw4789508831257289107:=Nat
def tw10305063589276487818:=Nat
def tw9171001489069845205:=Nat
def tw9922930683862554717:=Nat
def tw7367307493710806965:=Nat
def tw10116897648760718502:=Nat
def tw6108377642395612107:=Nat
def tw12115290079584527761:=Nat
def tw14332814693564422554:=Nat
def tw8155844979141652924:=Nat
def tw4008917724766517614:=Nat
def tw11626073358929738556:=Nat
def tw9775482386818250068:=Nat
def tw15702215752217638005:=Nat
def tw2220932715014902282:=Nat
def tw10460329552465738847:=Nat
def tw6377471558175225076:=Nat
def tw2152608153261312983:=Nat
def tw10674936579217373623:=Nat
def tw17593587856793802319:=Nat
def tw2542735885838898464:=Nat
def tw3221731534290539516:=Nat
def tw8981592758743393903:=Nat
def tw16467042510036708249:=Nat
def tw6084600277623593527:=Nat
def tw2524506479997680390:=Nat
def tw3255379064333448571:=Nat
def tw2313877867997039106:=Nat
def tw17101869712680741954:=Nat
def tw18237092465526733626:=Nat
def tw456838214959304919:=Nat
def tw3184687112809899297:=Nat
def tw8344611376430146713:=Nat
def tw9456751079029833502:=Nat
def tw12568858957526699127:=Nat
def tw5976022339625930432:=Nat
def tw16497459564172460698:=Nat
def tw846674338591913532:=Nat
def tw2560652512618247771:=Nat
def tw6764820864850658220:=Nat
def tw12626897508876462617:=Nat
def tw9625780325739579859:=Nat
def tw17153875867928200358:=Nat
def tw9872248189282585449:=Nat
def tw1841487972291373574:=Nat
def tw7817731373049924130:=Nat
def tw5039181802440464296:=Nat
def tw5396668672410088163:=Nat
def tw4179199658194689979:=Nat
def tw7032510152720243849:=Nat
def tw677497206064897231:=Nat
def tw6533018858876993901:=Nat
def tw13221356873773834207:=Nat
def tw4748391163555793492:=Nat
def tw15394075449223137080:=Nat
def tw3041970902973501848:=Nat
def tw18217665846248713208:=Nat
def tw3163376245225358505:=Nat
def tw552279701171338216:=Nat
def tw14944537205437954047:=Nat
def tw1454384211203854690:=Nat
def tw8026444930407100312:=Nat
def tw10152579291719212497:=Nat
def tw3282557795571099400:=Nat
def tw8954930825912281940:=Nat
def tw12958964446504650509:=Nat
def tw13802153584992848406:=Nat
def tw7045908778898325866:=Nat
def tw9108150299538725094:=Nat
def tw14396802653084089839:=Nat
def tw1116943345528573496:=Nat
def tw5258009742148291048:=Nat
def tw13818920869533465391:=Nat
def tw15859063364355902059:=Nat
def tw6526738888931004662:=Nat
def tw2638699070446174680:=Nat
def tw18314557847054758473:=Nat
def tw4805348690292657688:=Nat
def tw4793911891516465547:=Nat
def tw17685242127465577181:=Nat
def tw13890534730770738164:=Nat
def tw4205178706026562662:=Nat
def tw11403360781606577175:=Nat
def tw1915523371047602591:=Nat
def tw12645176028129962530:=Nat
def tw12398027071895989686:=Nat
def tw17724350396020238430:=Nat
def tw4915057777906356904:=Nat
def tw3837574602082248036:=Nat
def tw3995331101682062677:=Nat
def tw18185652552046203638:=Nat
def tw1618245041081911240:=Nat
def tw17991258870463547938:=Nat
def tw9851794038982146062:=Nat
def tw1187871236322376645:=Nat
def tw8377426125134907686:=Nat
def tw7888627606340514410:=Nat
def tw8757180644702503111:=Nat
def tw4348297561932324882:=Nat
def tw12964669119459253221:=Nat
def tw9815300180802952850:=Nat
def tw2537630443665274571:=Nat
def tw1348204938594468714:=Nat
def tw13965932624959761239:=Nat
def tw2032737404236961857:=Nat
def tw15532385154996386918:=Nat
def tw17506410475409055989:=Nat
def tw2980403347756215130:=Nat
def tw1633684772745138011:=Nat
def tw9204242566661149864:=Nat
def tw16986629753065269820:=Nat
def tw4314612371611820892:=Nat
def tw2059254646521861584:=Nat
def tw17109737135802245017:=Nat
def tw14848748618253147411:=Nat
def tw1592495210796177763:=Nat
def tw3423775406317839087:=Nat
def tw13865488373335495275:=Nat
def tw3052889732334447575:=Nat
def tw10780890804344519985:=Nat
def tw5153285700498729459:=Nat
def tw5199267157876829345:=Nat
def tw12187089766996034084:=Nat
def tw15206199450808586942:=Nat
def tw17010839462273354376:=Nat
def tw15776713458920725558:=Nat
def tw12455509730318856918:=Nat
def tw17714322864646404587:=Nat
def tw9450814752126013709:=Nat
def tw4445133891267138142:=Nat
def tw5533316976569259103:=Nat
def tw8407149229573307514:=Nat
def tw4907698472088545176:=Nat
def tw3209860643731580843:=Nat
def tw17756748030503747174:=Nat
def tw13760610557256923621:=Nat
def tw12706391879551847822:=Nat
def tw2652115500442511646:=Nat
def tw5571925175361307335:=Nat
def tw11896042698457019300:=Nat
def tw12470506756255546223:=Nat
def tw17003151318085815986:=Nat
def tw15497683738248774421:=Nat
def tw2797623620995152604:=Nat
def tw10127617827846763837:=Nat
def tw4492735732589252494:=Nat
def tw17620741860417115027:=Nat
def tw12045403837885674928:=Nat
def tw9229223073922781696:=Nat
end PySem.W.Fast
open PySem PySem.W PyProof.Rows
set_option maxRecDepth 100000 in
set_option maxHeartbeats 0 in
theorem PySem.Challenge.cw_shadowpost_k72_rows_that_cannot_stand_holds : PySem.Challenge.rw_shadowpost_k72_rows_that_cannot_stand.Holds := by
 w_on;o_law;k_head;(case hw=>w_witness2)
 k_fill
 refine T.Z3O (l:=PySem.Challenge.rw_shadowpost_k72_rows_that_cannot_stand) rfl rfl (λw h Qqj=>by first|exact PySem.W.kIn_of Qqj|exact PySem.W.km_in_of Qqj) ?F
 case F=>
  intro w mg fa h KX G RQ
  refine' T.Z3j (a:=T.sk.mk) (T.Tx.mk (ģ KX G ?_) (ģ KX G ?_) (ģ KX G ?_) (ģ KX G ?_) (ģ KX G ?_) (ģ KX G ?_) (ģ KX G ?_) (ģ KX G ?_) (ģ KX G ?_) (ģ KX G ?_) (ģ KX G ?_) (ģ KX G ?_) (ģ KX G ?_) (ģ KX G ?_) (ģ KX G ?_) (ģ KX G ?_) (P.Į KX G (λ_ _ _ _ _ _ _ _=>rfl) ?_ ?_ ?_ ?_) (P.Į KX G (λ_ _ _ _ _ _=>rfl) ?_ ?_ ?_ ?_) (P.Į KX G (λ_ _ _ _ _ _ _ _ _=>rfl) ?_ ?_ ?_ ?_) (P.Į KX G (λ_ _ _ _ _ _=>rfl) ?_ ?_ ?_ ?_) (P.Į KX G (λ_ _ _ _ _ _ _ _ _=>rfl) ?_ ?_ ?_ ?_) (P.Į KX G (λ_ _ _ _ _ _ _ _ _=>rfl) ?_ ?_ ?_ ?_) (P.Į KX G (λ_ _ _ _ _ _ _ _=>rfl) ?_ ?_ ?_ ?_) (P.Į KX G (λ_ _ _ _ _ _ _ _=>rfl) ?_ ?_ ?_ ?_) (P.Į KX G (λ_ _ _ _ _ _ _ _ _=>rfl) ?_ ?_ ?_ ?_) (P.Į KX G (λ_ _ _ _ _ _ _=>rfl) ?_ ?_ ?_ ?_) (P.Į KX G (λ_ _ _ _ _ _ _=>rfl) ?_ ?_ ?_ ?_) (P.Į KX G (λ_ _ _ _ _ _ _ _ _ _=>rfl) ?_ ?_ ?_ ?_) (P.Į KX G (λ_ _ _ _ _ _ _=>rfl) ?_ ?_ ?_ ?_) (P.l_ (λ_ _ _ _ _ _ _=>rfl) ?_ ?_ ?_ ?_) (P.Į KX G (λ_ _ _ _ _ _ _=>rfl) ?_ ?_ ?_ ?_) (P.Į KX G (λ_ _ _ _ _ _ _=>rfl) ?_ ?_ ?_ ?_) (P.Į KX G (λ_ _ _ _ _ _ _ _ _=>rfl) ?_ ?_ ?_ ?_) (P.Į KX G (λ_ _ _ _ _ _ _=>rfl) ?_ ?_ ?_ ?_) (P.Į KX G (λ_ _ _ _ _ _ _=>rfl) ?_ ?_ ?_ ?_) (P.Į KX G (λ_ _ _ _ _ _ _ _=>rfl) ?_ ?_ ?_ ?_) (P.Į KX G (λ_ _ _ _ _ _ _ _=>rfl) ?_ ?_ ?_ ?_) (P.Į KX G (λ_ _ _ _ _ _ _=>rfl) ?_ ?_ ?_ ?_) (P.l_ (λ_ _ _ _ _ _ _ _ _ _ _=>rfl) ?_ ?_ ?_ ?_) (P.Į KX G (λ_ _ _ _ _ _ _=>rfl) ?_ ?_ ?_ ?_) (P.Į KX G (λ_ _ _ _ _ _ _ _=>rfl) ?_ ?_ ?_ ?_) (P.Į KX G (λ_ _ _ _ _ _ _ _ _=>rfl) ?_ ?_ ?_ ?_) (P.Į KX G (λ_ _ _ _ _ _ _=>rfl) ?_ ?_ ?_ ?_) (P.Į KX G (λ_ _ _ _ _ _ _ _=>rfl) ?_ ?_ ?_ ?_) (P.Į KX G (λ_ _ _ _ _ _ _ _ _=>rfl) ?_ ?_ ?_ ?_) (P.Į KX G (λ_ _ _ _ _ _ _=>rfl) ?_ ?_ ?_ ?_) (P.Į KX G (λ_ _ _ _ _ _ _=>rfl) ?_ ?_ ?_ ?_) (P.Į KX G (λ_ _ _ _ _ _ _=>rfl) ?_ ?_ ?_ ?_) (P.l_ (λ_ _ _ _ _ _ _ _ _=>rfl) ?_ ?_ ?_ ?_) (P.Į KX G (λ_ _ _ _ _ _ _=>rfl) ?_ ?_ ?_ ?_) (P.Į KX G (λ_ _ _ _ _ _ _=>rfl) ?_ ?_ ?_ ?_) (P.Į KX G (λ_ _ _ _ _ _ _=>rfl) ?_ ?_ ?_ ?_) (P.Į KX G (λ_ _ _ _ _ _ _=>rfl) ?_ ?_ ?_ ?_) (P.Į KX G (λ_ _ _ _ _ _ _=>rfl) ?_ ?_ ?_ ?_) (P.Į KX G (λ_ _ _ _ _ _ _ _=>rfl) ?_ ?_ ?_ ?_) (P.Į KX G (λ_ _ _ _ _ _ _ _=>rfl) ?_ ?_ ?_ ?_) (P.Į KX G (λ_ _ _ _ _ _ _ _ _ _=>rfl) ?_ ?_ ?_ ?_) (P.Į KX G (λ_ _ _ _ _ _ _ _ _ _=>rfl) ?_ ?_ ?_ ?_) (P.Į KX G (λ_ _ _ _ _ _ _=>rfl) ?_ ?_ ?_ ?_) (P.l_ (λ_ _ _ _ _ _ _ _=>rfl) ?_ ?_ ?_ ?_) (P.Į KX G (λ_ _ _ _ _ _ _ _=>rfl) ?_ ?_ ?_ ?_) (P.Į KX G (λ_ _ _ _ _ _ _=>rfl) ?_ ?_ ?_ ?_) (P.l_ (λ_ _ _ _ _ _ _ _=>rfl) ?_ ?_ ?_ ?_) (P.l_ (λ_ _ _ _ _ _ _ _ _=>rfl) ?_ ?_ ?_ ?_) (P.l_ (λ_ _ _ _ _ _ _ _=>rfl) ?_ ?_ ?_ ?_) (P.l_ (λ_ _ _ _ _ _ _ _=>rfl) ?_ ?_ ?_ ?_) (ģ KX G ?_) (ģ KX G ?_) (ģ KX G ?_) (ģ KX G ?_) (ģ KX G ?_) (ģ KX G ?_) (ģ KX G ?_) (ģ KX G ?_) (ģ KX G ?_) (ģ KX G ?_) (ģ KX G ?_) (ģ KX G ?_) (ϣ KX G ?_) (ϣ KX G ?_) (ϣ KX G ?_) (ϣ KX G ?_) (ϣ KX G ?_) (ϣ KX G ?_) (ϣ KX G ?_) (ϣ KX G ?_) (ϣ KX G ?_) (ϣ KX G ?_) (ϣ KX G ?_) (ϣ KX G ?_) (ϣ KX G ?_) (ϣ KX G ?_) ?_ ?_ ?_ ?_ ?_ ?_ ?_ ?_ ?_ (P.uR ?_) ?_ ?_ (P.uR ?_) ?_ ?_ ?_ (P.uR ?_) ?_ ?_ ?_ ?_ ?_ (P.uR ?_) ?_ ?_ (P.h_ ?_) (P.lZ ?_) ?_ ?_ (P.iY ?_) (P.h_ ?_) (P.lZ ?_) ?_ ?_ (P.iY ?_) (P.h_ ?_) (P.lZ ?_) ?_ ?_ (P.iY ?_) (P.h_ ?_) (P.lZ ?_) ?_ ?_ (P.iY ?_) (P.h_ ?_) (P.lZ ?_) ?_ ?_ (P.iY ?_) (P.h_ ?_) (P.lZ ?_) ?_ ?_ (P.iY ?_) (P.h_ ?_) (P.lZ ?_) ?_ ?_ ?_ ?_ (P.h_ ?_) (P.lZ ?_) ?_ ?_ (P.kR ?_) (P.kR ?_) ?_ (P.kR ?_) (P.kR ?_) (P.DO ?_) (P.DP ?_) (P.DQ ?_) (P.AL ?_)) RQ
  any_goals (dsimp only;k_is)
  any_goals first|kernel_rfl|(unfold L2.ċ;kernel_rfl)
  all_goals skip
