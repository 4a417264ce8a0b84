import PyProof.Rows.All
import Wide.All
import OpenK.AllK
import Wide.FinOn
import Lean
import PyProof.EqAt
import PyProof.EqKinds
import PyProof.TupleCall
import PySem.Challenge.RW_shadowpost_k74_full_yards
set_option Elab.async false
set_option linter.all false
set_option maxRecDepth 100000
set_option maxHeartbeats 4000000
noncomputable section
open Array renaming length_toList->xS,getElem?_setIfInBounds_ne->lm,getElem?_eq_some_iff->iz
open Bool renaming false_ne_true->bI,or_false->qv,false_eq_true->iA,eq_iff_iff->lq,and_eq_true->Ą,or_eq_true_iff->xT
open Char renaming toNat->ŵ
open Classical renaming byContradiction->xU
open False renaming elim->ě
open ForInStep renaming yield->cu
open Function renaming comp_def->lr
open Int renaming eq_ofNat_of_zero_le->xV
open List renaming range->ϑ,mem_range->lu,filterMap_cons->qw,mem_cons_self->ŧ,mem_cons_of_mem->ù,mem_cons->ė,mem_append->ah,mem_append_left->iB,getElem?_eq_some_iff->gi,getElem?_set_self->iE,getElem?_set_ne->dN,mem_filterMap->lv,mem_append_right->Ŷ,size_toArray->ħ,length_cons->Ĝ,lookup->dO,map_cons->á,length_map->Ŏ,append_nil->ϩ,nodup_cons->bJ,of_mem_zip->iF,replicate->Ñ,length->aN,length_take->lw,getElem?_append_right->dP,getElem?_replicate->cw,getElem?_append_left->Ϫ,getElem?_map->ķ,mem_of_getElem?->lx,length_append->ϫ,map_nil->Ũ,all_eq_true->cx,lookup_cons->İ,forIn_cons->ly,nil_append->qy,append_assoc->qz,getD_eq_getElem?_getD->qA,getElem?_eq_getElem->Ϭ,getElem_mem->qB,drop_zero->lz,take_of_length_le->xW,map_map->ŷ,map_congr_left->xX,drop_eq_getElem_cons->dQ,drop_eq_nil_of_le->cy,length_eq_zero_iff->lA,contains_cons->iG,cons_append->cz,getElem?_cons_succ->gj,mem_singleton->qC,any_cons->gk,getLast?_cons_cons->xY,map_append->ŀ,getElem?_of_mem->xZ,mem_map->ĸ,nodup_append->qD,take_succ_cons->x_,mem_of_getLast?->ya,flatMap_cons->qE,eraseIdx_eq_take_drop_succ->qF,map_take->qG,map_drop->qH,length_eraseIdx_le->yb,forall_mem_cons->ϒ
open List.Pairwise renaming nil->yc
open Nat renaming lt_of_lt_of_le->ŏ,lt_irrefl->ϓ,ne_of_lt->Ĥ,le_trans->Ő,le_of_lt->iH,ne_of_gt->ai,le_refl->â,le_of_eq->qI,lt_succ_self->qJ,zero_le->Ÿ,le_succ->iI,lt_trans->qK,lt_succ_of_lt->gl,toDigits->Ŝ,mul_le_mul->gm
open Ne renaming symm->Ć
open OfNat renaming ofNat->ϭ
open Option renaming map_eq_some_iff->iJ,bind_eq_some_iff->qL
open Option.some renaming inj->Ŋ
open Or renaming inl->ą,inr->ÿ
open PyProof.Rows renaming AllBare->aO,callWith_type1->yf,envOfC->ê,boot_all->iK,boot_int->yg,boot_list->cA,boot_abs->yh,boot_str->aP
open PySem renaming Value->Á,World->Ô,Program->Ù,Addr->À,Heap->Ë,sysModules->iL,Within->iM,mainGlobals->Ź,bootBuiltins->cB,Around->Ú,Shared->Â,Scope->ë,Model->ϔ,wpAny->Ç,Expr->Å,model->É,backTo->ñ,starEach->È,Stmt->Ï,wpAny_mono->ı,wpAny_execs_nil->iO,wpAny_execs_cons->lB,swapsWith->Ĳ,assign->dR,assignEach->bK,pyNext->dS,letOwnedTupleGo->lE,wpAny_pure->è,wpAny_bind->Ê,rawInt->Ĺ,foldedSetIterable->aQ,wpAny_passesOwn->iP,binaryOp->ŝ,compareOp->Ę,CmpOp->aj,behindInMarks->cC,sizeLine_eq->Ϯ,wpAny_truthy_bool->bL,standAt->cD,wpAny_loadPart->qM,wpAny_lookBehind->qN,pastItsLine_dict->qO,codeAny->ϕ,attributeBase->ϯ,plainObj_wpAny_Assign_Attribute->yi,recursionLimit->qP,cLine->ź,FuncData->ú,BindsTo->aR,Keyword->Ł,NameKind->ϰ,leaving->dU,cellsFrom->ĥ,mem_of_lookup->iQ,Arguments->aS,codeAny_call_function->qQ,wpAny_newFunctionEnv_cells->qR,wpAny_Call_Name_kw->bM,typeLookup->iR,typeIs_str->dW,sliceBounds->dX,backToKw->ϱ,keywordEach->ϲ,call_meets->gn,Params->ĺ,callerA->cE,call->lF,codeAny_mono->bN,DictEntry->iS,PyData->Ż,noteFrame->ak,wpAny_standAt->cF,wpAny_comprehension_free->yj,wpAny_newObj_type->qS,wpAny_pyIter_list->iU,wpAny_call->dY,callWith->iV,wpAny_setField->gp,wpAny_field->ŋ,setFlight->iW,ExceptHandler->gq,Builtin->gt,wpAny_loadPart_at->bO,wpAny_holding->iX,codeAny_call_builtin->qT,raiseStmt->gu,cameBackBy->lG,boot_len->Ļ,IsEnum->ϖ,wpAny_setField_rec->iY,Str->ő,evalEach->iZ,intText?->i_
open PySem.Around renaming under->qU
open PySem.Builtin.Int renaming intBits->yk
open PySem.Builtin.List renaming listTooLong->qV
open PySem.Builtin.SmallTypes renaming ownedTupleIsFree->yl,ownedTupleHandOut->ym
open PySem.Builtin.Str renaming strSliceIndices->gv,occurrences->dZ,strKind->gw
open PySem.Calls renaming Constant_str->qW,Name_function_global->yn,spliced_cons->qX,callWith_builtin->yo,evalArgs_plain->yq
open PySem.Code renaming isFrame->qY,quiet_builtin->qZ
open PySem.EntryCells renaming newEntry->yr
open PySem.F renaming slot_list_append->gx,slot_list_extend->q_,excBase_ValueError->yt,plainAttrs_list->cG,type_list_append->ja,called_enumerate->re,slot_enumerate_next->lH,entry_enumerate_next->yu,args_enumerate_next_1->yw,slot_str_split->gy,entry_str_split->rh,args_str_split_2->ri,plainAttrs_str->ż,slot_str_startswith->yx,type_str_startswith->yy,type_str_split->rj,slot_str_join->cH,type_str_join->cI,type_list_extend->yz
open PySem.Heap renaming lt_size->í,get?_none_of_le->rk,SameBut->am,get?_push_of_some->ô,get?_push_size->ļ,size_push->aT,get?_update_other->bP,get?_update_self->aU,MadeExcOf->rm,get?_push_at->rn,get?_update_ne->yA,get?_push_cases->yB
open PySem.Heap.Ns1 renaming of_empty->yC
open PySem.NameKind renaming free->ϳ,cell->cJ
open PySem.Obj renaming data_mapFields->ϗ,mapFields->Ž,isFreed_of_fields->bQ
open PySem.PassesOwn renaming leaving->gz
open PySem.PyData renaming eqv->Ģ,strOk->č,canLay0->ro,canLayAll0->d_,eqvAll->jb
open PySem.Sem renaming wp->ę
open PySem.Str renaming empty->eh,length->Ϙ,ofString->Ä,ext'->ao,cps_append->jc
open PySem.Txt renaming replace->jd
open PySem.Value renaming isStrOf->bR,bool->Ş,ref->ć,type->rz
open PySem.Value.type renaming inj->yD
open PySem.W renaming instObj->bS,methodObj->rC,hideAll->bT,hideAll_get->rD,of_hideAll->rE,hideAll_none->rG,Frag->Æ,tabIn->ϴ,CodeHd->rH,lookIn->lI,InstAt->lJ,plainGet->je,hasDictIn->lK,findIn->Ĩ,handedIn->yE,plainGet_of->rJ,isFn->jf,plainOver->rK,takerIn->rM,set_plain->rN,looks_clsIn->lL,makesIn->rP,typeIn->lM,emptyDict->aV,looks_findIn->rQ,keepIn->Ō,cellsFrom_some->lN,fnOf->ş,codeIn->ei,codeRec_of->rS,OpenLaw->eB,WalkO->lO,noTabs->rT,callWith_K->cK,methodCall_KW->yF,funFrames_hide->yG,excIn->eD,tail_of_in->yH,kitCls->aq,mroIn->ar,looks_mroIn->lP,tailIn->gA,Looks->jg,kitOne->ϵ,mg_of->Ă,mg_none_of->bU
open PySem.W.KIN renaming val_back->yI
open PySem.W.Looks renaming here->rW
open PySem.Within renaming cons->rX
open Sum renaming inl->eE,inr->eG
open ToString renaming toString->ϙ
namespace L2
open PySem PySem.Spec PyProof.Rows
abbrev Key:=Sum Int Str
noncomputable def F7:Key->Á->Bool
 | .inl k,v=>Value.isInt k v
 | .inr x,v=>bR x v
def RZ(w:Ô):Key->Int
 | .inl k=>hashInt k
 | .inr x=>hashStr w x
theorem Œ:∀{k:Key} {v:Á},F7 k v=true->(∃i t,k=eE i/\v=Value.int i t)\/(∃x t,k=eG x/\v=Value.str x t)
 | .inl i,v,h=>by obtain⟨t,e⟩:=Value.isInt_shape (k:=i) (v:=v) h;exact .inl ⟨i,t,rfl,e⟩
 | .inr x,v,h=>by obtain⟨t,e⟩:=Value.isStrOf_shape (x:=x) (v:=v) h;exact .inr ⟨x,t,rfl,e⟩
def Jx(a b:Int):decide ((eE a:Key)=eE b)=(a== b):=by
 by_cases e:a=b
 ·subst e;simp
 ·have h:¬(eE a:Key)=eE b:=λq=>e (Sum.inl.inj q);rw[decide_eq_false h];exact(beq_eq_false_iff_ne.mpr e).symm
def Jy(a b:Str):decide ((eG a:Key)=eG b)=decide (a=b):=by
 by_cases e:a=b
 ·subst e;simp
 ·have h:¬(eG a:Key)=eG b:=λq=>e (Sum.inr.inj q);rw[decide_eq_false h,decide_eq_false e]
def Jz(a:Int)(b:Str):decide ((eE a:Key)=eG b)=false:=decide_eq_false (λq=>nomatch q)
def JA(a:Str)(b:Int):decide ((eG a:Key)=eE b)=false:=decide_eq_false (λq=>nomatch q)
def rY(prog:Ù)(w:Ô):PySem.KeyKind prog w Key where
 is:=F7
 hash:=RZ w
 inj:=λv a b ha hb=>by
  rcases Œ ha with⟨i,t,rfl,rfl⟩|⟨x,t,rfl,rfl⟩
  ·rcases Œ hb with⟨j,u,rfl,e⟩|⟨y,u,rfl,e⟩
   ·injection e with e1 _;rw[e1]
   ·exact nomatch e
  ·rcases Œ hb with⟨j,u,rfl,e⟩|⟨y,u,rfl,e⟩
   ·exact nomatch e
   ·injection e with e1 _;rw[e1]
 byValue:=λk v h=>by rcases Œ h with⟨i,t,rfl,rfl⟩|⟨x,t,rfl,rfl⟩<;>rfl
 pyHash:=λhv h=>by
  rcases Œ hv with⟨i,t,rfl,rfl⟩|⟨x,t,rfl,rfl⟩
  ·exact wpAny_pyHash_int h
  ·exact wpAny_pyHash_str h
 eqBool:=λhu hv h=>by
  rcases Œ hu with⟨i,t,rfl,rfl⟩|⟨x,t,rfl,rfl⟩
  ·rcases Œ hv with⟨j,u,rfl,rfl⟩|⟨y,u,rfl,rfl⟩
   ·rw[Jx] at h;exact wpAny_eqBool_int h
   ·rw[Jz] at h;exact SeqAt.EqAt.int_str i t y u _ _ _ _ h
  ·rcases Œ hv with⟨j,u,rfl,rfl⟩|⟨y,u,rfl,rfl⟩
   ·rw[JA] at h;exact SeqAt.EqAt.str_int x t j u _ _ _ _ h
   ·rw[Jy] at h;exact wpAny_eqBool_str h
 «strs» := fun k x t v h=>by
   rcases Œ h with⟨i,u,rfl,e⟩|⟨y,u,rfl,e⟩
   ·exact nomatch e
   ·injection e with e1 _
    subst e1;cases v<;>rfl
inductive V where
 |non|bl (b:Bool)|int (i:Int)|str (x:Str)|F8 (b:Array UInt8)|flt (b:UInt64)|ref (a:À)|ty (n:String)
 deriving DecidableEq
def RelV:V->Á->Prop
 | .non,u=>u=Value.none
 | .bl b,u=>u=Ş b
 | .int i,u=>∃t,u=Value.int i t
 | .str x,u=>∃t,u=Value.str x t
 | .F8 b,u=>∃t,u=Value.bytes b t
 | .flt b,u=>∃t,u=Value.float b t
 | .ref a,u=>u=ć a
 | .ty n,u=>u=rz n
abbrev ġ:List V->List Á->Prop:=Paired RelV
theorem ġ.length{xs:List V}{us:List Á}(r:ġ xs us):xs.length=us.length:=Paired.length r
theorem ġ.get:∀{xs:List V} {us:List Á} {i:Nat} {x:V},ġ xs us->xs[i]?=some x->∃u,us[i]?=some u/\RelV x u
 |_,_,_,_,.nil,e=>by simp at e
 |_,_,0,_,.cons r _,e=>by simp at e;subst e;exact⟨_,rfl,r⟩
 |_,_,i+1,x,.cons _ t,e=>by obtain⟨u,h1,h2⟩:=ġ.get (i:=i) (x:=x) t (by simpa using e);exact⟨u,by simpa using h1,h2⟩
theorem ġ.append:∀{xs ys:List V} {us ws:List Á},ġ xs us->ġ ys ws->ġ (xs++ys) (us++ws)
 |_,_,_,_,.nil,s=>s
 |_,_,_,_,.cons r t,s=>.cons r (ġ.append t s)
theorem ġ.take:∀{xs:List V} {us:List Á} (n:Nat),ġ xs us->ġ (xs.take n) (us.take n)
 |_,_,0,_=>.nil
 |_,_,_+1,.nil=>.nil
 |_,_,n+1,.cons r t=>.cons r (ġ.take n t)
theorem ġ.drop:∀{xs:List V} {us:List Á} (n:Nat),ġ xs us->ġ (xs.drop n) (us.drop n)
 |_,_,0,r=>r
 |_,_,_+1,.nil=>.nil
 |_,_,n+1,.cons _ t=>ġ.drop n t
def jT:Option V->Option Á->Prop
 |some v,some u=>RelV v u
 |none,none=>True
 |_,_=>False
def KV{κ:Type}:List (κ×V)->List (κ×Á)->Prop:=Paired λ(p:κ×V) (q:κ×Á)=>p.1=q.1/\RelV p.2 q.2
noncomputable def kV:Key->V
 | .inl i=>.int i
 | .inr x=>.str x
inductive HO where
 |lst (xs:List V)
 |tup (xs:List V)
 |dK (ia:List (Key×V))|dT (ia:List (List Key×V))
 |set (S:Int->Bool) (n:Nat)
 |ins (C dx:À) (fs:List (Str×V))
 |own (x:À)
 |xd (fs:List (Str×V))
 |met (f x:À)
 |rng (lo hi:Int)
 |ba (o:Obj) (u:HO)
 |Ϗ (q:Str)
 |F9 (q:Str)
 |ext (φ:Ë->Prop)
abbrev Hp:=À->Option HO
noncomputable def upd(H:Hp)(a:À)(o:HO):Hp:=λb=>if b=a then some o else H b
def Ü{H:Hp}{a:À}{o:HO}:upd H a o a=some o:=by unfold upd;rw[if_pos rfl]
def Ö{H:Hp}{a b:À}{o:HO}(h:b≠a):upd H a o b=H b:=by unfold upd;rw[if_neg h]
def æ{H:Hp}{a b:À}{o:HO}(h:H a=some o)(h':H b=none):a≠b:=by intro e;subst e;rw[h] at h';cases h'
section
variable(P:Ù)(w:Ô)
def Ϣ(H:Hp)(h:Ë)(a:À):HO->Prop
 | .lst xs=>xs.length<=sizeLine/\∃(Ğ:List Á) (n:Nat),ġ xs Ğ/\h.get? a=some {cls:=.type "list",data:=.seq Ğ.toArray n}
 | .tup xs=>xs.length<=sizeLine/\∃Ğ:List Á,ġ xs Ğ/\IsTup h a Ğ.toArray
 | .dK ia=>ia.length<=sizeLine/\(a== iL)=false/\∃vs,KV ia vs/\h.DictOf (rY P w) a vs
 | .dT ia=>ia.length≤sizeLine∧(a== iL)=false∧∃xs:List (List Key×À×Á),
     Paired (λ(p:List Key×V) (q:List Key×À×Á)=>p.1=q.1/\H q.2.1=some (.tup (p.1.map kV))/\RelV p.2 q.2.2) ia xs/\
     ∃o es ep,h.get? a=some o/\o.ExactDict/\o.data=.dict es ep/\es.toList=xs.map (entryOfKey (tupleKind (rY P w)))/\(xs.map (·.1)).Nodup
 | .set S n=>h.SetOf (intKind P w) a S n
 | .ins C dx fs=>H dx=some (.own a)∧fs.length≤1000∧dx≠a∧h.get? a=some (bS C dx)∧
     ∃mA,h.Ns1 dx mA/\(∀f,jT (fs.lookup f) (mA f))/\iM mA (fs.map (·.1))
 | .own _=>∃o,h.get? a=some o
 | .xd fs=>∃mA,h.Ns1 a mA/\∀f,jT (fs.lookup f) (mA f)
 | .rng lo hi=>∃t u v,h.get? a=some {cls:=.type "range",data:=.fields #[.int lo t,.int hi u,.int 1 v]}
 | .ba o u=>h.get? a=some o/\Ϣ H h a u
 | .Ϗ q=>∃ps:Array Á,h.get? a=some {cls:=.none,data:=.fields ps}/\TriplesOk ps.toList/\∀pos cv,codeAmong pos ps.toList=some cv->∃c,cv=.ref c/\H c=some (.F9 q)
 | .F9 q=>h.CodeRec (.ref a) q
 | .met f x=>h.get? a=some (rC (.ref f) (.ref x))
 | .ext φ=>φ h/\(∃o,h.get? a=some o)/\∀h1 h2:Ë,φ h1->(∀o,h1.get? a=some o->h2.get? a=some o)->φ h2
def dg(H:Hp)(h:Ë):Prop:=∀a o,H a=some o->Ϣ P w H h a o
end
section
variable{P:Ù}{w:Ô}{H H':Hp}{h h':Ë}{a:À}{o:HO}
theorem Ϣ.lt(x:Ϣ P w H h a o):a<h.objs.size:=by
 cases o with
 |lst xs=>obtain⟨_,_,_,_,e⟩:=x;exact í e
 |tup xs=>obtain⟨_,_,_,p⟩:=x;exact p.lt
 |dK ia=>obtain⟨_,_,_,_,o,_,_,e,_⟩:=x;exact í e
 |dT ia=>obtain⟨_,_,_,_,o,_,_,e,_⟩:=x;exact í e
 |set S n=>obtain⟨o,_,_,_,e,_⟩:=x;exact í e
 |ins C dx fs=>obtain⟨_,_,_,e,_⟩:=x;exact í e
 |own y=>obtain⟨_,e⟩:=x;exact í e
 |xd fs=>obtain⟨_,⟨_,_,_,e,_⟩,_⟩:=x;exact í e
 |rng lo hi=>obtain⟨_,_,_,e⟩:=x;exact í e
 |ba ob u=>obtain⟨e,_⟩:=x;exact í e
 |Ϗ q=>obtain⟨_,e,_⟩:=x;exact í e
 |F9 q=>obtain⟨c,o,_,_,z,e,_⟩:=x;cases z;exact í e
 |met f y=>exact í (show h.get? a=some _ from x)
 |ext φ=>obtain⟨_,⟨_,e⟩,_⟩:=x;exact í e
theorem Paired.JB{α β:Type}{F G:α->β->Prop}:∀{l₁:List α} {l₂:List β},Paired F l₁ l₂->(∀a b,F a b->G a b)->Paired G l₁ l₂
 |_,_,.nil,_=>.nil
 |_,_,.cons r t,f=>.cons (f _ _ r) (Paired.JB t f)
def Ϣ.stay(x:Ϣ P w H h a o)(k:∀b u,(b=a\/H b=some (.own a))->h.get? b=some u->h'.get? b=some u)
 (ho:∀b,H b=some (.own a)->H' b=some (.own a))(ht:∀b xs,H b=some (.tup xs)->H' b=some (.tup xs))(hc:∀b q,H b=some (.F9 q)->H' b=some (.F9 q):=by exact λ_ _ z=>z):Ϣ P w H' h' a o:=by
 induction o with
 |lst xs=>obtain⟨z,Ğ,n,r,e⟩:=x;exact⟨z,Ğ,n,r,k _ _ (.inl rfl) e⟩
 |tup xs=>obtain⟨z,Ğ,r,ob,e,c⟩:=x;exact⟨z,Ğ,r,ob,k _ _ (.inl rfl) e,c⟩
 |dK ia=>obtain⟨z,y,vs,r,ob,es,ep,e,c⟩:=x;exact⟨z,y,vs,r,ob,es,ep,k _ _ (.inl rfl) e,c⟩
 |dT ia=>obtain⟨z,y,xs,r,ob,es,ep,e,c⟩:=x;exact⟨z,y,xs,Paired.JB r λp q z=>⟨z.1,ht _ _ z.2.1,z.2.2⟩,ob,es,ep,k _ _ (.inl rfl) e,c⟩
 |set S n=>obtain⟨ob,es,ep,t,e,c⟩:=x;exact⟨ob,es,ep,t,k _ _ (.inl rfl) e,c⟩
 |ins C dx fs=>obtain⟨d,z,ne,e,mA,⟨od,es,ep,e2,c⟩,r⟩:=x;exact⟨ho _ d,z,ne,k _ _ (.inl rfl) e,mA,⟨od,es,ep,k _ _ (.inr d) e2,c⟩,r⟩
 |own y=>obtain⟨ob,e⟩:=x;exact⟨ob,k _ _ (.inl rfl) e⟩
 |xd fs=>obtain⟨mA,⟨od,es,ep,e,c⟩,r⟩:=x;exact⟨mA,⟨od,es,ep,k _ _ (.inl rfl) e,c⟩,r⟩
 |rng lo hi=>obtain⟨t,u,v,e⟩:=x;exact⟨t,u,v,k _ _ (.inl rfl) e⟩
 |ba ob u ih=>obtain⟨e,q⟩:=x;exact⟨k _ _ (.inl rfl) e,ih q⟩
 |Ϗ q=>obtain⟨ps,e,t,r⟩:=x;exact⟨ps,k a _ (.inl rfl) e,t,λpos cv z=>let ⟨c,z1,z2⟩:=r pos cv z;⟨c,z1,hc c q z2⟩⟩
 |F9 q=>obtain⟨c,o,vs,t,z,e,r⟩:=x;cases z;exact⟨a,o,vs,t,rfl,k a _ (.inl rfl) e,r⟩
 |met f y=>have e:h.get? a=some (rC (.ref f) (.ref y)):=x;show h'.get? a=some (rC (.ref f) (.ref y));exact k a _ (.inl rfl) e
 |ext φ=>obtain⟨p,⟨o,e⟩,st⟩:=x;exact⟨st _ _ p λo q=>k _ _ (.inl rfl) q,⟨o,k _ _ (.inl rfl) e⟩,st⟩
theorem dg.lt(x:dg P w H h)(e:H a=some o):a<h.objs.size:=(x a o e).lt
def dg.fresh(x:dg P w H h)(e:h.objs.size<=a):H a=none:=by
 cases q:H a with
 |none=>rfl
 |some u=>exact absurd (ŏ (x.lt q) e) (ϓ _)
def dg.kept(x:dg P w H h)(k:∀b u,h.get? b=some u->h'.get? b=some u):dg P w H h':=λa o e=>
 (x a o e).stay (λb u _ q=>k b u q) (λ_ q=>q) λ_ _ q=>q
def dg.laid(x:dg P w H h)(k:∀b u,h.get? b=some u->h'.get? b=some u)(hp:h.objs.size<=a)(new:Ϣ P w (upd H a o) h' a o):dg P w (upd H a o) h':=λb u e=>by
 have hn:=x.fresh hp;by_cases hb:b=a
 ·subst hb;rw[Ü] at e;cases e;exact new
 ·rw[Ö hb] at e;exact(x b u e).stay (λc v _ q=>k c v q) (λc q=>by rw[Ö (æ q hn)];exact q) (λc xs q=>by rw[Ö (æ q hn)];exact q) λc xs q=>by rw[Ö (æ q hn)];exact q
end
def Rd(H:Hp)(a:À)(u:HO):Prop:=H a=some u\/∃o,H a=some (.ba o u)
def Rd.ok{P:Ù}{w:Ô}{H:Hp}{h:Ë}{a:À}{u:HO}(r:Rd H a u)(x:dg P w H h):Ϣ P w H h a u:=by
 rcases r with r|⟨o,r⟩
 ·exact x a u r
 ·obtain⟨_,q⟩:=x a _ r;exact q
def QB:Option HO->Prop
 |some (.lst _)=>True
 |some (.dK _)=>True
 |some (.dT _)=>True
 |some (.set _ _)=>True
 |some (.ins _ _ _)=>True
 |some (.ext _)=>True
 |some (.xd _)=>True
 |_=>False
section
variable{P:Ù}{w:Ô}{H:Hp}{h h':Ë}{x e:À}{o':HO}
def dg.write(ok:dg P w H h)(mu:QB (H x))(he:e=x\/H e=some (.own x))(k:∀b u,b≠e->h.get? b=some u->h'.get? b=some u)(FO:∃u,h'.get? e=some u)
 (new:Ϣ P w (upd H x o') h' x o'):dg P w (upd H x o') h':=λb u q=>by
 have Nz:∀c y,H c=some (.own y)->c≠x:=λc y r z=>by subst z;rw[r] at mu;exact mu
 have R_:∀c xs,H c=some (.tup xs)->c≠x:=λc xs r z=>by subst z;rw[r] at mu;exact mu
 have R3:∀c q,H c=some (.F9 q)->c≠x:=λc xs r z=>by subst z;rw[r] at mu;exact mu
 by_cases hb:b=x
 ·subst hb;rw[Ü] at q;cases q;exact new
 ·rw[Ö hb] at q;by_cases uw:b=e
  ·have q':H b=some (.own x):=by
    rcases he with z|z
    ·exact absurd (uw.trans z) hb
    ·rw[uw];exact z
   rw[q] at q';cases q';obtain⟨v,hv⟩:=FO;exact⟨v,by rw[uw];exact hv⟩
  ·refine(ok b u q).stay (λc v hc r=>k c v ?_ r) (λc r=>by rw[Ö (Nz c b r)];exact r) (λc xs r=>by rw[Ö (R_ c xs r)];exact r) λc xs r=>by rw[Ö (R3 c xs r)];exact r
   rcases hc with rfl|hc
   ·exact uw
   ·rintro rfl;rcases he with z|z
    ·exact Nz c b hc z
    ·rw[hc] at z;cases z;exact hb rfl
end
structure Un(fs ex:List À)(H H':Hp)(h h':Ë):Prop where
 keep:∀b o,h.get? b=some o->H b=none->b∉fs->b∉ex->h'.get? b=some o
 slot:∀b o,h.get? b=some o->H b=none->b∈fs->b∉ex->∃sl,h'.get? b=some {o with slots:=sl}
 free:∀b o,h.get? b=some o->H b=none->b∉ex->H' b=none
 there:∀b o,h.get? b=some o->b∉ex->∃o',h'.get? b=some o'
 tups:∀b xs,H b=some (.tup xs)->H' b=some (.tup xs)
 eI:∀b o u,H b=some (.ba o u)->H' b=some (.ba o u)
 c_:∀b q,H b=some (.Ϗ q)->H' b=some (.Ϗ q)
section
variable{fs ex:List À}{H H1:Hp}{h h1 h':Ë}{a x e:À}{o:HO}
def Un.any(u:Un fs ex H H1 h h1){b:À}{ob:Obj}(q:h.get? b=some ob)(n:H b=none)(hx:b∉ex):∃sl,h1.get? b=some {ob with slots:=sl}:=by
 by_cases hb:b∈fs
 ·exact u.slot b ob q n hb hx
 ·exact⟨ob.slots,u.keep b ob q n hb hx⟩
def Un.kept(k:∀b u,h.get? b=some u->h'.get? b=some u):Un fs ex H H h h':=
 ⟨λb ob q _ _ _=>k b ob q,λb ob q _ _ _=>⟨ob.slots,k b ob q⟩,λ_ _ _ n _=>n,λb ob q _=>⟨ob,k b ob q⟩,λ_ _ q=>q,λ_ _ _ q=>q,λ_ _ q=>q⟩
def Un.refl:Un fs ex H H h h:=Un.kept λ_ _ q=>q
def Un.laid(k:∀b u,h.get? b=some u->h'.get? b=some u)(hp:h.objs.size<=a)(hn:H a=none):Un fs ex H (upd H a o) h h' where
 keep:=λb u q _ _ _=>k b u q
 slot:=λb u q _ _ _=>⟨u.slots,k b u q⟩
 free:=λb u q n _=>by rw[Ö (Ĥ (ŏ (í q) hp))];exact n
 there:=λb u q _=>⟨u,k b u q⟩
 tups:=λb xs q=>by rw[Ö (æ q hn)];exact q
 eI:=λb u xs q=>by rw[Ö (æ q hn)];exact q
 c_:=λb ps q=>by rw[Ö (æ q hn)];exact q
def Un.write(mu:QB (H x))(he:e=x\/H e=some (.own x))(k:∀b u,b≠e->h.get? b=some u->h'.get? b=some u)(FO:∃u,h'.get? e=some u):Un fs ex H (upd H x o) h h':=by
 have hx:∀b,H b=none->b≠x:=λb n z=>by subst z;rw[n] at mu;exact mu
 have hb:∀b,H b=none->b≠e:=λb n z=>by
  subst z;rcases he with r|r
  ·exact hx b n r
  ·rw[n] at r;cases r
 have hm:∀b u,H b=some u->¬QB (some u)->b≠x:=λb u q nm z=>by subst z;rw[q] at mu;exact nm mu
 refine⟨λb u q n _ _=>k b u (hb b n) q,λb u q n _ _=>⟨u.slots,k b u (hb b n) q⟩,λb u q n _=>by rw[Ö (hx b n)];exact n,λb u q _=>?_,
  λb xs q=>by rw[Ö (hm b _ q λz=>z)];exact q,λb u xs q=>by rw[Ö (hm b _ q λz=>z)];exact q,λb ps q=>by rw[Ö (hm b _ q λz=>z)];exact q⟩
 by_cases uw:b=e
 ·subst uw;exact FO
 ·exact⟨u,k b u uw q⟩
end
def QC(h:Ë)(H:Hp):List À:=(ϑ h.objs.size).filter λa=>(H a).isSome
def oK(h:Ë)(H:Hp):Ë:=bT h (QC h H)
def Aa(h:Ë)(H:Hp):(oK h H).objs.size=h.objs.size:=PySem.W.hideAll_size _ _
def AY{h:Ë}{H:Hp}{b:À}{o:Obj}(e:h.get? b=some o)(n:H b=none):(oK h H).get? b=some o:=
 rD _ e λhm=>by have q:(H b).isSome=true:=(List.mem_filter.mp hm).2;rw[n] at q;simp at q
def Ec{h:Ë}{H:Hp}{b:À}{o:Obj}(e:(oK h H).get? b=some o):h.get? b=some o/\H b=none:=by
 have e':h.get? b=some o:=rE (QC h H) e;refine⟨e',?_⟩;cases q:H b with
 |none=>rfl
 |some x=>have hm:b∈QC h H:=List.mem_filter.mpr ⟨lu.mpr (í e'),by simp[q]⟩;have z:(oK h H).get? b=none:=rG (QC h H) hm;rw[z] at e;cases e
noncomputable def Ed(g h:Ë)(L:À):List (À×Obj):=(ϑ h.objs.size).filterMap λa=>if a=L\/(g.get? a).isSome=true then none else(h.get? a).map λo=>(a,o)
def rest(g h:Ë)(L d:À):List (À×Obj):=(Ed g h L).filter λp=>decide (p.1≠d)
structure Mod(K:Æ)(mg:Str->Option Á)(base:Ë):Prop where
 AT:K.In base
 glob:base.Ns Ź mg
 blt:∃mb,base.Ns builtinsNs mb/\∀x:Str,x≠ "__name__" ->mb x=cB x
 nolimit:base.NoLimit
def bp:List Str:=[]
abbrev rZ(x:Str):Str:=(x ++ ".<locals>.") ++ "<lambda>"
def ut(K:Æ)(mg:Str->Option Á)(base:Ë)(H:Hp):Prop:=∀x c P,x∈bp->ϴ K x=some (c,P)->rH base c P/\H P=some (.Ϗ (rZ x))/\base.BuiltinsAt mg P
structure Cx where
 prog:Ù
 w:Ô
 K:Æ
 mg:Str->Option Á
 base:Ë
 A:Ú
 N:List Str
 s₀:Â
 H₀:Hp
 env:Env
 outer:List Env
 stack:List Env
 ex:List À
 fn:Str->Bool
 calm:Bool
 pn:List (À×Obj)
 xe:Á->Â->Prop
def fA(l:List Env):List À:=l.filterMap (·.frame)
abbrev Cx.fs(X:Cx):List À:=fA X.outer
def AU(sc:ë)(x:Str):Prop:=sc.names.lookup x=some .local\/sc.names.lookup x=some .cell\/sc.names.lookup x=some .free
def Loc(sc:ë)(x:Str):Prop:=sc.names.lookup x=some .local\/sc.names.lookup x=some .cell
def Look(env:Env)(h:Ë)(m:Str->Option Á)(x:Str)(u:Á):Prop:=
 (env.kindOf x=some .local/\m x=some u)\/((env.kindOf x=some .cell\/env.kindOf x=some .free)/\∃c,env.cells.lookup x=some c/\h.IsCell c (some u))
structure Cx.Ok(X:Cx):Prop where
 mod:Mod X.K X.mg X.base
 kind:X.env.scope.kind=.function
 glob:X.env.globals=Ź
 blt:X.env.builtins=builtinsNs
 above:X.s₀.heap.objs.size<=X.env.locals
 inj:∀x y c,X.env.cells.lookup x=some c->X.env.cells.lookup y=some c->x=y
 has:∀x,(X.env.kindOf x=some .cell\/X.env.kindOf x=some .free)->∃c,X.env.cells.lookup x=some c
 cab:∀x c,X.fn x=true->X.env.cells.lookup x=some c->X.s₀.heap.objs.size<=c
 hd:X.calm=true->X.A.handled=none
 frames:X.A.frames=some X.stack
 stk:X.stack=X.outer\/(X.stack=X.env::X.outer/\X.env.frame=some X.env.locals)
 Nh:∀b∈X.ex,b≠X.env.locals/\∀x c,X.env.cells.lookup x=some c->c≠b
 bs:∀b o,X.base.get? b=some o->X.s₀.heap.get? b=some o/\X.H₀ b=none
 yJ:X.base.objs.size<=X.s₀.heap.objs.size
 r_:∀b o,X.base.get? b=some o->b∉X.ex
 uy:∀b∈X.ex,b∉X.fs
 fE:X.s₀.heap.FunFrames X.base X.outer
 AV:∀b∈X.fs,X.H₀ b=none
 tb:ut X.K X.mg X.base X.H₀
structure Inv(X:Cx)(Ã:List (À×Obj))(Z:List (Option V))(H:Hp)(s:Â):Prop where
 ok:X.Ok
 os:s.os=X.s₀.os
 bare:aO s.gens
 base:Un X.fs X.ex X.H₀ H X.s₀.heap s.heap
 loc:∃m,s.heap.Ns X.env.locals m/\∀(i:Nat) (x:Str) (v:V),X.N[i]?=some x->Z[i]?=some (some v)->AU X.env.scope x->∃u,RelV v u/\Look X.env s.heap m x u
 cell:∀x c,X.env.cells.lookup x=some c->∃v,s.heap.IsCell c v
 free:H X.env.locals=none
 ca:∀x c,X.env.cells.lookup x=some c->H c=none
 pin:∀p∈X.pn++Ã,s.heap.get? p.1=some p.2/\H p.1=none/\p.1≠X.env.locals/\p.1∉X.fs/\∀v,p.2.data≠ .cell v
 hok:dg X.prog X.w H s.heap
 len:Z.length=X.N.length
section
variable{X:Cx}{Ã:List (À×Obj)}{Z:List (Option V)}{H H':Hp}{s:Â}{h':Ë}
def Cx.Ok.R4(ok:X.Ok){b:À}{o:Obj}(e:X.base.get? b=some o):b∉X.fs:=λhb=>by have:=(ok.fE.mem hb).1;rw[e] at this;cases this
theorem Inv.bs(I:Inv X Ã Z H s):∀b o,X.base.get? b=some o->s.heap.get? b=some o/\H b=none:=λb o e=>
 ⟨I.base.keep b o (I.ok.bs b o e).1 (I.ok.bs b o e).2 (I.ok.R4 e) (I.ok.r_ b o e),I.base.free b o (I.ok.bs b o e).1 (I.ok.bs b o e).2 (I.ok.r_ b o e)⟩
def Inv.bk(I:Inv X Ã Z H s):∀b o,X.base.get? b=some o->s.heap.get? b=some o:=λb o e=>(I.bs b o e).1
theorem Inv.tb(I:Inv X Ã Z H s):ut X.K X.mg X.base H:=λx c P hx e=>⟨(I.ok.tb x c P hx e).1,I.base.c_ _ _ (I.ok.tb x c P hx e).2.1,(I.ok.tb x c P hx e).2.2⟩
theorem Inv.mod(I:Inv X Ã Z H s):Mod X.K X.mg X.base:=I.ok.mod
def Inv.fv(I:Inv X Ã Z H s):X.K.In s.heap:=I.ok.mod.AT.keeps I.bk
theorem Inv.lt(I:Inv X Ã Z H s):X.env.locals<s.heap.objs.size:=let ⟨_,hn,_⟩:=I.loc;hn.lt
def Inv.sz(I:Inv X Ã Z H s):X.s₀.heap.objs.size<=s.heap.objs.size:=Ő I.ok.above (iH I.lt)
def Inv.R5(I:Inv X Ã Z H s){a:À}(h:s.heap.objs.size<=a):a∉X.fs:=λhb=>by obtain⟨_,o,ho,_⟩:=I.ok.fE.mem hb;exact absurd (ŏ (í ho) (Ő I.sz h)) (ϓ _)
def Inv.JC(I:Inv X Ã Z H s):∀x c,X.env.cells.lookup x=some c->c≠X.env.locals:=λx c e z=>by obtain⟨v,o,ho,hd⟩:=I.cell x c e;obtain⟨m,⟨o',es,ep,xN,P9,_⟩,_⟩:=I.loc;rw[z,xN] at ho;cases ho;rw[P9] at hd;cases hd
theorem Inv.fE(I:Inv X Ã Z H s):s.heap.FunFrames X.base X.outer:=by
 have all:∀(l:List Env),(∀b∈fA l,b∈X.fs)->X.s₀.heap.FunFrames X.base l->s.heap.FunFrames X.base l:=by
  intro l
  induction l with
  |nil=>intro _ _;trivial
  |cons env r ih=>intro hs hl;obtain⟨hk,⟨L,o,hf,hn,ho,hd⟩,hr⟩:=hl;have hL:L∈X.fs:=hs L (by unfold fA;rw[qw,hf];exact ŧ);obtain⟨sl,e⟩:=I.base.slot L o ho (I.ok.AV L hL) hL λz=>I.ok.uy L z hL;exact⟨hk,⟨L,_,hf,hn,e,hd⟩,ih (λb hb=>hs b (by unfold fA;rw[qw,hf];exact ù _ hb)) hr⟩
 exact all X.outer (λ_ hb=>hb) I.ok.fE
theorem Inv.stack(I:Inv X Ã Z H s):s.heap.FunFrames X.base X.stack:=by
 rcases I.ok.stk with e|⟨e,hf⟩
 ·rw[e];exact I.fE
 ·rw[e];obtain⟨m,hn,_⟩:=I.loc;refine .cons (by rw[I.ok.kind];decide) hf hn ?_ I.fE;exact rk (Ő I.ok.yJ I.ok.above)
def Inv.mq(I:Inv X Ã Z H s):∀b∈fA X.stack,b∈X.env.locals::X.fs:=λb hb=>by
 rcases I.ok.stk with e|⟨e,hf⟩
 ·rw[e] at hb;exact ù _ hb
 ·rw[e] at hb;unfold fA at hb;rw[qw,hf] at hb;exact hb
def Inv.lQ(I:Inv X Ã Z H s):∀b∈fA X.stack,H b=none:=λb hb=>by
 rcases ė.mp (I.mq b hb) with e|hb
 ·rw[e];exact I.free
 ·obtain⟨_,o,ho,_⟩:=I.ok.fE.mem hb;exact I.base.free b o ho (I.ok.AV b hb) λz=>I.ok.uy b z hb
def Inv.step{g':Array GenState}{t':Nat}{d':Drawn}{ch:List À}(I:Inv X Ã Z H s)
 (AX:∀b∈ch,(b∈X.ex\/X.s₀.heap.objs.size<=b)/\b≠X.env.locals/\(∀x c,X.env.cells.lookup x=some c->c≠b)/\∀p∈X.pn++Ã,p.1≠b)
 (keep:∀b o,b≠X.env.locals->b∉X.fs->b∉ch->s.heap.get? b=some o->H b=none->h'.get? b=some o)
 (slot:∀b o,b≠X.env.locals->b∈X.fs->b∉ch->s.heap.get? b=some o->H b=none->∃sl,h'.get? b=some {o with slots:=sl})(free:∀b o,b∉ch->s.heap.get? b=some o->H b=none->H' b=none)
 (there:∀b o,b∉ch->s.heap.get? b=some o->∃o',h'.get? b=some o')
 (tups:∀b xs,H b=some (.tup xs)->H' b=some (.tup xs))(eI:∀b o u,H b=some (.ba o u)->H' b=some (.ba o u))(c_:∀b q,H b=some (.Ϗ q)->H' b=some (.Ϗ q))
 (ns:∀m,s.heap.Ns X.env.locals m->h'.Ns X.env.locals m)(hok:dg X.prog X.w H' h')(hg:aO g') :
 Inv X Ã Z H' {s with heap:=h',gens:=g',drawn:=d',toks:=t'}:=by
 have Ga:∀b o,X.s₀.heap.get? b=some o->b≠X.env.locals:=λb o e=>Ĥ (ŏ (í e) I.ok.above);have QD:∀b o,X.s₀.heap.get? b=some o->b∉X.ex->b∉ch:=λb o e hx hb=>by
  rcases(AX b hb).1 with z|z
  ·exact hx z
  ·exact absurd (ŏ (í e) z) (ϓ _)
 have Jo:∀x c,X.env.cells.lookup x=some c->∀v,s.heap.IsCell c v->h'.IsCell c v:=λx c e v ⟨o,ho,hd⟩=>by
  have NA:c∉ch:=λz=>(AX c z).2.2.1 x c e rfl;by_cases hc:c∈X.fs
  ·obtain⟨sl,q⟩:=slot c o (I.JC x c e) hc NA ho (I.ca x c e);exact⟨_,q,hd⟩
  ·exact⟨o,keep c o (I.JC x c e) hc NA ho (I.ca x c e),hd⟩
 refine⟨I.ok,I.os,hg,⟨λb o e n hb hx=>?_,λb o e n hb hx=>?_,λb o e n hx=>?_,λb o e hx=>?_,λb xs e=>tups b xs (I.base.tups b xs e),λb o xs e=>eI b o xs (I.base.eI b o xs e),λb ps e=>?_⟩,?_,λx c e=>?_,?_,λx c e=>?_,λp hp=>?_,hok,I.len⟩
 ·exact keep b o (Ga b o e) hb (QD b o e hx) (I.base.keep b o e n hb hx) (I.base.free b o e n hx)
 ·obtain⟨sl,e1⟩:=I.base.slot b o e n hb hx;obtain⟨sl',e2⟩:=slot b _ (Ga b o e) hb (QD b o e hx) e1 (I.base.free b o e n hx);exact⟨sl',e2⟩
 ·obtain⟨o',e1⟩:=I.base.there b o e hx;exact free b o' (QD b o e hx) e1 (I.base.free b o e n hx)
 ·obtain⟨o',e1⟩:=I.base.there b o e hx;exact there b o' (QD b o e hx) e1
 ·exact c_ b ps (I.base.c_ b ps e)
 ·obtain⟨m,hn,hl⟩:=I.loc;refine⟨m,ns m hn,λi x v e1 e2 e3=>?_⟩;obtain⟨u,r,l⟩:=hl i x v e1 e2 e3;refine⟨u,r,?_⟩;rcases l with l|⟨k,c,e,z⟩
  ·exact .inl l
  ·exact .inr ⟨k,c,e,Jo x c e _ z⟩
 ·obtain⟨v,z⟩:=I.cell x c e;exact⟨v,Jo x c e v z⟩
 ·obtain⟨m,⟨o,_,_,ho,_⟩,_⟩:=I.loc;exact free _ o (λz=>(AX _ z).2.1 rfl) ho I.free
 ·obtain⟨v,o,ho,hd⟩:=I.cell x c e;exact free c o (λz=>(AX c z).2.2.1 x c e rfl) ho (I.ca x c e)
 ·obtain⟨e,n,ne,nf,d⟩:=I.pin p hp;have NA:p.1∉ch:=λz=>(AX p.1 z).2.2.2 p hp rfl;exact⟨keep p.1 p.2 ne nf NA e n,free p.1 p.2 NA e n,ne,nf,d⟩
def Inv.un{t':Nat}(I:Inv X Ã Z H s)(u:Un X.fs [] H H' s.heap h')(hok:dg X.prog X.w H' h'):Inv X Ã Z H' {s with heap:=h',toks:=t'}:=by obtain⟨m,⟨o,es,ep,ho,r⟩,_⟩:=id I.loc;obtain⟨sl,hL⟩:=u.any ho I.free (by simp);exact I.step (g':=s.gens) (d':=s.drawn) (ch:=[]) (λ_ z=>nomatch z) (λb o _ hb _ e n=>u.keep b o e n hb (by simp)) (λb o _ hb _ e n=>u.slot b o e n hb (by simp)) (λb o _ e n=>u.free b o e n (by simp)) (λb o _ e=>u.there b o e (by simp)) u.tups u.eI u.c_ (λm' hm=>by obtain⟨o',UK,UL,xN,r'⟩:=hm;rw[ho] at xN;cases xN;exact⟨_,UK,UL,hL,r'⟩) hok I.bare
def Inv.call{g':Array GenState}{t':Nat}{d':Drawn}{ch:List À}(I:Inv X Ã Z H s)(u:Un (fA X.stack) ch H H' s.heap h')(hok:dg X.prog X.w H' h')(hg:aO g')
 (AX:∀b∈ch,(b∈X.ex\/X.s₀.heap.objs.size<=b)/\b≠X.env.locals/\(∀x c,X.env.cells.lookup x=some c->c≠b)/\∀p∈X.pn++Ã,p.1≠b) :
 Inv X Ã Z H' {s with heap:=h',gens:=g',drawn:=d',toks:=t'}:=by
 obtain⟨m,⟨o,es,ep,ho,r⟩,_⟩:=id I.loc;obtain⟨sl,hL⟩:=u.any ho I.free λz=>(AX _ z).2.1 rfl;exact I.step (ch:=ch) AX (λb o hL hb hc e n=>u.keep b o e n (λz=>(ė.mp (I.mq b z)).elim hL hb) hc) (λb o _ _ hc e n=>u.any e n hc) (λb o hc e n=>u.free b o e n hc) (λb o hc e=>u.there b o e hc) u.tups u.eI u.c_ (λm' hm=>by obtain⟨o',UK,UL,xN,r'⟩:=hm;rw[ho] at xN;cases xN;exact⟨_,UK,UL,hL,r'⟩) hok hg
def Inv.turned{t':Nat}{it:À}(I:Inv X Ã Z H s)(k:∀b o,b≠it->s.heap.get? b=some o->h'.get? b=some o)(hn:H it=none)(hL:it≠X.env.locals)
 (h1:it∈X.ex\/X.s₀.heap.objs.size<=it)(h2:∀x c,X.env.cells.lookup x=some c->c≠it)(h3:∀p∈X.pn++Ã,p.1≠it):Inv X Ã Z H {s with heap:=h',toks:=t'}:=by
 have NB:∀b u,H b=some u->b≠it:=λb u e z=>by rw[z,hn] at e;cases e
 refine I.step (g':=s.gens) (d':=s.drawn) (ch:=[it]) (λb hb=>?_) (λb o _ _ hc e _=>k b o (λz=>hc (by simp[z])) e) (λb o _ _ hc e _=>⟨o.slots,k b o (λz=>hc (by simp[z])) e⟩) (λ_ _ _ _ n=>n)
  (λb o hc e=>⟨o,k b o (λz=>hc (by simp[z])) e⟩) (λ_ _ e=>e) (λ_ _ _ e=>e) (λ_ _ e=>e) (λm hm=>?_) (λb u e=>?_) I.bare
 ·have e:b=it:=by simpa using hb
  subst e;exact⟨h1,hL,h2,h3⟩
 ·obtain⟨o,es,ep,ho,r⟩:=hm;exact⟨o,es,ep,k _ o (Ć hL) ho,r⟩
 ·refine(I.hok b u e).stay (λc v hc q=>k c v ?_ q) (λ_ q=>q) λ_ _ q=>q;rcases hc with z|z
  ·rw[z];exact NB b u e
  ·exact NB c _ z
def Inv.tok(I:Inv X Ã Z H s)(t:Nat):Inv X Ã Z H {s with toks:=t}:=I.un (h':=s.heap) (t':=t) Un.refl I.hok
theorem Inv.kept{t':Nat}(I:Inv X Ã Z H s)(k:∀b u,s.heap.get? b=some u->h'.get? b=some u):Inv X Ã Z H {s with heap:=h',toks:=t'}:=I.un (Un.kept k) (I.hok.kept k)
theorem Inv.laid{a:À}{o:HO}{t':Nat}(I:Inv X Ã Z H s)(k:∀b u,s.heap.get? b=some u->h'.get? b=some u)(hp:s.heap.objs.size<=a)(new:Ϣ X.prog X.w (upd H a o) h' a o) :
 Inv X Ã Z (upd H a o) {s with heap:=h',toks:=t'}:=I.un (Un.laid k hp (I.hok.fresh hp)) (I.hok.laid k hp new)
theorem Inv.write{x e:À}{o:HO}{t':Nat}(I:Inv X Ã Z H s)(mu:QB (H x))(he:e=x\/H e=some (.own x))(k:∀b u,b≠e->s.heap.get? b=some u->h'.get? b=some u)(FO:∃u,h'.get? e=some u)
 (new:Ϣ X.prog X.w (upd H x o) h' x o):Inv X Ã Z (upd H x o) {s with heap:=h',toks:=t'}:=I.un (Un.write mu he k FO) (I.hok.write mu he k FO new)
def Inv.yK{mx:List (À×Obj)}(I:Inv X Ã Z H s)(h:∀p∈mx,s.heap.get? p.1=some p.2/\H p.1=none/\p.1≠X.env.locals/\p.1∉X.fs/\∀v,p.2.data≠ .cell v):Inv X mx Z H s:=
 ⟨I.ok,I.os,I.bare,I.base,I.loc,I.cell,I.free,I.ca,λp hp=>(ah.mp hp).elim (λz=>I.pin p (iB _ z)) (h p),I.hok,I.len⟩
def uz{N:List Str}(hN:N.Nodup){i j:Nat}{x:Str}(a:N[i]?=some x)(b:N[j]?=some x):i=j:=by obtain⟨h1,e1⟩:=gi.mp a;obtain⟨h2,e2⟩:=gi.mp b;exact(List.getElem_inj hN).mp (e1.trans e2.symm)
def pA{M:ϔ}{A:Ú}{E:Á->Â->Prop}{i:Nat}{x:Str}{v:V}{u:Á}{Q:Unit->Â->Prop}(I:Inv X Ã Z H s)(hN:X.N.Nodup)(hi:X.N[i]?=some x)(hx:Loc X.env.scope x)(r:RelV v u)
 (h:∀s',Inv X Ã (Z.set i (some v)) H s'->(∃a,am a s.heap s'.heap/\(a=X.env.locals\/X.env.cells.lookup x=some a))->Q () s')(hf:X.fn x=true\/X.env.scope.names.lookup x=some .local:=by first|exact .inl rfl|exact .inr rfl|assumption):Ç M A (storeName X.env x u) Q E s:=by
 obtain⟨m,hn,hl⟩:=id I.loc;have UM:(X.env.scope.kind== .class || (X.env.scope.kind== .module && X.env.locals != X.env.globals))=false:=by rw[I.ok.kind];rfl
 have Vw:i < Z.length:=by rw[I.len];exact(gi.mp hi).1
 have JC:=I.JC;have zT:∀{a:À} {h':Ë},(∃o,s.heap.get? a=some o/\H a=none)->am a s.heap h'->dg X.prog X.w H h':=fun{a h'} ha hs b ob e=>by
  obtain⟨_,_,hfree⟩:=ha;refine(I.hok b ob e).stay (λc w' hc q=>(hs.2 c ?_).trans q) (λ_ q=>q) λ_ _ q=>q;rintro rfl;rcases hc with rfl|hc
  ·rw[hfree] at e;cases e
  ·rw[hfree] at hc;cases hc
 rcases hx with hk|hk
 ·refine wpAny_storeName_local hk hn (λh' RN hs=>?_) UM;obtain⟨oL,_,_,hoL,_⟩:=id hn;refine h _ ⟨I.ok,I.os,I.bare,⟨λb o e n hb hx=>?_,λb o e n hb hx=>?_,I.base.free,λb o e hx=>?_,I.base.tups,I.base.eI,I.base.c_⟩,⟨_,RN,λj y v' e1 e2 e3=>?_⟩,λy c e=>?_,I.free,I.ca,λp hp=>?_,zT ⟨oL,hoL,I.free⟩ hs,by simpa using I.len⟩ ⟨_,hs,.inl rfl⟩
  ·exact(hs.2 b (Ĥ (ŏ (í e) I.ok.above))).trans (I.base.keep b o e n hb hx)
  ·obtain⟨sl,e1⟩:=I.base.slot b o e n hb hx;exact⟨sl,(hs.2 b (Ĥ (ŏ (í e) I.ok.above))).trans e1⟩
  ·obtain⟨o',e1⟩:=I.base.there b o e hx;exact⟨o',(hs.2 b (Ĥ (ŏ (í e) I.ok.above))).trans e1⟩
  ·by_cases hj:j=i
   ·subst hj;rw[hi] at e1;cases e1;rw[iE Vw] at e2;cases e2;exact⟨u,r,.inl ⟨hk,by simp⟩⟩
   ·rw[dN (Ć hj)] at e2;obtain⟨u',r',q⟩:=hl j y v' e1 e2 e3;refine⟨u',r',?_⟩;rcases q with⟨k,e⟩|⟨k,c,e,z⟩
    ·refine .inl ⟨k,?_⟩;have:y≠x:=λe=>hj (uz hN e1 (e▸hi));simp[this,e]
    ·exact .inr ⟨k,c,e,z.sameBut hs (JC y c e)⟩
  ·obtain⟨w',z⟩:=I.cell y c e;exact⟨w',z.sameBut hs (JC y c e)⟩
  ·obtain⟨e,n,ne,nf,d⟩:=I.pin p hp;exact⟨(hs.2 p.1 ne).trans e,n,ne,nf,d⟩
 ·have UN:X.fn x=true:=by
   rcases hf with z|z
   ·exact z
   ·rw[z] at hk;cases hk
  obtain⟨c,hc⟩:=I.ok.has x (.inl hk);obtain⟨w',z⟩:=I.cell x c hc;refine wpAny_storeName_cell I.ok.kind hk hc z (λh' UO hs=>?_);obtain⟨oc,W1,R6⟩:=id z;refine h {s with heap:=h'} ⟨I.ok,I.os,I.bare,⟨λb o e n hb hx=>?_,λb o e n hb hx=>?_,I.base.free,λb o e hx=>?_,I.base.tups,I.base.eI,I.base.c_⟩,⟨m,hn.sameBut hs (Ć (JC x c hc)),λj y v' e1 e2 e3=>?_⟩,λy c' e=>?_,I.free,I.ca,λp hp=>?_,zT ⟨oc,W1,I.ca x c hc⟩ hs,by simpa using I.len⟩ ⟨c,hs,.inr hc⟩
  ·exact(hs.2 b (Ĥ (ŏ (í e) (I.ok.cab x c UN hc)))).trans (I.base.keep b o e n hb hx)
  ·obtain⟨sl,e1⟩:=I.base.slot b o e n hb hx;exact⟨sl,(hs.2 b (Ĥ (ŏ (í e) (I.ok.cab x c UN hc)))).trans e1⟩
  ·obtain⟨o',e1⟩:=I.base.there b o e hx;exact⟨o',(hs.2 b (Ĥ (ŏ (í e) (I.ok.cab x c UN hc)))).trans e1⟩
  ·by_cases hj:j=i
   ·subst hj;rw[hi] at e1;cases e1;rw[iE Vw] at e2;cases e2;exact⟨u,r,.inr ⟨.inl hk,c,hc,UO⟩⟩
   ·rw[dN (Ć hj)] at e2;obtain⟨u',r',q⟩:=hl j y v' e1 e2 e3;refine⟨u',r',?_⟩;rcases q with q|⟨k,c',e,z'⟩
    ·exact .inl q
    ·refine .inr ⟨k,c',e,z'.sameBut hs ?_⟩;rintro rfl;exact hj (uz hN e1 (I.ok.inj _ _ _ e hc▸hi))
  ·by_cases W2:c'=c
   ·subst W2;exact⟨_,UO⟩
   ·obtain⟨w2,z2⟩:=I.cell y c' e;exact⟨w2,z2.sameBut hs W2⟩
  ·obtain⟨e,n,ne,nf,d⟩:=I.pin p hp;refine⟨(hs.2 p.1 ?_).trans e,n,ne,nf,d⟩;intro q;rw[q,W1] at e;have q':oc=p.2:=Ŋ e;exact d w' (by rw[<-q'];exact R6)
def uA{M:ϔ}{A:Ú}{E:Á->Â->Prop}{i:Nat}{x:Str}{v:V}{u:Á}{Q:Unit->Â->Prop}(I:Inv X Ã Z H s)(hN:X.N.Nodup)(hi:X.N[i]?=some x)(hx:Loc X.env.scope x)(r:RelV v u)
 (h:∀s',Inv X Ã (Z.set i (some v)) H s'->Q () s')(hf:X.fn x=true\/X.env.scope.names.lookup x=some .local:=by first|exact .inl rfl|exact .inr rfl|assumption):Ç M A (storeName X.env x u) Q E s:=
 pA I hN hi hx r (λs' I' _=>h s' I') hf
def Inv.call'{s':Â}{ch:List À}(I:Inv X Ã Z H s)(ho:s'.os=s.os)(u:Un (fA X.stack) ch H H' s.heap s'.heap)(hok:dg X.prog X.w H' s'.heap)(hg:aO s'.gens)
 (AX:∀b∈ch,(b∈X.ex\/X.s₀.heap.objs.size<=b)/\b≠X.env.locals/\(∀x c,X.env.cells.lookup x=some c->c≠b)/\∀p∈X.pn++Ã,p.1≠b):Inv X Ã Z H' s':=by
 obtain⟨h',g',d',t',o'⟩:=s';have e:o'=s.os:=ho;subst e;exact I.call (g':=g') (t':=t') (d':=d') u hok hg AX
end
abbrev XK:=Á->Option À->Hp->Prop
abbrev St:=List (Option V)
abbrev ð:= St
abbrev VK:=V->Hp->Prop
abbrev TE:=St->Hp->VK->Prop
abbrev TT:=St->Hp->(Bool->Hp->Prop)->Prop
abbrev TA:=St->Hp->(List V->Hp->Prop)->Prop
structure Ends where
 nx:St->Hp->Prop
 rt:VK
 bk:St->Hp->Prop:=λ_ _=>False
 ct:St->Hp->Prop:=λ_ _=>False
abbrev TS:=Ends->St->Hp->Prop
def EP(X:Cx)(Ã:List (À×Obj))(Z:St)(Q:VK)(u:Á)(s':Â):Prop:=∃v H',Inv X Ã Z H' s'/\RelV v u/\Q v H'
def TP(X:Cx)(Ã:List (À×Obj))(Z:St)(Q:Bool->Hp->Prop)(b:Bool)(s':Â):Prop:=∃H',Inv X Ã Z H' s'/\Q b H'
def AP(X:Cx)(Ã:List (À×Obj))(Z:St)(Q:List V->Hp->Prop)(us:List Á)(s':Â):Prop:=∃vs H',Inv X Ã Z H' s'/\ġ vs us/\Q vs H'
def SP(X:Cx)(Ã:List (À×Obj))(D:Ends)(f:Flow)(s':Â):Prop:=
 match f with
 | .next=>∃Z' H',Inv X Ã Z' H' s'/\D.nx Z' H'
 | .brk=>∃Z' H',Inv X Ã Z' H' s'/\D.bk Z' H'
 | .cont=>∃Z' H',Inv X Ã Z' H' s'/\D.ct Z' H'
 | .ret u=>∃v Z' H',Inv X Ã Z' H' s'/\RelV v u/\D.rt v H'
def PE(X:Cx)(e:Å)(t:TE):Prop:=
 ∀(Ã:List (À×Obj)) (s:Â) (Z:St) (H:Hp) (Q:VK),Inv X Ã Z H s->t Z H Q->Ç (É X.prog X.w) X.A (eval e X.env) (EP X Ã Z Q) X.xe s
def PT(X:Cx)(e:Å)(t:TT):Prop:=
 ∀(Ã:List (À×Obj)) (s:Â) (Z:St) (H:Hp) (Q:Bool->Hp->Prop),Inv X Ã Z H s->t Z H Q->Ç (É X.prog X.w) X.A (isTrue e X.env (eval e X.env)) (TP X Ã Z Q) X.xe s
def PW(X:Cx)(e:Å)(t:TT):Prop:=
 ∀(whole:Sem Á) (Ã:List (À×Obj)) (s:Â) (Z:St) (H:Hp) (Q:Bool->Hp->Prop),Inv X Ã Z H s->t Z H Q->Ç (É X.prog X.w) X.A (isTrue e X.env whole) (TP X Ã Z Q) X.xe s
def PW.pt{X:Cx}{e:Å}{t:TT}(h:PW X e t):PT X e t:=h _
def PA(X:Cx)(es:List Å)(t:TA):Prop:=
 ∀(pos:Pos) (Ã:List (À×Obj)) (s:Â) (Z:St) (H:Hp) (Q:List V->Hp->Prop),Inv X Ã Z H s->t Z H Q->Ç (É X.prog X.w) X.A (spliced (ñ pos (È es X.env))) (AP X Ã Z Q) X.xe s
def PS(X:Cx)(st:Ï)(t:TS):Prop:=
 ∀(Ã:List (À×Obj)) (s:Â) (Z:St) (H:Hp) (D:Ends),Inv X Ã Z H s->t D Z H->Ç (É X.prog X.w) X.A (exec st X.env) (SP X Ã D) X.xe s
def Ϡ(X:Cx)(st:List Ï)(t:TS):Prop:=
 ∀(Ã:List (À×Obj)) (s:Â) (Z:St) (H:Hp) (D:Ends),Inv X Ã Z H s->t D Z H->Ç (É X.prog X.w) X.A (execs st X.env) (SP X Ã D) X.xe s
def ň{α:Type}{t:Sem α}{Q Q':α->Â->Prop}{M:ϔ}{A:Ú}{E:Á->Â->Prop}{s:Â}(h:Ç M A t Q E s)(hQ:∀a s,Q a s->Q' a s):Ç M A t Q' E s:=ı h hQ λ_ _ x=>x
section
variable{X:Cx}
def bc(i:Nat):TE:=λZ H Q=>∃v,Z[i]?=some (some v)/\Q v H
def tC(v:V):TE:=λ_ H Q=>Q v H
def fF{i:Nat}{x:Str}{pos:Pos}(hN:X.N[i]?=some x)(hv:AU X.env.scope x)(hd:(x== ("__debug__" :Str))=false:=by decide)(cZ:(x== ("__classdict__" :Str))=false:=by decide):PE X (.Name x pos) (bc i):=by
 intro Ã s Z H Q I h;obtain⟨v,e,h⟩:=h;obtain⟨m,hn,hl⟩:=I.loc;obtain⟨u,r,l⟩:=hl i x v hN e hv;have gR:EP X Ã Z Q u s:=⟨v,H,I,r,h⟩;rcases l with⟨hk,hm⟩|⟨hk,c,hc,hcell⟩
 ·exact wpAny_Name (wpAny_loadName_local I.ok.kind hk hn hm gR) hd
 ·rcases hk with hk|hk
  ·exact wpAny_Name (wpAny_loadName_cell I.ok.kind hk hc hcell gR) hd
  ·exact wpAny_Name (wpAny_loadName_free I.ok.kind hk hc hcell gR cZ) hd
def se{i j pos}:PE X (.Constant (.int i) j pos) (tC (.int i)):=λ_ _ _ H _ I h=>wpAny_Constant_int ⟨.int i,H,I.tok _,⟨_,rfl⟩,h⟩
def NC{b j pos}:PE X (.Constant (.bool b) j pos) (tC (.bl b)):=λ_ _ _ H _ I h=>Constant_bool ⟨.bl b,H,I,rfl,h⟩
def JD{j pos}:PE X (.Constant .none j pos) (tC .non):=λ_ _ _ H _ I h=>Constant_none ⟨.non,H,I,rfl,h⟩
def JE{x j pos}:PE X (.Constant (.str x) j pos) (tC (.str x)):=λ_ _ _ H _ I h=>qW ⟨.str x,H,I.tok _,⟨_,rfl⟩,h⟩
def Gl(X:Cx)(x:Str):Prop:=X.env.kindOf x=some .globalImplicit
def aW{E:Á->Â->Prop}{Ã:List (À×Obj)}{s:Â}{Z:St}{H:Hp}{x:Str}{u:Á}{pos:Pos}{Q:Á->Â->Prop}(I:Inv X Ã Z H s)(hg:Gl X x)(hm:X.mg x=some u)(h:Q u s)
 (hd:(x== ("__debug__" :Str))=false:=by decide):Ç (É X.prog X.w) X.A (eval (.Name x pos) X.env) Q E s:=
 yn I.ok.kind hg (Calls.loadGlobal_global (by rw[I.ok.glob];exact I.mod.glob.keeps I.bk) hm h) hd
def sf{E:Á->Â->Prop}{Ã:List (À×Obj)}{s:Â}{Z:St}{H:Hp}{x:Str}{u:Á}{pos:Pos}{Q:Á->Â->Prop}(I:Inv X Ã Z H s)(hg:Gl X x)(hm:X.mg x=none)(hv:cB x=some u)(h:Q u s)
 (hn:x≠ "__name__" := by decide)(hd:(x== ("__debug__" :Str))=false:=by decide):Ç (É X.prog X.w) X.A (eval (.Name x pos) X.env) Q E s:=by
 obtain⟨mb,h1,h2⟩:=I.mod.blt;exact yn I.ok.kind hg (Calls.loadGlobal_builtin (by rw[I.ok.glob];exact I.mod.glob.keeps I.bk) hm (by rw[I.ok.blt];exact h1.keeps I.bk) ((h2 x hn).trans hv) h) hd
def ł{x:Str}{v:V}{u:Á}{pos:Pos}(hg:Gl X x)(hm:X.mg x=some u)(r:RelV v u)(hd:(x== ("__debug__" :Str))=false:=by decide):PE X (.Name x pos) (tC v):=
 λ_ _ _ H _ I h=>aW I hg hm ⟨v,H,I,r,h⟩ hd
variable{a b:Å}{ta tb:TE}{pos:Pos}
variable{tA QE:TT}{rest:List Å}
def R7(t u:TT):TT:=λZ H Q=>t Z H λc H1=>if c=true then u Z H1 Q else Q false H1
def Xt(t u:TT):TT:=λZ H Q=>t Z H λc H1=>if c=true then Q true H1 else u Z H1 Q
def R8(t:TT):TT:=λZ H Q=>t Z H λc H1=>Q (!c) H1
def Ee(ha:PT X a tA):PW X (.BoolOp .And [a] pos) tA:=by
 intro wh Ã s Z H Q I h;refine isTrue_and (ň (ha Ã s Z H Q I h) λc s1 e=>?_);cases c with
 |true=>exact isTrue_and_nil e
 |false=>exact e
def JF(ha:PT X a tA):PW X (.BoolOp .Or [a] pos) tA:=by
 intro wh Ã s Z H Q I h;refine isTrue_or (ň (ha Ã s Z H Q I h) λc s1 e=>?_);cases c with
 |false=>exact isTrue_or_nil e
 |true=>exact e
def JG(ha:PT X a tA)(hb:PW X (.BoolOp .And (b::rest) pos) QE):PW X (.BoolOp .And (a::b::rest) pos) (R7 tA QE):=by
 intro wh Ã s Z H Q I h;refine isTrue_and (ň (ha Ã s Z H _ I h) λc s1 ⟨H1,I1,q1⟩=>?_);cases c with
 |true=>exact hb wh Ã s1 Z H1 Q I1 q1
 |false=>exact⟨H1,I1,q1⟩
def ND(ha:PT X a tA)(hb:PW X (.BoolOp .Or (b::rest) pos) QE):PW X (.BoolOp .Or (a::b::rest) pos) (Xt tA QE):=by
 intro wh Ã s Z H Q I h;refine isTrue_or (ň (ha Ã s Z H _ I h) λc s1 ⟨H1,I1,q1⟩=>?_);cases c with
 |true=>exact⟨H1,I1,q1⟩
 |false=>exact hb wh Ã s1 Z H1 Q I1 q1
def AZ(ha:PT X a tA):PT X (.UnaryOp .Not a pos) (R8 tA):=by intro Ã s Z H Q I h;exact isTrue_not (ha Ã s Z H (λc H1=>Q (!c) H1) I h)
def JH{op}{t:TE}(h:PE X a t):PE X (.BoolOp op [a] pos) t:=λÃ s Z H Q I hw=>BoolOp_one (h Ã s Z H Q I hw)
def Xu(t:TT)(ta tb:TE):TE:=λZ H Q=>t Z H λc H1=>if c=true then ta Z H1 Q else tb Z H1 Q
def A_{c:Å}(hc:PT X c tA)(ha:PE X a ta)(hb:PE X b tb):PE X (.IfExp c a b pos) (Xu tA ta tb):=by
 intro Ã s Z H Q I h;refine wpAny_IfExp (ň (hc Ã s Z H _ I h) λd s1 ⟨H1,I1,q1⟩=>?_);cases d with
 |true=>exact ha Ã s1 Z H1 Q I1 q1
 |false=>exact hb Ã s1 Z H1 Q I1 q1
end
def ϐ(K:Æ)(H:Hp)(a:À)(xs:List V):Prop:=
 Rd H a (.lst xs)\/
  ∃(o:Obj) (Ğ:Array Á) (n:Nat),K.lookup a=some o/\o.cls=.type "list" /\o.dict=none/\o.data=.seq Ğ n/\Ğ.size<=sizeLine/\ġ xs Ğ.toList
def dJ(K:Æ)(H:Hp)(a:À)(xs:List V):Prop:=
 Rd H a (.tup xs)\/
  ∃(o:Obj) (Ğ:Array Á) (n:Nat),K.lookup a=some o/\o.cls=.type "tuple" /\o.data=.seq Ğ n/\Ğ.size<=sizeLine/\ġ xs Ğ.toList
noncomputable def R9:Á->Option V
 | .none=>some .non
 | .bool b=>some (.bl b)
 | .int i _=>some (.int i)
 | .str x _=>some (.str x)
 | .bytes b _=>some (.F8 b)
 | .float b _=>some (.flt b)
 | .ref a=>some (.ref a)
 | .type n=>some (.ty n)
 |_=>none
def RelV.abs{x:V}{u:Á}(r:RelV x u):R9 u=some x:=by
 cases x with
 |non=>cases r;rfl
 |bl _=>cases r;rfl
 |int _=>obtain⟨t,rfl⟩:=r;rfl
 |str _=>obtain⟨t,rfl⟩:=r;rfl
 |F8 _=>obtain⟨t,rfl⟩:=r;rfl
 |flt _=>obtain⟨t,rfl⟩:=r;rfl
 |ref _=>cases r;rfl
 |ty _=>cases r;rfl
def RelV.inj{x y:V}{u:Á}(r:RelV x u)(q:RelV y u):x=y:=Ŋ (r.abs.symm.trans q.abs)
theorem ġ.inj:∀{xs ys:List V} {us:List Á},ġ xs us->ġ ys us->xs=ys
 |_,_,_,.nil,.nil=>rfl
 |_,_,_,.cons r t,.cons r' t'=>by rw[r.inj r',ġ.inj t t']
section
variable{X:Cx}{Ã:List (À×Obj)}{Z:St}{H:Hp}{s:Â}{a:À}{xs ys:List V}
def ϐ.of{K:Æ}(h:H a=some (.lst xs)):ϐ K H a xs:=.inl (.inl h)
def dJ.of{K:Æ}(h:H a=some (.tup xs)):dJ K H a xs:=.inl (.inl h)
def Inv.list(I:Inv X Ã Z H s)(h:ϐ X.K H a xs):∃Ğ:List Á,ġ xs Ğ/\PlainL s.heap a Ğ.toArray/\xs.length<=sizeLine:=by
 rcases h with h|⟨o,Ğ,n,hk,hc,hd,hs,hz,r⟩
 ·obtain⟨z,Ğ,n,r,e⟩:=h.ok I.hok;exact⟨Ğ,r,⟨_,n,e,rfl,rfl,rfl⟩,z⟩
 ·refine⟨Ğ.toList,r,⟨o,n,I.fv a o hk,hc,hd,by simpa using hs⟩,?_⟩;have e:=r.length;simp only[xS] at e;lia
def Inv.tuple(I:Inv X Ã Z H s)(h:dJ X.K H a xs):∃Ğ:List Á,ġ xs Ğ/\IsTup s.heap a Ğ.toArray/\xs.length<=sizeLine:=by
 rcases h with h|⟨o,Ğ,n,hk,hc,hs,hz,r⟩
 ·obtain⟨z,Ğ,r,p⟩:=h.ok I.hok;exact⟨Ğ,r,p,z⟩
 ·refine⟨Ğ.toList,r,⟨o,I.fv a o hk,hc,n,by simpa using hs⟩,?_⟩;have e:=r.length;simp only[xS] at e;lia
def Inv.uB(I:Inv X Ã Z H s)(h:ϐ X.K H a xs)(h':ϐ X.K H a ys):xs=ys:=by
 obtain⟨Ğ,r,⟨o,n,e,_,_,d⟩,_⟩:=I.list h;obtain⟨its',r',⟨o',n',e',_,_,d'⟩,_⟩:=I.list h';rw[e] at e';cases e';rw[d] at d';injection d' with d1 _
 have:Ğ=its':=by simpa using congrArg Array.toList d1
 subst this;exact r.inj r'
def Inv.Ab(I:Inv X Ã Z H s)(h:dJ X.K H a xs)(h':dJ X.K H a ys):xs=ys:=by
 obtain⟨Ğ,r,⟨o,e,_,n,d⟩,_⟩:=I.tuple h;obtain⟨its',r',⟨o',e',_,n',d'⟩,_⟩:=I.tuple h';rw[e] at e';cases e';rw[d] at d';injection d' with d1 _
 have:Ğ=its':=by simpa using congrArg Array.toList d1
 subst this;exact r.inj r'
end
noncomputable abbrev Cx.wish(X:Cx)(E:Á->Â->Prop):Cx:={X with xe:=E}
abbrev Cx.ŗ(X:Cx):Cx:=X.wish λ_ _=>False
theorem Cx.Ok.wish{X:Cx}(ok:X.Ok)(E:Á->Â->Prop):(X.wish E).Ok:=
 ⟨ok.mod,ok.kind,ok.glob,ok.blt,ok.above,ok.inj,ok.has,ok.cab,ok.hd,ok.frames,ok.stk,ok.Nh,ok.bs,ok.yJ,ok.r_,ok.uy,ok.fE,ok.AV,ok.tb⟩
def Cx.Ok.eJ{X:Cx}{E:Á->Â->Prop}(ok:(X.wish E).Ok):X.Ok:=
 ⟨ok.mod,ok.kind,ok.glob,ok.blt,ok.above,ok.inj,ok.has,ok.cab,ok.hd,ok.frames,ok.stk,ok.Nh,ok.bs,ok.yJ,ok.r_,ok.uy,ok.fE,ok.AV,ok.tb⟩
section
variable{X:Cx}{Ã:List (À×Obj)}{Z:St}{H:Hp}{s:Â}{E:Á->Â->Prop}
theorem Inv.wish(I:Inv X Ã Z H s)(E:Á->Â->Prop):Inv (X.wish E) Ã Z H s:=⟨I.ok.wish E,I.os,I.bare,I.base,I.loc,I.cell,I.free,I.ca,I.pin,I.hok,I.len⟩
theorem Inv.eJ(I:Inv (X.wish E) Ã Z H s):Inv X Ã Z H s:=⟨I.ok.eJ,I.os,I.bare,I.base,I.loc,I.cell,I.free,I.ca,I.pin,I.hok,I.len⟩
theorem SP.eJ{D:Ends}{f:Flow}{s':Â}(h:SP (X.wish E) Ã D f s'):SP X Ã D f s':=by
 cases f with
 |next=>obtain⟨Z',H',I,q⟩:=h;exact⟨Z',H',I.eJ,q⟩
 |brk=>obtain⟨Z',H',I,q⟩:=h;exact⟨Z',H',I.eJ,q⟩
 |cont=>obtain⟨Z',H',I,q⟩:=h;exact⟨Z',H',I.eJ,q⟩
 |ret u=>obtain⟨v,Z',H',I,r,q⟩:=h;exact⟨v,Z',H',I.eJ,r,q⟩
theorem PE.ŗ{e:Å}{t:TE}(h:PE X.ŗ e t):PE X e t:=λÃ s Z H Q I hw=>
 ı (h Ã s Z H Q (I.wish _) hw) (λ_ _ ⟨v,H',I',r,q⟩=>⟨v,H',I'.eJ,r,q⟩) λ_ _ z=>ě z
end
section
variable{X:Cx}{st:Ï}{rest:List Ï}{t u:TS}{e:Å}{te:TE}{pos:Pos}
def Gb:TS:=λD Z H=>D.nx Z H
def NE(t u:TS):TS:=λD Z H=>t {D with nx:=u D} Z H
def si:Ϡ X [] Gb:=λ_ _ Z H _ I h=>iO ⟨Z,H,I,h⟩
def be(h1:PS X st t)(h2:Ϡ X rest u):Ϡ X (st::rest) (NE t u):=by
 intro Ã s Z H D I h;refine lB (ň (h1 Ã s Z H {D with nx:=u D} I h) λf s1 q=>?_);cases f with
 |next=>obtain⟨Z',H',I',q⟩:=q;exact h2 Ã s1 Z' H' D I' q
 |ret v=>exact q
 |brk=>exact q
 |cont=>exact q
def eK(h1:PS X st t):Ϡ X [st] t:=by
 intro Ã s Z H D I h;refine lB (ň (h1 Ã s Z H D I h) λf s1 q=>?_);cases f with
 |next=>exact iO q
 |ret v=>exact q
 |brk=>exact q
 |cont=>exact q
def Inv.quiet{Ã:List (À×Obj)}{Z:St}{H:Hp}{s:Â}(I:Inv X Ã Z H s):interactive X.env=false:=by simp[interactive,I.ok.kind]
def jh(te:TE):TS:=λD Z H=>te Z H λ_ H1=>D.nx Z H1
def aX(he:PE X e te)(hs:Ĳ e none pos.line X.env=pure false:=by rfl):PS X (.Expr e pos) (jh te):=by intro Ã s Z H D I h;exact wpAny_Expr_any (ň (he Ã s Z H _ I h) λv s1 ⟨x,H1,I1,r1,q1⟩=>⟨Z,H1,I1,q1⟩) I.quiet hs
def Sa(te:TE):TS:=λD Z H=>te Z H D.rt
def A0(he:PE X e te):PS X (.Return (some e) pos) (Sa te):=by intro Ã s Z H D I h;exact wpAny_Return_some (ň (he Ã s Z H _ I h) λv s1 ⟨x,H1,I1,r1,q1⟩=>⟨x,Z,H1,I1,r1,q1⟩)
def Sb(c:TT)(t u:TS):TS:=λD Z H=>c Z H λb H1=>if b=true then t D Z H1 else u D Z H1
def yL{c:Å}{a b:List Ï}{tc:TT}(hc:PT X c tc)(ha:Ϡ X a t)(hb:Ϡ X b u):PS X (.If c a b pos) (Sb tc t u):=by
 intro Ã s Z H D I h;refine wpAny_If (ň (hc Ã s Z H _ I h) λd s1 ⟨H1,I1,q1⟩=>?_);cases d with
 |true=>exact ha Ã s1 Z H1 D I1 q1
 |false=>exact hb Ã s1 Z H1 D I1 q1
end
abbrev TG:=V->St->Hp->(St->Hp->Prop)->Prop
abbrev Ef:=List V->St->Hp->(St->Hp->Prop)->Prop
def PG(X:Cx)(target:Å)(t:TG):Prop:=
 ∀(Ã:List (À×Obj)) (s:Â) (Z:St) (H:Hp) (v:V) (u:Á) (Q:St->Hp->Prop),Inv X Ã Z H s->RelV v u->t v Z H Q->
  Ç (É X.prog X.w) X.A (dR target X.env u) (λ_ s'=>∃Z' H',Inv X Ã Z' H' s'/\Q Z' H') X.xe s
def yM(X:Cx)(ts:List Å)(t:Ef):Prop:=
 ∀(Ã:List (À×Obj)) (s:Â) (Z:St) (H:Hp) (vs:List V) (us:List Á) (Q:St->Hp->Prop),Inv X Ã Z H s->ġ vs us->t vs Z H Q->
  Ç (É X.prog X.w) X.A (assignInOrder ((bK ts X.env).map (·.2)) us) (λ_ s'=>∃Z' H',Inv X Ã Z' H' s'/\Q Z' H') X.xe s
section
variable{X:Cx}{pos:Pos}
def my(i:Nat):TG:=λv Z H Q=>Q (Z.set i (some v)) H
def gB{i:Nat}{x:Str}(hN:X.N.Nodup)(hi:X.N[i]?=some x)(hx:Loc X.env.scope x)(hf:X.fn x=true\/X.env.scope.names.lookup x=some .local:=by first|exact .inl rfl|exact .inr rfl|assumption):PG X (.Name x pos) (my i):=by intro Ã s Z H v u Q I r h;exact wpAny_assign_Name (uA I hN hi hx r (λs' I'=>⟨_,H,I',h⟩) hf)
def NF:Ef:=λvs Z H Q=>vs=[]/\Q Z H
def A1(t:TG)(u:Ef):Ef:=λvs Z H Q=>∃v r,vs=v::r/\t v Z H λZ' H'=>u r Z' H' Q
def sj:yM X [] NF:=by intro Ã s Z H vs us Q I r h;obtain⟨e,h⟩:=h;subst e;cases r;exact assignInOrder_nil ⟨Z,H,I,h⟩
def dm{e:Å}{es:List Å}{t:TG}{u:Ef}(h1:PG X e t)(h2:yM X es u)
 (hs:(bK (e::es) X.env).map (·.2)=dR e X.env::(bK es X.env).map (·.2):=by rfl):yM X (e::es) (A1 t u):=by
 intro Ã s Z H vs us Q I r h;obtain⟨v,vr,e1,h⟩:=h;subst e1;cases r with
 |cons r rr=>rw[hs];refine assignInOrder_cons (ň (h1 Ã s Z H _ _ _ I r h) λ_ s1 ⟨Z1,H1,I1,q1⟩=>?_);exact h2 Ã s1 Z1 H1 _ _ Q I1 rr q1
def NG(K:Æ)(n:Nat)(t:Ef):TG:=λv Z H Q=>∃a xs,v=.ref a/\dJ K H a xs/\xs.length=n/\t xs Z H Q
def wl{es:List Å}{k:Nat}{t:Ef}{n:Nat}(hc:X.calm=true)(h:yM X es t)
 (hn:(bK es X.env).length=n:=by rfl)(mn:(bK es X.env).findIdx? (·.1)=none:=by rfl):PG X (.Tuple es k pos) (NG X.K n t):=by
 intro Ã s Z H v u Q I r hw;obtain⟨a,xs,e1,hq,hl,hw⟩:=hw;subst e1;cases r;obtain⟨Ğ,rv,ht,hz⟩:=I.tuple hq;refine assign_Tuple_tuple (I.ok.hd hc) ht (by simp[hn,<-hl,rv.length]) mn λh' hx=>?_;have I1:Inv X Ã Z H {s with heap:=h'}:=I.kept (t':=s.toks) λb o e=>hx b o (Ĥ (í e)) e;exact h Ã _ Z H xs _ Q I1 (by simpa using rv) hw
def JI(te:TE)(g:TG):TS:=λD Z H=>te Z H λx H1=>g x Z H1 D.nx
def jU{i:Nat}{x:Str}{e:Å}{te:TE}{aa:Pos}(hN:X.N.Nodup)(hi:X.N[i]?=some x)(hx:Loc X.env.scope x)(he:PE X e te)(hs:Ĳ e (some (.Name x aa)) pos.line X.env=pure false:=by rfl)(hf:X.fn x=true\/X.env.scope.names.lookup x=some .local:=by first|exact .inl rfl|exact .inr rfl|assumption) :
 PS X (.Assign [.Name x aa] e pos) (JI te (my i)):=by
 intro Ã s Z H D I h;refine wpAny_Assign_Name (ň (he Ã s Z H _ I h) λv s1 ⟨y,H1,I1,r1,q1⟩=>?_) hs;exact uA I1 hN hi hx r1 (λs2 I2=>⟨_,H1,I2,q1⟩) hf
end
section
end
structure It where
 go:Nat->Hp->Prop
 NH:Nat->Hp->V->Hp->Prop
 stop:Nat->Hp->Prop
def gO(X:Cx)(Ã:List (À×Obj))(H:Hp)(b:À):Prop:=
 H b=none/\b≠X.env.locals/\b∉X.fs/\(b∈X.ex\/X.s₀.heap.objs.size<=b)/\(∀x c,X.env.cells.lookup x=some c->c≠b)/\∀p∈X.pn++Ã,p.1≠b
def Inv.A2{X:Cx}{Ã:List (À×Obj)}{Z:St}{H H':Hp}{s:Â}{b:À}(I:Inv X Ã Z H s)(hb:s.heap.objs.size<=b)(hn:H' b=none):gO X Ã H' b:=by
 refine⟨hn,ai (ŏ I.lt hb),I.R5 hb,.inr (Ő I.sz hb),λx c e z=>?_,λp hp z=>?_⟩
 ·obtain⟨v,q⟩:=I.cell x c e;exact absurd (ŏ q.lt (by rw[z];exact hb)) (ϓ _)
 ·exact absurd (ŏ (í (I.pin p hp).1) (by rw[z];exact hb)) (ϓ _)
structure AO(P:Ù)(w:Ô)(K:Æ)(tg:Å)(J:It)(fp:List À)(it:À)(tn:Nat->Ë->Prop):Prop where
 mem:it∈fp
 obj:∀i h,tn i h->∀b∈fp,∃o,h.get? b=some o/\∀v,o.data≠ .cell v
 keep:∀i h h',tn i h->(∀b∈fp,∀o,h.get? b=some o->h'.get? b=some o)->tn i h'
 item:∀(X:Cx),X.prog=P->X.w=w->X.K=K->X.calm=true->∀(i:Nat) (Ã:List (À×Obj)) (s:Â) (Z:St) (H:Hp) (E:Á->Â->Prop),Inv X Ã Z H s->(∀b∈fp,gO X Ã H b)->tn i s.heap->J.go i H->
  Ç (É P w) X.A (dS (.ref it)) (λr s1=>∃u,r=some u/\
   Ç (É P w) X.A (lE tg (.ref it) u) (λ_ s2=>∃x H',Inv X Ã Z H' s2/\RelV x u/\J.NH i H x H'/\tn (i+1) s2.heap/\∀b∈fp,H' b=none) E s1) E s
 done:∀(X:Cx),X.prog=P->X.w=w->X.K=K->X.calm=true->∀(i:Nat) (Ã:List (À×Obj)) (s:Â) (Z:St) (H:Hp) (E:Á->Â->Prop),Inv X Ã Z H s->(∀b∈fp,gO X Ã H b)->tn i s.heap->J.stop i H->
  Ç (É P w) X.A (dS (.ref it)) (λr s1=>r=none/\Inv X Ã Z H s1) E s
 self:∀(A:Ú) (i:Nat) (s:Â) (Q:Á->Â->Prop) (E:Á->Â->Prop),tn i s.heap->Q (.ref it) s->Ç (É P w) A (pyIter (.ref it)) Q E s
abbrev TI:=St->Hp->(It->Hp->Prop)->Prop
def RO(X:Cx)(Ã:List (À×Obj))(Z:St)(tg:Å)(R:It->Hp->Prop)(RP:Á)(s2:Â):Prop:=
 ∃(it:À) (fp:List À) (tn:Nat->Ë->Prop) (J:It) (H':Hp),RP=.ref it/\Inv X Ã Z H' s2/\AO X.prog X.w X.K tg J fp it tn/\tn 0 s2.heap/\(∀b∈fp,gO X Ã H' b)/\R J H'
def PI(X:Cx)(tg iter:Å)(wi:TI):Prop:=
 ∀(Ã:List (À×Obj)) (s:Â) (Z:St) (H:Hp) (R:It->Hp->Prop),Inv X Ã Z H s->wi Z H R->
  Ç (É X.prog X.w) X.A (eval iter X.env) (λv s1=>Ç (É X.prog X.w) X.A (pyIter v) (RO X Ã Z tg R) X.xe s1) X.xe s
def yN{M:ϔ}{A:Ú}{E:Á->Â->Prop}{s:Â}{tg:Å}{it:À}{u:Á}{o:Obj}{n:String}{vs:Array Á}{Q:Unit->Â->Prop}(ho:s.heap.get? it=some o)(hc:o.cls=.type n)(hd:o.data=.fields vs)
 (hn:["enumerate","zip","dict_itemiterator","dict_reverseitemiterator","odict_iterator","itertools.zip_longest","itertools.pairwise"].contains n=false)(hQ:Q () s):Ç M A (lE tg (.ref it) u) Q E s:=by
 unfold lE;cases tg<;>first
  |exact è hQ
  |(cases u<;>first
     |exact è hQ
     |(refine Ê (wpAny_load ho ?_)
       rw[hc,hd];show Ç M A (if(["enumerate","zip","dict_itemiterator","dict_reverseitemiterator","odict_iterator","itertools.zip_longest","itertools.pairwise"].contains n && vs[0]?== some (Ĺ _))=true then _ else _) Q E s;rw[if_neg (by intro h;rw[hn,Bool.false_and] at h;cases h)];exact è hQ))
def NI(K:Æ)(a:À):It:=
 ⟨λi H=>∃xs x,ϐ K H a xs/\xs[i]?=some x,λi H x H'=>H'=H/\∀xs,ϐ K H a xs->xs[i]?=some x,λi H=>∃xs,ϐ K H a xs/\xs.length<=i⟩
def Vx(K:Æ)(a:À):It:=
 ⟨λi H=>∃xs x,dJ K H a xs/\xs[i]?=some x,λi H x H'=>H'=H/\∀xs,dJ K H a xs->xs[i]?=some x,λi H=>∃xs,dJ K H a xs/\xs.length<=i⟩
def QF(lo:Int)(n:Nat):It:=⟨λi _=>i<n,λi H x H'=>H'=H/\x=.int (lo+i),λi _=>n<=i⟩
def Ac{P:Ù}{w:Ô}{K:Æ}{tg:Å}(a it:À):AO P w K tg (NI K a) [it] it (λi h=>h.IsListIter it a i) where
 mem:=by simp
 obj:=λi h st b hb=>by
  have e:b=it:=by simpa using hb
  subst e;obtain⟨o,e,c,d⟩:=st;exact⟨o,e,λv z=>by rw[d] at z;cases z⟩
 keep:=λi h h' st k=>st.at λo e=>k it (by simp) o e
 item:=by intro X hP hw hK hc i Ã s Z H E I hf st hg;subst hP hw hK;obtain⟨xs,x,hq,hx⟩:=hg;obtain⟨Ğ,rv,p,hz⟩:=I.list hq;obtain⟨u,hu,ru⟩:=rv.get hx;obtain⟨f0,f1,f2,f3,f4,f5⟩:=hf it (by simp);refine wpAny_pyNext_list_item st p.isList (x:=u) (by simpa using hu) λh' DJ sb=>?_;have I1:Inv X Ã Z H {s with heap:=h'}:=I.turned (t':=s.toks) (λb o hb e=>(sb.2 b hb).trans e) f0 f1 f3 f4 f5;obtain⟨o,e,c,d⟩:=id DJ;exact⟨u,rfl,yN (s:={s with heap:=h'}) e c d (by decide) ⟨x,H,I1,ru,⟨rfl,λys hy=>by rw[I.uB hy hq];exact hx⟩,DJ,λb hb=>(hf b hb).1⟩⟩
 done:=by intro X hP hw hK hc i Ã s Z H E I hf st hg;subst hP hw hK;obtain⟨xs,hq,hx⟩:=hg;obtain⟨Ğ,rv,p,hz⟩:=I.list hq;obtain⟨f0,f1,f2,f3,f4,f5⟩:=hf it (by simp);have hl:=rv.length;exact wpAny_pyNext_list_end (I.ok.hd hc) st p.isList (by simp;lia) λh' eb=>⟨rfl,I.turned (t':=s.toks) (λb o hb e=>eb b o hb e) f0 f1 f3 f4 f5⟩
 self:=λ_ _ _ _ _ st h=>wpAny_pyIter_listiter st h
def wm{P:Ù}{w:Ô}{K:Æ}{tg:Å}(a it:À):AO P w K tg (Vx K a) [it] it (λi h=>h.IsTupleIter it a i) where
 mem:=by simp
 obj:=λi h st b hb=>by
  have e:b=it:=by simpa using hb
  subst e;obtain⟨o,e,c,d⟩:=st;exact⟨o,e,λv z=>by rw[d] at z;cases z⟩
 keep:=λi h h' st k=>st.at λo e=>k it (by simp) o e
 item:=by intro X hP hw hK hc i Ã s Z H E I hf st hg;subst hP hw hK;obtain⟨xs,x,hq,hx⟩:=hg;obtain⟨Ğ,rv,p,hz⟩:=I.tuple hq;obtain⟨u,hu,ru⟩:=rv.get hx;obtain⟨f0,f1,f2,f3,f4,f5⟩:=hf it (by simp);refine wpAny_pyNext_tuple_item st (show s.heap.IsTuple a Ğ.toArray from p) (x:=u) (by simpa using hu) λh' DJ sb=>?_;have I1:Inv X Ã Z H {s with heap:=h'}:=I.turned (t':=s.toks) (λb o hb e=>(sb.2 b hb).trans e) f0 f1 f3 f4 f5;obtain⟨o,e,c,d⟩:=id DJ;exact⟨u,rfl,yN (s:={s with heap:=h'}) e c d (by decide) ⟨x,H,I1,ru,⟨rfl,λys hy=>by rw[I.Ab hy hq];exact hx⟩,DJ,λb hb=>(hf b hb).1⟩⟩
 done:=by intro X hP hw hK hc i Ã s Z H E I hf st hg;subst hP hw hK;obtain⟨xs,hq,hx⟩:=hg;obtain⟨Ğ,rv,p,hz⟩:=I.tuple hq;obtain⟨f0,f1,f2,f3,f4,f5⟩:=hf it (by simp);have hl:=rv.length;exact wpAny_pyNext_tuple_end (I.ok.hd hc) st (show s.heap.IsTuple a Ğ.toArray from p) (by simp;lia) λh' eb=>⟨rfl,I.turned (t':=s.toks) (λb o hb e=>eb b o hb e) f0 f1 f3 f4 f5⟩
 self:=λ_ _ _ _ _ st h=>wpAny_pyIter_tupleiter st h
def wo{P:Ù}{w:Ô}{K:Æ}{tg:Å}(it:À)(lo:Int)(n:Nat):AO P w K tg (QF lo n) [it] it (λi h=>IsRangeIter h it (lo+(i:Nat)*1) ((n:Int)-(i:Nat)) 1) where
 mem:=by simp
 obj:=λi h st b hb=>by
  have e:b=it:=by simpa using hb
  subst e;exact⟨_,st,λv z=>by have z':Data.fields _=Data.cell v:=z;cases z'⟩
 keep:=λi h h' st k=>k it (by simp) _ st
 item:=by intro X hP hw hK hc i Ã s Z H E I hf st hg;subst hP hw hK;obtain⟨f0,f1,f2,f3,f4,f5⟩:=hf it (by simp);have W:=Walks.range (prog:=X.prog) (w:=X.w) (I.ok.hd hc) it lo 1 n;refine W.item i s _ _ hg st λv h' tk hv DJ kk=>?_;obtain⟨t,rfl⟩:=hv;have I1:Inv X Ã Z H {s with heap:=h',toks:=tk}:=I.turned (λb o hb e=>kk b o (by simpa using hb) e) f0 f1 f3 f4 f5;refine⟨_,rfl,yN (s:={s with heap:=h',toks:=tk}) (n:= "range_iterator") DJ rfl rfl (by decide) ⟨.int (lo+i),H,I1,⟨t,?_⟩,⟨rfl,rfl⟩,DJ,λb hb=>(hf b hb).1⟩⟩;rw[Int.mul_one]
 done:=by intro X hP hw hK hc i Ã s Z H E I hf st hg;subst hP hw hK;obtain⟨f0,f1,f2,f3,f4,f5⟩:=hf it (by simp);exact wpAny_pyNext_range_end (I.ok.hd hc) st (by have:n<=i:=hg;lia) λh' eb=>⟨rfl,I.turned (t':=s.toks) (λb o hb e=>eb b o hb e) f0 f1 f3 f4 f5⟩
 self:=λ_ _ _ _ _ st h=>wpAny_pyIter_rangeiter st h
section
variable{X:Cx}{tg:Å}
def A3{Ã:List (À×Obj)}{Z:St}{H:Hp}{s:Â}{R:It->Hp->Prop}{E:Á->Â->Prop}{lo hi:Int}{t u v:Tok}{tk:Nat}(I:Inv X Ã Z H s)(h1: -(2 ^ 62)<=lo)(h2:lo<2 ^ 62)(h3: -(2 ^ 62)<=hi)(h4:hi<2 ^ 62)
 (q:R (QF lo (hi-lo).toNat) H):Ç (É X.prog X.w) X.A (pyIter (.ref s.heap.objs.size)) (RO X Ã Z tg R) E {s with heap:=s.heap.push {cls:=.type "range",data:=.fields #[.int lo t,.int hi u,.int 1 v]},toks:=tk}:=by
 refine wpAny_pyIter_range (IsRange.new ..) (small_one h1 h2 h3 h4) ?_;have I1:Inv X Ã Z H {s with heap:=s.heap.push {cls:=.type "range",data:=.fields #[.int lo t,.int hi u,.int 1 v]},toks:=tk}:=I.kept λb o e=>ô _ e;refine⟨(s.heap.push {cls:=.type "range",data:=.fields #[.int lo t,.int hi u,.int 1 v]}).objs.size,[(s.heap.push {cls:=.type "range",data:=.fields #[.int lo t,.int hi u,.int 1 v]}).objs.size],_,_,H,rfl,
  I1.kept (t':=tk) λb o e=>ô _ e,wo _ lo (hi-lo).toNat,?_,λb hb=>?_,q⟩
 ·have e1:lo+((0:Nat):Int)*1=lo:=by simp
  have e2:(((hi-lo).toNat:Nat):Int)-((0:Nat):Int)=Builtin.Range.rangeSize lo hi 1:=by rw[rangeSize_one];split<;>lia
  show IsRangeIter _ _ (lo+((0:Nat):Int)*1) ((((hi-lo).toNat:Nat):Int)-((0:Nat):Int)) 1;rw[e1,e2];exact ļ _ rfl
 ·have e:b=(s.heap.push {cls:=.type "range",data:=.fields #[.int lo t,.int hi u,.int 1 v]}).objs.size:=by simpa using hb
  subst e;exact I1.A2 (â _) (I1.hok.fresh (â _))
def NJ(ta:TA):TI:=λZ H R=>ta Z H λvs H1=>∃j:Int,vs=[.int j]/\ -(2 ^ 62)<=j/\j<2 ^ 62/\R (QF 0 j.toNat) H1
def Ad{a:Å}{ta:TA}{p pos:Pos}(hg:Gl X "range")(hm:X.mg "range" =none)(ha:PA X [a] ta)(hs:È [a] X.env=[(false,eval a X.env)]:=by rfl):PI X tg (.Call (.Name "range" p) [a] [] pos) (NJ ta):=by
 intro Ã s Z H R I h;refine Call_ (sf I hg hm boot_range (yf (ň (ha pos Ã s Z H _ I h) λus s1 ⟨vs,H1,I1,r1,q1⟩=>?_) hs rfl));obtain⟨j,e,q1,q2,q⟩:=q1;subst e;cases r1 with
 |cons r rr=>cases rr;obtain⟨t,rfl⟩:=r;exact call_range_1 (A3 I1 (by lia) (by lia) q1 q2 (by simpa using q))
def Sc(wi:TI)(g:TG)(tb:TS):TS:=λD Z H=>wi Z H λJ H1=>∃W:Nat->Nat->St->Hp->Prop,(∃m,W 0 m Z H1)/\∀i m Z H,W i m Z H->
 (J.stop i H/\D.nx Z H)\/(J.go i H/\∃N:St->Hp->Prop,(∀Z' H',N Z' H'->∃m',m'<m/\W (i+1) m' Z' H')/\∀x H',J.NH i H x H'->g x Z H' λZ2 H2=>tb {D with nx:=N,ct:=N,bk:=D.nx} Z2 H2)
def jV(fp:List À)(h:Ë):List (À×Obj):=fp.filterMap λb=>(h.get? b).map λo=>(b,o)
def aH{fp:List À}{h:Ë}{b:À}{o:Obj}(hb:b∈fp)(e:h.get? b=some o):(b,o)∈jV fp h:=lv.mpr ⟨b,hb,by rw[e];rfl⟩
def Ae{fp:List À}{h:Ë}{p:À×Obj}(hp:p∈jV fp h):p.1∈fp/\h.get? p.1=some p.2:=by
 obtain⟨b,hb,e⟩:=lv.mp hp;cases q:h.get? b with
 |none=>rw[q] at e;cases e
 |some o=>rw[q] at e;have e':(b,o)=p:=Ŋ e;subst e';exact⟨hb,q⟩
def Inv.pinned{Ã:List (À×Obj)}{Z:St}{H:Hp}{s:Â}{fp:List À}(I:Inv X Ã Z H s)(hf:∀b∈fp,gO X Ã H b)(ho:∀b∈fp,∃o,s.heap.get? b=some o/\∀v,o.data≠ .cell v):Inv X (Ã++jV fp s.heap) Z H s:=
 I.yK fun p hp=>(ah.mp hp).elim (fun z=>I.pin p (Ŷ _ z)) fun z=>by obtain⟨hb,e⟩:=Ae z;obtain⟨f0,f1,f2,_⟩:=hf p.1 hb;obtain⟨o,e',d⟩:=ho p.1 hb;rw[e] at e';cases e';exact⟨e,f0,f1,f2,d⟩
def Inv.fG{Ã pl:List (À×Obj)}{Z:St}{H:Hp}{s:Â}(I:Inv X (Ã++pl) Z H s):Inv X Ã Z H s:=I.yK λp hp=>I.pin p (Ŷ _ (iB _ hp))
def A4{iter:Å}{body:List Ï}{wi:TI}{g:TG}{tb:TS}{pos:Pos}(hp:PassesOwn (É X.prog X.w) X.A X.env X.xe)(hc:X.calm=true)(hi:PI X tg iter wi)(hg:PG X tg g)(hb:Ϡ X body tb)
 (hs:∀x,aQ iter X.env x=pure x:=by intro _;rfl):PS X (.For tg iter body [] pos) (Sc wi g tb):=by
 intro Ã s Z H D I h;refine wpAny_For (ň (hi Ã s Z H _ I h) λv s1 h1=>ň h1 λRP s2 h2=>?_) hs;obtain⟨it,fp,tn,J,H2,e,I2,T,zU,f2,W,⟨m0,w0⟩,turn⟩:=h2;subst e;have stat:∀{H':Hp},(∀b∈fp,H' b=none)->∀b∈fp,gO X Ã H' b:=λhn b hb=>⟨hn b hb,(f2 b hb).2⟩;refine codeAny_forLoop_any (λn s'=>∃i Z' H',Inv X Ã Z' H' s'/\tn i s'.heap/\(∀b∈fp,H' b=none)/\W i n Z' H') ?_ m0 ⟨0,Z,H2,I2,zU,λb hb=>(f2 b hb).1,w0⟩;rintro n s3 ⟨i,Z3,H3,I3,W3,Vy,w3⟩;rcases turn i n Z3 H3 w3 with⟨stop,qn⟩|⟨go,N,hN,step⟩
 ·refine iP hp (ň (T.done X rfl rfl rfl hc i Ã s3 Z3 H3 X.xe I3 (stat Vy) W3 stop) λr s4 ⟨hr,I4⟩=>?_);subst hr;exact iO ⟨Z3,H3,I4,qn⟩
 ·refine iP hp (ň (T.item X rfl rfl rfl hc i Ã s3 Z3 H3 X.xe I3 (stat Vy) W3 go) λr s4 ⟨u,hr,h4⟩=>?_);subst hr;refine iP hp (ň h4 λ_ s5 ⟨x,H5,I5,r5,y5,Eg,JJ⟩=>?_);have Xv:=I5.pinned (stat JJ) (T.obj _ _ Eg);refine iP hp (ň (hg _ s5 Z3 H5 x u _ Xv r5 (step x H5 y5)) λ_ s6 ⟨Z6,H6,I6,q6⟩=>?_);refine iP hp (ň (hb _ s6 Z6 H6 _ I6 q6) λf s7 q7=>?_);have again:∀{Z7:St} {H7:Hp},Inv X (Ã++jV fp s5.heap) Z7 H7 s7->N Z7 H7->∃m,m<n/\∃i Z' H',Inv X Ã Z' H' s7/\tn i s7.heap/\(∀b∈fp,H' b=none)/\W i m Z' H':=fun{Z7 H7} I7 n7=>by
   obtain⟨m',hm,w7⟩:=hN Z7 H7 n7;refine⟨m',hm,i+1,Z7,H7,I7.fG,T.keep _ _ _ Eg λb hb o e=>(I7.pin (b,o) (Ŷ _ (Ŷ _ (aH hb e)))).1,λb hb=>?_,w7⟩;obtain⟨o,e,d⟩:=T.obj _ _ Eg b hb;exact(I7.pin (b,o) (Ŷ _ (Ŷ _ (aH hb e)))).2.1
  cases f with
  |next=>obtain⟨Z7,H7,I7,n7⟩:=q7;exact again I7 n7
  |cont=>obtain⟨Z7,H7,I7,n7⟩:=q7;exact again I7 n7
  |brk=>obtain⟨Z7,H7,I7,q7⟩:=q7;exact⟨Z7,H7,I7.fG,q7⟩
  |ret v=>obtain⟨x7,Z7,H7,I7,r7,q7⟩:=q7;exact⟨x7,Z7,H7,I7.fG,r7,q7⟩
end
abbrev R2:=V->V->Hp->VK->Prop
def Ϸ(X:Cx)(f:Á->Á->Sem Á)(r:R2):Prop:=
 ∀(Ã:List (À×Obj)) (s:Â) (Z:St) (H:Hp) (x y:V) (v u:Á) (Q:VK),Inv X Ã Z H s->RelV x v->RelV y u->r x y H Q->
  Ç (É X.prog X.w) X.A (f v u) (EP X Ã Z Q) X.xe s
def Eh(X:Cx)(f:Á->Sem Á)(r:V->Hp->VK->Prop):Prop:=
 ∀(Ã:List (À×Obj)) (s:Â) (Z:St) (H:Hp) (x:V) (v:Á) (Q:VK),Inv X Ã Z H s->RelV x v->r x H Q->
  Ç (É X.prog X.w) X.A (f v) (EP X Ã Z Q) X.xe s
def ū(X:Cx)(f:Á)(r:List V->Hp->VK->Prop):Prop:=
 ∀(Ã:List (À×Obj)) (s:Â) (Z:St) (H:Hp) (xs:List V) (us:List Á) (Q:VK),Inv X Ã Z H s->ġ xs us->r xs H Q->
  Ç (É X.prog X.w) X.A (call f us) (EP X Ã Z Q) X.xe s
def Se(X:Cx)(r:V->Hp->(Bool->Hp->Prop)->Prop):Prop:=
 ∀(Ã:List (À×Obj)) (s:Â) (Z:St) (H:Hp) (x:V) (v:Á) (Q:Bool->Hp->Prop),Inv X Ã Z H s->RelV x v->r x H Q->
  Ç (É X.prog X.w) X.A (truthy v) (TP X Ã Z Q) X.xe s
def Ei(r:R2)(ta tb:TE):TE:=λZ H Q=>ta Z H λx H1=>tb Z H1 λy H2=>r x y H2 Q
def Vz(r:V->Hp->VK->Prop)(ta:TE):TE:=λZ H Q=>ta Z H λx H1=>r x H1 Q
def rI(C:Int->Int->Prop)(g:Int->Int->V):R2:=λx y H Q=>∃i j,x=.int i/\y=.int j/\C i j/\Q (g i j) H
def Ej(g:Int->Int->V):R2:=λx y H Q=>∃i j,x=.int i/\y=.int j/\Q (g i j) H
def rU(g:Int->V):V->Hp->VK->Prop:=λx H Q=>∃i,x=.int i/\Q (g i) H
section
variable{X:Cx}{a b:Å}{ta tb:TE}{pos:Pos}
def JK(ha:PE X a ta)(hb:PE X b tb){Ã:List (À×Obj)}{s:Â}{Z:St}{H:Hp}{R:V->V->Hp->Prop}(I:Inv X Ã Z H s)
 (h:ta Z H λx H1=>tb Z H1 λy H2=>R x y H2){Q:Á->Â->Prop}{f:Á->Á->Sem Á}
 (hf:∀v u s2 x y H2,Inv X Ã Z H2 s2->RelV x v->RelV y u->R x y H2->Ç (É X.prog X.w) X.A (f v u) Q X.xe s2) :
 Ç (É X.prog X.w) X.A (eval a X.env) (λv s₁=>Ç (É X.prog X.w) X.A (eval b X.env) (λu s₂=>Ç (É X.prog X.w) X.A (f v u) Q X.xe s₂) X.xe s₁) X.xe s:=by
 refine ň (ha Ã s Z H _ I h) λv s1 ⟨x,H1,I1,r1,q1⟩=>?_;refine ň (hb Ã s1 Z H1 _ I1 q1) λu s2 ⟨y,H2,I2,r2,q2⟩=>?_;exact hf v u s2 x y H2 I2 r1 r2 q2
def Gc{op:Operator}{r:R2}(ho:Ϸ X (ŝ op) r)(ha:PE X a ta)(hb:PE X b tb):PE X (.BinOp a op b pos) (Ei r ta tb):=by intro Ã s Z H Q I h;exact wpAny_BinOp (JK ha hb I h λv u s2 x y H2 I2 rx ry q=>ho Ã s2 Z H2 x y v u Q I2 rx ry q)
def Gd{op:UnaryOp}{r:V->Hp->VK->Prop}(ho:Eh X (unaryOp op) r)(ha:PE X a ta):PE X (.UnaryOp op a pos) (Vz r ta):=by intro Ã s Z H Q I h;exact UnaryOp_ (ň (ha Ã s Z H _ I h) λv s1 ⟨x,H1,I1,r1,q1⟩=>ho Ã s1 Z H1 x v Q I1 r1 q1)
def Ek{f:Á->Á->Sem Á}{C:Int->Int->Prop}{g:Int->Int->Int}
 (rule:∀(i j:Int) (t u:Tok) (s:Â) (Q:Á->Â->Prop) (E:Á->Â->Prop),C i j->Q (.int (g i j) s.toks) {s with toks:=s.toks+1}->Ç (É X.prog X.w) X.A (f (.int i t) (.int j u)) Q E s) :
 Ϸ X f (rI C λi j=>.int (g i j)):=by
 intro Ã s Z H x y v u Q I rx ry h;obtain⟨i,j,rfl,rfl,hc,q⟩:=h;obtain⟨t,rfl⟩:=rx;obtain⟨t',rfl⟩:=ry;exact rule i j t t' s _ _ hc ⟨.int (g i j),H,I.tok _,⟨_,rfl⟩,q⟩
def Af{f:Á->Á->Sem Á}{g:Int->Int->Int}
 (rule:∀(i j:Int) (t u:Tok) (s:Â) (Q:Á->Â->Prop) (E:Á->Â->Prop),Q (.int (g i j) s.toks) {s with toks:=s.toks+1}->Ç (É X.prog X.w) X.A (f (.int i t) (.int j u)) Q E s) :
 Ϸ X f (Ej λi j=>.int (g i j)):=by
 intro Ã s Z H x y v u Q I rx ry h;obtain⟨i,j,rfl,rfl,q⟩:=h;obtain⟨t,rfl⟩:=rx;obtain⟨t',rfl⟩:=ry;exact rule i j t t' s _ _ ⟨.int (g i j),H,I.tok _,⟨_,rfl⟩,q⟩
def El{f:Á->Á->Sem Á}{g:Int->Int->Bool}
 (rule:∀(i j:Int) (t u:Tok) (s:Â) (Q:Á->Â->Prop) (E:Á->Â->Prop),Q (.bool (g i j)) s->Ç (É X.prog X.w) X.A (f (.int i t) (.int j u)) Q E s) :
 Ϸ X f (Ej λi j=>.bl (g i j)):=by
 intro Ã s Z H x y v u Q I rx ry h;obtain⟨i,j,rfl,rfl,q⟩:=h;obtain⟨t,rfl⟩:=rx;obtain⟨t',rfl⟩:=ry;exact rule i j t t' s _ _ ⟨.bl (g i j),H,I,rfl,q⟩
def JL(i j:Int):Prop:=0<=j/\j<=1000000/\i.natAbs<2 ^ 64
def JM:Ϸ X (ŝ .Add) (Ej λi j=>.int (i+j)):=Af λ_ _ _ _ _ _ _ q=>add_int q
def JN:Ϸ X (ŝ .Sub) (Ej λi j=>.int (i-j)):=Af λ_ _ _ _ _ _ _ q=>sub_int q
def Em:Ϸ X (ŝ .Mod) (rI (λ_ j=>j≠0) λi j=>.int (i.fmod j)):=Ek λ_ _ _ _ _ _ _ hc q=>mod_int' hc q
def JO:Ϸ X (ŝ .Pow) (rI JL λi j=>.int (i ^ j.toNat)):=Ek λ_ _ _ _ _ _ _ hc q=>pow_int_small hc.1 hc.2.1 hc.2.2 q
def Xw{f:Á->Sem Á}{g:Int->Int}
 (rule:∀(i:Int) (t:Tok) (s:Â) (Q:Á->Â->Prop) (E:Á->Â->Prop),Q (.int (g i) s.toks) {s with toks:=s.toks+1}->Ç (É X.prog X.w) X.A (f (.int i t)) Q E s) :
 Eh X f (rU λi=>.int (g i)):=by
 intro Ã s Z H x v Q I rx h;obtain⟨i,rfl,q⟩:=h;obtain⟨t,rfl⟩:=rx;exact rule i t s _ _ ⟨.int (g i),H,I.tok _,⟨_,rfl⟩,q⟩
def A5:Eh X (unaryOp .USub) (rU λi=>.int (-i)):=Xw λ_ _ _ _ _ q=>neg_int q
end
section
variable{X:Cx}{a b:Å}{ta tb:TE}{pos:Pos}
def JP{Ã:List (À×Obj)}{Z:St}{H:Hp}{s:Â}{Q:VK}{k k':Bool}(I:Inv X Ã Z H s)(q:Q (.bl k) H)(e:k=k'):EP X Ã Z Q (.bool k') s:=by subst e;exact⟨.bl k,H,I,rfl,q⟩
def NK:Ϸ X (Ę .Lt) (Ej λi j=>.bl (decide (i<j))):=El λ_ _ _ _ _ _ _ q=>lt_int q
def NL:Ϸ X (Ę .LtE) (Ej λi j=>.bl (decide (i<=j))):=El λ_ _ _ _ _ _ _ q=>le_int q
def NM:Ϸ X (Ę .Gt) (Ej λi j=>.bl (decide (j<i))):=El λ_ _ _ _ _ _ _ q=>gt_int q
def NO:Ϸ X (Ę .GtE) (Ej λi j=>.bl (decide (j<=i))):=El λ_ _ _ _ _ _ _ q=>ge_int q
def wq:Ϸ X (Ę .Is) (λx y H Q=>y=.non/\Q (.bl (decide (x=.non))) H):=by
 intro Ã s Z H x y v u Q I rx ry h;obtain⟨rfl,q⟩:=h;cases ry;refine is_none_gen (JP I q ?_);cases x<;>first
  |(cases rx;rfl)
  |(obtain⟨t,rfl⟩:=rx;rfl)
def Ϸ.or{f:Á->Á->Sem Á}{r r':R2}(h:Ϸ X f r)(h':Ϸ X f r'):Ϸ X f (λx y H Q=>r x y H Q\/r' x y H Q):=by
 intro Ã s Z H x y v u Q I rx ry q;rcases q with q|q
 ·exact h Ã s Z H x y v u Q I rx ry q
 ·exact h' Ã s Z H x y v u Q I rx ry q
def ŉ(b:Å){op:aj}(h:op≠ .In:=by decide)(h2:op≠ .NotIn:=by decide):cC op b=false:=by
 have e1:(op== CmpOp.In)=false:=by cases op<;>first|rfl|exact absurd rfl h
 have e2:(op== CmpOp.NotIn)=false:=by cases op<;>first|rfl|exact absurd rfl h2
 cases b<;>simp[cC,e1,e2]
def yO{op:aj}{r:R2}(ho:Ϸ X (Ę op) r)(ha:PE X a ta)(hb:PE X b tb)(hm:cC op b=false):PE X (.Compare a [op] [b] pos) (Ei r ta tb):=by intro Ã s Z H Q I h;exact wpAny_Compare1 (JK ha hb I h λv u s2 x y H2 I2 rx ry q=>ho Ã s2 Z H2 x y v u Q I2 rx ry q) hm
def JQ(K:Æ)(x:V)(H:Hp)(k:Bool):Prop:=
 match x with
 | .non=>k=false
 | .bl b=>k=b
 | .int i=>k=(i != 0)
 | .str y=>y.length<=sizeLine/\k=((y.length:Int) != 0)
 | .F8 y=>y.size<=sizeLine/\k=((y.size:Int) != 0)
 | .ref p=>(∃xs,ϐ K H p xs/\k=!xs.isEmpty)\/(∃xs,dJ K H p xs/\k=!xs.isEmpty)\/∃ia,H p=some (.dK ia)/\k=!ia.isEmpty
 |_=>False
def wr{κ:Type}{ia:List (κ×V)}{vs:List (κ×Á)}(r:KV ia vs):(!vs.isEmpty)=!ia.isEmpty:=by cases r<;>rfl
def mz{xs:List V}{Ğ:List Á}(r:ġ xs Ğ):(!Ğ.toArray.isEmpty)=!xs.isEmpty:=by cases r<;>simp
def mB:(sizeLine:Nat)<2 ^ 63:=by rw[Ϯ];decide
def JR:Se X (λx H Q=>∃k,JQ X.K x H k/\Q k H):=by
 intro Ã s Z H x v Q I rx h;obtain⟨k,e,q⟩:=h;have hl:=mB;have hs:sizeLine=16777216:=Ϯ;cases x with
 |non=>cases rx;have e':k=false:=e;subst e';exact truthy_none ⟨H,I,q⟩
 |bl b=>cases rx;have e':k=b:=e;subst e';exact bL ⟨H,I,q⟩
 |int i=>obtain⟨t,rfl⟩:=rx;have e':k=(i != 0):=e;subst e';exact PySem.P.truthy_int ⟨H,I,q⟩
 |str y=>obtain⟨t,rfl⟩:=rx;obtain⟨hy,e'⟩:y.length<=sizeLine/\k=((y.length:Int) != 0):=e;subst e';exact PySem.P.truthy_str (by lia) ⟨H,I.tok _,q⟩
 |F8 y=>obtain⟨t,rfl⟩:=rx;obtain⟨hy,e'⟩:y.size<=sizeLine/\k=((y.size:Int) != 0):=e;subst e';exact PySem.W.truthy_bytes (by lia) ⟨H,I.tok _,q⟩
 |ref p=>
  cases rx;have e':(∃xs,ϐ X.K H p xs/\k=!xs.isEmpty)\/(∃xs,dJ X.K H p xs/\k=!xs.isEmpty)\/∃ia,H p=some (.dK ia)/\k=!ia.isEmpty:=e;rcases e' with⟨xs,hx,e'⟩|⟨xs,hx,e'⟩|⟨ia,hx,e'⟩
  ·subst e';obtain⟨Ğ,r,pl,hz⟩:=I.list hx;have hlen:=r.length;exact wpAny_truthy_list pl.isList (by simp only[ħ];lia) ⟨H,I.tok _,by rw[mz r];exact q⟩
  ·subst e';obtain⟨Ğ,r,pl,hz⟩:=I.tuple hx;have hlen:=r.length;exact truthy_tuple pl (by simp only[ħ];lia) ⟨H,I.tok _,by rw[mz r];exact q⟩
  ·subst e';obtain⟨hz,hS,vs,r,m⟩:ia.length<=sizeLine/\(p== iL)=false/\∃vs,KV ia vs/\s.heap.DictOf (rY X.prog X.w) p vs:=I.hok p _ hx;have hlen:ia.length=vs.length:=Paired.length r;exact wpAny_truthy_dict hS m (by lia) ⟨H,I.tok _,by rw[wr r];exact q⟩
 |_=>exact(show False from e).elim
def uC(ha:PE X a ta)(he:∀whole,isTrue a X.env whole=(do let v <-whole;cD a.pos;holding [v] (truthy v))) :
 PT X a (λZ H Q=>ta Z H λx H'=>∃k,JQ X.K x H' k/\Q k H'):=by
 intro Ã s Z H Q I h;exact isTrue_plain (ň (ha Ã s Z H _ I h) λv s1 ⟨x,H1,I1,r1,q1⟩=>JR Ã s1 Z H1 x v Q I1 r1 q1) (he _)
def wt:Ϸ X (ŝ .Add) (λx y H Q=>∃i j,x=.str i/\y=.str j/\i.length+j.length<=sizeLine/\Q (.str (i++j)) H):=by intro Ã s Z H x y v u Q I rx ry h;obtain⟨i,j,rfl,rfl,hz,q⟩:=h;obtain⟨t,rfl⟩:=rx;obtain⟨t',rfl⟩:=ry;exact add_str (λt' tk=>⟨.str (i++j),H,I.tok _,⟨_,rfl⟩,q⟩) hz
def vals1{x:V}{us:List Á}(r:ġ [x] us):∃u,us=[u]/\RelV x u:=by
 cases r with
 |cons r1 r2=>cases r2;exact⟨_,rfl,r1⟩
def A6:ū X (.builtin "abs") (λxs H Q=>∃i,xs=[.int i]/\Q (.int (if i<0 then -i else i)) H):=by intro Ã s Z H xs us Q I r h;obtain⟨i,rfl,q⟩:=h;obtain⟨u,rfl,t,rfl⟩:=vals1 r;exact call_abs_int λu tk=>⟨.int (if i<0 then -i else i),H,I.tok _,⟨_,rfl⟩,q⟩
def Ag:ū X (.type "int") (λxs H Q=>(∃i,xs=[.int i]/\Q (.int i) H)\/∃k,xs=[.bl k]/\Q (.int (if k then 1 else 0)) H):=by
 intro Ã s Z H xs us Q I r h;rcases h with⟨i,rfl,q⟩|⟨k,rfl,q⟩
 ·obtain⟨u,rfl,t,rfl⟩:=vals1 r;exact call_int_int ⟨.int i,H,I,⟨_,rfl⟩,q⟩
 ·obtain⟨u,rfl,r1⟩:=vals1 r;cases r1;exact call_int_bool ⟨.int (if k then 1 else 0),H,I.tok _,⟨_,rfl⟩,q⟩
def sk:ū X (.type "str") (λxs H Q=>∃i,xs=[.int i]/\i.natAbs.log2<1920/\Q (.str (ϙ i)) H):=by intro Ã s Z H xs us Q I r h;obtain⟨i,rfl,hz,q⟩:=h;obtain⟨u,rfl,t,rfl⟩:=vals1 r;exact PySem.P.str_of_int hz ⟨.str _,H,I.tok _,⟨_,rfl⟩,q⟩
def Sf(K:Æ)(x:V)(H:Hp)(n:Nat):Prop:=
 match x with
 | .str y=>y.length<=sizeLine/\n=y.length
 | .F8 y=>y.size<=sizeLine/\n=y.size
 | .ref p=>(∃xs,ϐ K H p xs/\n=xs.length)\/∃xs,dJ K H p xs/\n=xs.length
 |_=>False
def A7:ū X (.builtin "len") (λxs H Q=>∃x n,xs=[x]/\Sf X.K x H n/\Q (.int n) H):=by
 intro Ã s Z H xs us Q I r h;obtain⟨x,n,rfl,e,q⟩:=h;obtain⟨u,rfl,rx⟩:=vals1 r;have hl:=mB;have hs:sizeLine=16777216:=Ϯ;cases x with
 |str y=>obtain⟨t,rfl⟩:=rx;obtain⟨hy,e'⟩:y.length<=sizeLine/\n=y.length:=e;subst e';exact len_str (by lia) ⟨.int _,H,I.tok _,⟨_,rfl⟩,q⟩
 |F8 y=>obtain⟨t,rfl⟩:=rx;obtain⟨hy,e'⟩:y.size<=sizeLine/\n=y.size:=e;subst e';exact PySem.W.len_bytes (by lia) ⟨.int _,H,I.tok _,⟨_,rfl⟩,q⟩
 |ref p=>
  cases rx;have e':(∃xs,ϐ X.K H p xs/\n=xs.length)\/∃xs,dJ X.K H p xs/\n=xs.length:=e;rcases e' with⟨xs,hx,e'⟩|⟨xs,hx,e'⟩
  ·subst e';obtain⟨Ğ,r',pl,hz⟩:=I.list hx;have hlen:=r'.length;exact Calls.call_len_list pl.isList (by simp only[ħ];lia) ⟨.int xs.length,H,I.tok _,⟨_,by simp only[ħ];rw[hlen]⟩,q⟩
  ·subst e';obtain⟨Ğ,r',pl,hz⟩:=I.tuple hx;have hlen:=r'.length;exact len_tuple pl (by simp only[ħ];lia) ⟨.int xs.length,H,I.tok _,⟨_,by simp only[ħ];rw[hlen]⟩,q⟩
 |_=>exact(show False from e).elim
end
structure wu(h:Ë)(x dx C:À)(mA:Str->Option Á):Prop where
 obj:h.get? x=some (bS C dx)
 ns:h.Ns1 dx mA
 ne:dx≠x
def pB{h:Ë}{dx:À}{mA:Str->Option Á}(n:h.Ns1 dx mA):∃od,h.get? dx=some od/\∀name,lI name od=some (mA name):=by
 obtain⟨o,es,ep,ho,hd,hk,_,hm⟩:=n;refine⟨o,ho,λname=>?_⟩;have e:=hm name;unfold nsFind findBy at e;rw[<-Array.find?_toList] at e;unfold lI;rw[hd];dsimp only;split
 ·rename_i y q;rw[q] at e;exact congrArg some e
 ·rename_i q;rw[q] at e;have a:es.toList.any (·.refKey)=false:=by
   rw[List.any_eq_false];intro y hy;obtain⟨z,t,UP⟩:=hk y (Array.mem_toList_iff.mp hy);simp[DictEntry.refKey,UP]
  have a':¬es.toList.any (·.refKey)=true:=by rw[a];exact bI
  rw[if_neg a'];exact congrArg some e
def wu.look{h:Ë}{x dx C:À}{mA:Str->Option Á}(I:wu h x dx C mA):∃od,lJ h x (bS C dx) C (some od)/\∀name,lI name od=some (mA name):=
 let ⟨od,ho,hl⟩:=pB I.ns
 ⟨od,⟨I.obj,rfl,rfl,ho⟩,hl⟩
section
variable{prog:Ù}{w:Ô}{A:Ú}{E:Á->Â->Prop}{s:Â}{K:Æ}{x dx C f:À}{mA:Str->Option Á}{name:Str}{v:Á}
def FP{UQ:Bool}{Q:Á->Â->Prop}(X:K.In s.heap)(I:wu s.heap x dx C mA)(hg:je K C name=true)(hh:lK K C=true)
 (ha:Ĩ K (.ref C) name=some none)(hv:mA name=some v)(FQ:yE v=true)(h:Q v {s with toks:=s.toks+1}) :
 Ç (É prog w) A (getAttr (.ref x) name UQ) Q E s:=by
 obtain⟨od,J,hl⟩:=I.look;exact PySem.W.get_value X J (rJ hg).1 (PySem.W.findObj_own hh ha rfl (by rw[hl,hv])) FQ h
def A8{pl:Sem Bool}{Q:Á×List Á->Â->Prop}(X:K.In s.heap)(I:wu s.heap x dx C mA)(hg:je K C name=true)
 (hf:Ĩ K (.ref C) name=some (some (.ref f)))(ht:jf K (.ref f)=true)(hv:mA name=none)(h:Q (.ref f,[.ref x]) s) :
 Ç (É prog w) A (getMethod (.ref x) name pl) Q E s:=by
 obtain⟨od,J,hl⟩:=I.look;exact PySem.W.method_fn X J (rJ hg).1 (rJ hg).2 hf (beq_iff_eq.mp ht) (by show(lI name od).map (·.isSome)=some false;rw[hl,hv];rfl) h
def En{ns:List Str}{Q:Unit->Â->Prop}(X:K.In s.heap)(I:wu s.heap x dx C mA)
 (hs:Ĩ K (.ref C) "__setattr__" =some (some (.builtin "object.__setattr__")))(hp:rK K C=true)(ht:rM K C name=some none)(hh:lK K C=true)
 (hw:iM mA ns)(xO:ns.length<=sizeLine)
 (h:∀h',wu h' x dx C (λy=>if y=name then some v else mA y)->am dx s.heap h'->Q () {s with heap:=h',toks:=s.toks+2}) :
 Ç (É prog w) A (setAttr (.ref x) name v) Q E s:=by
 obtain⟨od,J,hl⟩:=I.look;refine rN X J hs (PySem.W.osa_open (s:={s with toks:=s.toks+1}) (r:=none) X J hp ht λb=>?_);obtain⟨cd,hc,P9⟩:=PySem.W.any_some hh;have hx:s.heap.get? x=some ⟨.ref C,some dx,.plain,#[]⟩:=I.obj;refine Ê (è (Ê (Ê (qM hx (Ê (rW (s:={s with toks:=s.toks+1}) (lL X hc) ?_))))));rw[P9];refine è (a:=some dx) (Ê (è (Ê ?_)));refine wpAny_nsSet1 (s:={s with toks:=s.toks+1}) I.ns λh' D7 DK=>?_;obtain⟨oD,W4,W5,Qa,Qb,Qc⟩:=D7.count (rX name v hw);refine Ê (qN Qa (by rw[Qb];exact qO (Ő Qc (by rw[Ĝ];lia))) ?_);exact è (h _ ⟨(DK.2 _ (Ć I.ne)).trans I.obj,D7,I.ne⟩ DK)
def A9{R:Result->Â->Prop}{vs:List Á}{kw:List (Str×Á)}(X:K.In s.heap)(hm:rP K C=true)
 (hi:Ĩ K (.ref C) "__init__" =some (some (.ref f)))(hf:lM K (.ref f)=some (.type "function"))
 (h:ϕ (É prog w) (A.under (.builtin "type.__call__" ⟨.ref C::vs,kw⟩)) (.call (.ref f) ⟨.ref (s.heap.objs.size+1)::vs,kw⟩) (PySem.W.InitBack (s.heap.objs.size+1) R)
   {s with heap:=(s.heap.push aV).push (bS C s.heap.objs.size)}) :
 ϕ (É prog w) A (.call (.ref C) ⟨vs,kw⟩) R s:=by
 obtain⟨hh,g,d,t,os⟩:=s;exact PySem.W.make_core (PySem.W.makes_of X hm) (rQ X hi) (λself=>PySem.W.bind_fn X self hf) (.inl rfl) h
end
noncomputable def ϣ(f:Str)(v:V):List (Str×V)->List (Str×V)
 | []=>[(f,v)]
 |(g,x)::r=>if g=f then(g,v)::r else(g,x)::ϣ f v r
theorem fH(f g:Str)(v:V):∀fs:List (Str×V),(ϣ f v fs).lookup g=if g=f then some v else fs.lookup g
 | []=>by
   show dO g [(f,v)]=_;by_cases h:g=f
   ·have hb:(g== f)=true:=beq_iff_eq.mpr h;simp only[dO,hb,if_pos h]
   ·have hb:(g== f)=false:=beq_eq_false_iff_ne.mpr h;simp only[dO,hb,if_neg h]
 |(k,x)::r=>by
  have ih:=fH f g v r;rw[show ϣ f v ((k,x)::r)=(if k=f then(k,v)::r else(k,x)::ϣ f v r) from rfl];by_cases hk:k=f
  ·rw[if_pos hk];by_cases h:g=k
   ·have hb:(g== k)=true:=beq_iff_eq.mpr h;simp only[dO,hb,if_pos (h.trans hk)]
   ·have hb:(g== k)=false:=beq_eq_false_iff_ne.mpr h;simp only[dO,hb,if_neg (λe:g=f=>h (e.trans hk.symm))]
  ·rw[if_neg hk];by_cases h:g=k
   ·have hb:(g== k)=true:=beq_iff_eq.mpr h;simp only[dO,hb,if_neg (λe:g=f=>hk (h.symm.trans e))]
   ·have hb:(g== k)=false:=beq_eq_false_iff_ne.mpr h;simp only[dO,hb];exact ih
theorem jW(f:Str)(v:V):∀fs:List (Str×V),f∈(ϣ f v fs).map (·.1)/\∀g,g∈fs.map (·.1)->g∈(ϣ f v fs).map (·.1)
 | []=>⟨by simp[ϣ],λg h=>by simp at h⟩
 |(k,x)::r=>by
  obtain⟨i1,i2⟩:=jW f v r;rw[show ϣ f v ((k,x)::r)=(if k=f then(k,v)::r else(k,x)::ϣ f v r) from rfl];by_cases hk:k=f
  ·rw[if_pos hk];subst hk;exact⟨by simp,λg h=>by simpa using h⟩
  ·rw[if_neg hk];refine⟨?_,λg h=>?_⟩
   ·rw[á];exact ù _ i1
   ·rw[á] at h ⊢;rcases ė.mp h with e|e
    ·exact ė.mpr (.inl e)
    ·exact ù _ (i2 g e)
theorem fJ(f:Str)(v:V):∀fs:List (Str×V),(ϣ f v fs).length<=fs.length+1
 | []=>by simp[ϣ]
 |(k,x)::r=>by
  have ih:=fJ f v r;rw[show ϣ f v ((k,x)::r)=(if k=f then(k,v)::r else(k,x)::ϣ f v r) from rfl];by_cases hk:k=f
  ·rw[if_pos hk,Ĝ,Ĝ];lia
  ·rw[if_neg hk,Ĝ,Ĝ];lia
def jT.some_of{v:V}{o:Option Á}(r:jT (some v) o):∃u,o=some u/\RelV v u:=by
 cases o with
 |none=>exact(show False from r).elim
 |some u=>exact⟨u,rfl,r⟩
def jT.none_of{o:Option Á}(r:jT none o):o=none:=by
 cases o with
 |none=>rfl
 |some u=>exact(show False from r).elim
def Ah{v:V}{u:Á}(r:RelV v u):yE u=true:=by
 cases v with
 |non=>cases(show u=Value.none from r);rfl
 |bl b=>cases(show u=Ş b from r);rfl
 |int i=>obtain⟨t,e⟩:=(show ∃t,u=Value.int i t from r);cases e;rfl
 |str x=>obtain⟨t,e⟩:=(show ∃t,u=Value.str x t from r);cases e;rfl
 |F8 b=>obtain⟨t,e⟩:=(show ∃t,u=Value.bytes b t from r);cases e;rfl
 |flt b=>obtain⟨t,e⟩:=(show ∃t,u=Value.float b t from r);cases e;rfl
 |ref a=>cases(show u=ć a from r);rfl
 |ty n=>cases(show u=rz n from r);rfl
section
variable{P:Ù}{w:Ô}{H:Hp}{h:Ë}{a C dx:À}{fs:List (Str×V)}
def sm(hok:dg P w H h)(e:H a=some (.ins C dx fs)):∃mA,wu h a dx C mA/\(∀f,jT (fs.lookup f) (mA f))/\iM mA (fs.map (·.1))/\fs.length<=1000/\H dx=some (.own a):=by obtain⟨d,z,ne,ob,mA,n,r,q⟩:=(show Ϣ P w H h a (.ins C dx fs) from hok a _ e);exact⟨mA,⟨ob,n,ne⟩,r,q,z,d⟩
end
structure jS(K:Æ)(C:À):Prop where
 pg:je K C eh=true
 hd:lK K C=true
 po:rK K C=true
 sa:Ĩ K (.ref C) "__setattr__" =some (some (.builtin "object.__setattr__"))
def jS.get{K:Æ}{C:À}(c:jS K C)(f:Str):je K C f=true:=c.pg
def ĉ(K:Æ)(C:À)(f:Str):Prop:=Ĩ K (.ref C) f=some none
def ĉ.taker{K:Æ}{C:À}{f:Str}(n:ĉ K C f):rM K C f=some none:=by unfold rM;rw[show Ĩ K (.ref C) f=some none from n];rfl
structure ll(K:Æ)(C:À)(m:Str)(f:À):Prop where
 at_:Ĩ K (.ref C) m=some (some (.ref f))
 fn:jf K (.ref f)=true
 kp:Ō K (.ref f)=true
section
variable{X:Cx}{Ã:List (À×Obj)}{Z:St}{H:Hp}{s:Â}{a C dx:À}{fs:List (Str×V)}{f:Str}{v:V}{A:Ú}{E:Á->Â->Prop}
def wv{b:Bool}{Q:Á->Â->Prop}(I:Inv X Ã Z H s)(e:H a=some (.ins C dx fs))(c:jS X.K C)(n:ĉ X.K C f)(l:fs.lookup f=some v)
 (h:∀u s',Inv X Ã Z H s'->RelV v u->Q u s'):Ç (É X.prog X.w) A (getAttr (.ref a) f b) Q E s:=by
 obtain⟨mA,O,r,_,_,_⟩:=sm I.hok e;obtain⟨u,hu,ru⟩:=jT.some_of (v:=v) (o:=mA f) (by rw[<-l];exact r f);exact FP I.fv O (c.get f) c.hd n hu (Ah ru) (h u _ (I.tok _) ru)
def mD{m:Str}{g:À}{pl:Sem Bool}{Q:Á×List Á->Â->Prop}(I:Inv X Ã Z H s)(e:H a=some (.ins C dx fs))(c:jS X.K C)(k:ll X.K C m g)(l:fs.lookup m=none)
 (h:Q (.ref g,[.ref a]) s):Ç (É X.prog X.w) A (getMethod (.ref a) m pl) Q E s:=by
 obtain⟨mA,O,r,_,_,_⟩:=sm I.hok e;have hn:mA m=none:=jT.none_of (by rw[<-l];exact r m);exact A8 I.fv O (c.get m) k.at_ k.fn hn h
def ww{y:V}{u:Á}{Q:Unit->Â->Prop}(I:Inv X Ã Z H s)(e:H a=some (.ins C dx fs))(c:jS X.K C)(n:ĉ X.K C f)(hl:fs.length<1000)(ry:RelV y u)
 (h:∀s',Inv X Ã Z (upd H a (.ins C dx (ϣ f y fs))) s'->Q () s'):Ç (É X.prog X.w) A (setAttr (.ref a) f u) Q E s:=by
 obtain⟨mA,O,r,wi,_,ho⟩:=sm I.hok e;have hz:(fs.map (·.1)).length<=sizeLine:=by rw[Ŏ,Ϯ];lia
 refine En I.fv O c.sa c.po n.taker c.hd wi hz λh' O' sb=>h _ ?_;have hd:∃o,h'.get? dx=some o:=let ⟨o,_,_,e',_⟩:=O'.ns;⟨o,e'⟩;refine I.write (x:=a) (e:=dx) (by rw[e];exact True.intro) (.inr ho) (λb q hb z=>(sb.2 b hb).trans z) hd ?_;refine⟨by rw[Ö O.ne];exact ho,?_,O.ne,O'.obj,_,O'.ns,λg=>?_,λg hg=>?_⟩
 ·have:=fJ f y fs;lia
 ·show jT ((ϣ f y fs).lookup g) (if g=f then some u else mA g);rw[fH];by_cases q:g=f
  ·rw[if_pos q,if_pos q];exact ry
  ·rw[if_neg q,if_neg q];exact r g
 ·by_cases q:g=f
  ·rw[q];exact(jW f y fs).1
  ·refine(jW f y fs).2 g (wi g λz=>hg ?_);show(if g=f then some u else mA g)=none;rw[if_neg q];exact z
def Inv.made(I:Inv X Ã Z H s):Inv X Ã Z (upd (upd H s.heap.objs.size (.own (s.heap.objs.size+1))) (s.heap.objs.size+1) (.ins C s.heap.objs.size []))
 {s with heap:=(s.heap.push aV).push (bS C s.heap.objs.size)}:=by
 have e1:(s.heap.push aV).get? s.heap.objs.size=some aV:=ļ s.heap rfl;have e2:((s.heap.push aV).push (bS C s.heap.objs.size)).get? (s.heap.objs.size+1)=some (bS C s.heap.objs.size):=by
  have:=ļ (s.heap.push aV) (o:=bS C s.heap.objs.size) rfl
  rwa [aT] at this
 have e3:(s.heap.push aV).Ns s.heap.objs.size (λ_=>none):=⟨aV,#[],_,e1,rfl,(λe he=>absurd he (by simp)),λ_=>rfl⟩;have I1:=I.laid (a:=s.heap.objs.size) (o:=.own (s.heap.objs.size+1)) (h':=s.heap.push aV) (t':=s.toks) (λb u q=>ô _ q) (â _) ⟨_,e1⟩;refine I1.laid (a:=s.heap.objs.size+1) (o:=.ins C s.heap.objs.size []) (t':=s.toks) (λb u q=>ô _ q) (qI (aT _ _)) ?_;have ne:s.heap.objs.size≠s.heap.objs.size+1:=Ĥ (qJ _);refine⟨by rw[Ö ne,Ü],Ÿ _,ne,e2,λ_=>none,(yC e3).at λo q=>ô _ q,λ_=>True.intro,λy hy=>absurd rfl hy⟩
def Eo{prog:Ù}{w:Ô}{env:Env}{e:Å}{f:Str}{pos:Pos}{s:Â}{Q:Á->Â->Prop}(hb:ϯ e f env (eval e env)=eval e env)
 (h:Ç (É prog w) A (eval e env) (λo s₁=>Ç (É prog w) A (getAttr o f true) Q E s₁) E s):Ç (É prog w) A (eval (.Attribute e f pos) env) Q E s:=
 Attribute_any_ h (by rw[arm_eval_Attribute,hb])
end
def Sg(K:Æ)(ta:TE)(f:Str):TE:=λZ H Q=>ta Z H λx H1=>∃a C dx fs v,x=.ref a/\H1 a=some (.ins C dx fs)/\jS K C/\ĉ K C f/\fs.lookup f=some v/\Q v H1
def Sh(K:Æ)(ta tv:TE)(f:Str):TS:=λD Z H=>tv Z H λy H1=>ta Z H1 λx H2=>∃a C dx fs,x=.ref a/\H2 a=some (.ins C dx fs)/\jS K C/\ĉ K C f/\fs.length<1000/\
 D.nx Z (upd H2 a (.ins C dx (ϣ f y fs)))
section
variable{X:Cx}{o e value:Å}{f:Str}{pos aa:Pos}{ta tv:TE}
def JS(he:PE X e ta)(hb:ϯ e f X.env (eval e X.env)=eval e X.env):PE X (.Attribute e f pos) (Sg X.K ta f):=by intro Ã s Z H Q I h;refine Eo hb (ň (he Ã s Z H _ I h) λu s1 ⟨x,H1,I1,rx,a,C,dx,fs,v,ex,ea,c,n,l,q⟩=>?_);subst ex;obtain rfl:u=ć a:=rx;exact wv I1 ea c n l λu' s2 I2 ru=>⟨v,H1,I2,ru,q⟩
def JT(ha:PE X o ta)(hv:PE X value tv)(hs:Ĳ value (some (.Attribute o f aa)) pos.line X.env=pure false):PS X (.Assign [.Attribute o f aa] value pos) (Sh X.K ta tv f):=by intro Ã s Z H D I h;refine yi (ň (hv Ã s Z H _ I h) λu s1 ⟨y,H1,I1,ry,q⟩=>ň (ha Ã s1 Z H1 _ I1 q) λov s2 ⟨x,H2,I2,rx,a,C,dx,fs,ex,ea,c,n,l,q2⟩=>?_) hs;subst ex;obtain rfl:ov=ć a:=rx;exact ww I2 ea c n l ry λs3 I3=>⟨Z,_,I3,q2⟩
end
section
end
structure Ń(k:Nat)(A:Ú):Prop where
 hd:A.handled=none
 dp:A.depth+3*k+5<qP
 un:A.units+16*k+200<ź
def Ń.mono{j k:Nat}{A:Ú}(r:Ń k A)(h:j<=k):Ń j A:=⟨r.hd,by have:=r.dp;lia,by have:=r.un;lia⟩
def Ń.mo{j k:Nat}{A:Ú}(r:Ń k A)(h:j<=k:= by decide):Ń j A:= r.mono h
theorem Ń.deeper{k:Nat}{A:Ú}(r:Ń (k+1) A)(env:Env):Ń k (A.deeper env):=
 ⟨r.hd,by have:=r.dp;show A.depth+1+3*k+5<_;lia,by have:=r.un;show A.units+3+16*k+200<_;lia⟩
def wx{A:Ú}{C:À}{us:List Á}{kw:List (Str×Á)}:(A.under (.builtin "type.__call__" ⟨.ref C::us,kw⟩)).depth=A.depth+1:=by first|rfl|simp[qU,Code.weight,Code.isCreation,Code.isGuard,Code.isCaller,Code.frames,qY,guardIds]
def wy{A:Ú}{C:À}{us:List Á}{kw:List (Str×Á)}:(A.under (.builtin "type.__call__" ⟨.ref C::us,kw⟩)).units=A.units+1:=by first|rfl|simp[qU,Code.cUnits,Code.frames,qY]
def Ń.make{k:Nat}{A:Ú}(r:Ń (k+1) A)(C:À)(us:List Á)(kw:List (Str×Á)):Ń k (A.under (.builtin "type.__call__" ⟨.ref C::us,kw⟩)):=
 ⟨r.hd,by have:=r.dp;rw[wx];lia,by have:=r.un;rw[wy];lia⟩
theorem Ń.depth{k:Nat}{A:Ú}(r:Ń k A):A.depth<qP:=by have:=r.dp;lia
theorem Ń.units{k:Nat}{A:Ú}(r:Ń k A):A.units+64<ź:=by have:=r.un;lia
def Ba:TA:=λ_ H Q=>Q [] H
def Bb(ta:TE)(tr:TA):TA:=λZ H Q=>ta Z H λx H1=>tr Z H1 λxs H2=>Q (x::xs) H2
section
variable{X:Cx}{e:Å}{es:List Å}{te:TE}{t:TA}{pos:Pos}
def aI:PA X [] Ba:=λ_ _ _ _ H Q I h=>Calls.spliced_nil ⟨[],H,I,.nil,h⟩
def Š(ha:PE X e te)(hr:PA X es t)(hs:È (e::es) X.env=(false,eval e X.env)::È es X.env:=by rfl):PA X (e::es) (Bb te t):=by intro pos Ã s Z H Q I h;rw[hs];show Ç _ _ (spliced ((false,eval e X.env)::ñ pos (È es X.env))) _ _ s;refine qX (ň (ha Ã s Z H _ I h) λu s1 ⟨x,H1,I1,r1,q1⟩=>?_);exact ň (hr pos Ã s1 Z H1 _ I1 q1) λus s2 ⟨xs,H2,I2,r2,q2⟩=>⟨x::xs,H2,I2,.cons r1 r2,q2⟩
def Si(t:TA):TE:=λZ H Q=>t Z H λxs H1=>xs.length<=sizeLine/\∀p,H1 p=none->Q (.ref p) (upd H1 p (.tup xs))
def JU(t:TA):TE:=λZ H Q=>t Z H λxs H1=>xs.length<=sizeLine/\∀p,H1 p=none->Q (.ref p) (upd H1 p (.lst xs))
def Bc{x1}(h:PA X es t):PE X (.Tuple es x1 pos) (Si t):=by intro Ã s Z H Q I hq;refine wpAny_Tuple_spliced (ň (h pos Ã s Z H _ I hq) λus s1 ⟨xs,H1,I1,r,z,q⟩=>⟨by rw[<-r.length];exact z,?_⟩);have hf:H1 s1.heap.objs.size=none:=I1.hok.fresh (â _);refine⟨.ref s1.heap.objs.size,upd H1 s1.heap.objs.size (.tup xs),I1.laid (t':=s1.toks) (λb u e=>ô _ e) (â _) ?_,rfl,q _ hf⟩;exact⟨z,us,r,⟨_,ļ _ rfl,rfl,_,rfl⟩⟩
def wz(h:PA X es t):PE X (.List es pos) (JU t):=by intro Ã s Z H Q I hq;refine wpAny_List_spliced (ň (h pos Ã s Z H _ I hq) λus s1 ⟨xs,H1,I1,r,z,q⟩=>⟨by rw[<-r.length];exact z,?_⟩);have hf:H1 s1.heap.objs.size=none:=I1.hok.fresh (â _);refine⟨.ref s1.heap.objs.size,upd H1 s1.heap.objs.size (.lst xs),I1.laid (t':=s1.toks) (λb u e=>ô _ e) (â _) ?_,rfl,q _ hf⟩;exact⟨z,us,0,r,ļ _ rfl⟩
end
abbrev Sp:=List V->Hp->VK->XK->Prop
abbrev dh:=List Env->Hp->Â->XK->Á->Â->Prop
structure oM(P:Ù)(w:Ô)(K:Æ)(mg:Str->Option Á)(base:Ë)(A:Ú)(outer:List Env)(s:Â)(H:Hp):Prop where
 frames:A.frames=some outer
 mod:Mod K mg base
 bs:∀b o,base.get? b=some o->s.heap.get? b=some o/\H b=none
 yJ:base.objs.size<=s.heap.objs.size
 fE:s.heap.FunFrames base outer
 AV:∀b∈fA outer,H b=none
 hok:dg P w H s.heap
 bare:aO s.gens
 tb:ut K mg base H
def CE(outer:List Env)(P:Ù)(w:Ô)(H:Hp)(s:Â)(Q:VK)(u:Á)(s':Â):Prop:=
 ∃v H',s'.os=s.os/\aO s'.gens/\Un (fA outer) [] H H' s.heap s'.heap/\dg P w H' s'.heap/\RelV v u/\Q v H'
def CR(CX:dh)(outer:List Env)(P:Ù)(w:Ô)(H:Hp)(s:Â)(Q:VK)(E:XK)(r:Result)(s':Â):Prop:=
 match r with
 | .ok (.ret u)=>CE outer P w H s Q u s'
 | .ok _=>False
 | .error e=>CX outer H s E e s'
structure Ď(P:Ù)(w:Ô)(K:Æ)(mg:Str->Option Á)(base:Ë)(CX:dh)(k:Nat)(f:À)(fd:ú)(ps:List Str)(sp:Sp):Prop where
 len:∀vs H Q E,sp vs H Q E->vs.length=ps.length
 run:∀(A:Ú) (outer:List Env) (s:Â) (H:Hp) (args:Args) (us:List Á) (vs:List V) (Q:VK) (E:XK),Ń k A->oM P w K mg base A outer s H->aR s fd args (ps.zip us)->ġ vs us->sp vs H Q E->
  ϕ (É P w) A (.call (.ref f) args) (CR CX outer P w H s Q E) s
theorem Ď.mono{P:Ù}{w:Ô}{K:Æ}{mg:Str->Option Á}{base:Ë}{CX:dh}{j k:Nat}{f:À}{fd:ú}{ps:List Str}{sp:Sp}(F:Ď P w K mg base CX j f fd ps sp)(h:j<=k) :
 Ď P w K mg base CX k f fd ps sp:=⟨F.len,λA outer s H args us vs Q E hr=>F.run A outer s H args us vs Q E (hr.mono h)⟩
def Ď.imp{P:Ù}{w:Ô}{K:Æ}{mg:Str->Option Á}{base:Ë}{CX:dh}{k:Nat}{f:À}{fd:ú}{ps:List Str}{sp VA:Sp}(F:Ď P w K mg base CX k f fd ps sp)
 (h:∀vs H Q E,VA vs H Q E->sp vs H Q E):Ď P w K mg base CX k f fd ps VA:=
 ⟨λvs H Q E q=>F.len vs H Q E (h _ _ _ _ q),λA outer s H args us vs Q E hr he hb hv hs=>F.run A outer s H args us vs Q E hr he hb hv (h _ _ _ _ hs)⟩
def oM.make{P:Ù}{w:Ô}{K:Æ}{mg:Str->Option Á}{base:Ë}{A:Ú}{outer:List Env}{s:Â}{H:Hp}(e:oM P w K mg base A outer s H)(C:À)(us:List Á)(kw:List (Str×Á)) :
 oM P w K mg base (A.under (.builtin "type.__call__" ⟨.ref C::us,kw⟩)) outer s H:=⟨by first|exact e.frames|(simpa[qU,Code.envs,qY,pushEnvs] using e.frames),e.mod,e.bs,e.yJ,e.fE,e.AV,e.hok,e.bare,e.tb⟩
section
variable{X:Cx}{Ã:List (À×Obj)}{Z:St}{H:Hp}{s s':Â}
def Inv.env0(I:Inv X Ã Z H s):oM X.prog X.w X.K X.mg X.base X.A X.stack s H:=
 ⟨I.ok.frames,I.ok.mod,I.bs,Ő I.ok.yJ I.sz,I.stack,I.lQ,I.hok,I.bare,I.tb⟩
def Inv.after{Q:VK}{u:Á}(I:Inv X Ã Z H s)(h:CE X.stack X.prog X.w H s Q u s'):EP X Ã Z Q u s':=by obtain⟨v,H',os,bare,un,hok,r,q⟩:=h;obtain⟨hh,g,d,t,os'⟩:=s';obtain rfl:os'=s.os:=os;exact⟨v,H',I.call (h':=hh) (g':=g) (d':=d) (t':=t) (ch:=[]) un hok bare (λb z=>absurd z (by simp)),r,q⟩
end
def Binds(K:Æ)(fd:ú)(ps:List Str)(ds:List Á):Prop:=
 ∀(s:Â) (us:List Á),K.In s.heap->(us++ds).length=ps.length->aR s fd ⟨us,[]⟩ (ps.zip (us++ds))
def Binds.all{K:Æ}{fd:ú}{ps:List Str}(h:∀us:List Á,us.length=ps.length->bindArgs fd ⟨us,[]⟩=pure (ps.zip us)):Binds K fd ps []:=λs us _ hl=>by rw[ϩ] at hl ⊢;exact .of_eq (h us hl)
section
variable{f C:À}
structure Mk(K:Æ)(C f:À):Prop where
 makes:rP K C=true
 init:Ĩ K (.ref C) "__init__" =some (some (.ref f))
 fn:jf K (.ref f)=true
 kp:Ō K (.ref C)=true
end
section
end
structure Ý(N P:List Str)(sc:ë):Prop where
 kind:sc.kind=.function
 co:sc.isCoroutine=false
 gen:sc.isGenerator=false
 nd:N.Nodup
 pre:N.take P.length=P
 par:∀x∈P,sc.names.lookup x=some .local\/sc.names.lookup x=some .cell
 JV:∀y∈sc.names,y.2≠ .free
theorem pC{kindOf:Str->Option ϰ}{x:Str}:∀{binds:List (Str×Á)} {m:Str->Option Á},(∀v,(x,v)∉binds)->bindL kindOf binds m x=m x
 | [],_,_=>rfl
 |(n,v)::r,m,h=>by
  unfold bindL;rw[pC λw hw=>h w (ù _ hw)];split
  ·have:x≠n:=by rintro rfl;exact h v ŧ
   simp[this]
  ·rfl
theorem pE{kindOf:Str->Option ϰ}{x:Str}:∀{binds:List (Str×Á)} {m:Str->Option Á},(∀v,(x,v)∉binds)->bindC kindOf binds m x=m x
 | [],_,_=>rfl
 |(n,v)::r,m,h=>by
  unfold bindC;rw[pE λw hw=>h w (ù _ hw)];split
  ·rfl
  ·have:x≠n:=by rintro rfl;exact h v ŧ
   simp[this]
theorem pF{kindOf:Str->Option ϰ}{x:Str}{v:Á}:∀{P:List Str} {vs:List Á} {i:Nat} {m:Str->Option Á},P.Nodup->P[i]?=some x->vs[i]?=some v->kindOf x=some .local->
 bindL kindOf (P.zip vs) m x=some v
 | [],_,_,_,_,h,_,_=>by simp at h
 |_::_,[],_,_,_,_,h,_=>by simp at h
 |p::P,w::vs,0,m,nd,h1,h2,hk=>by simp at h1 h2;subst h1;subst h2;show bindL kindOf ((p,w)::P.zip vs) m p=_;unfold bindL;rw[pC λv hv=>(bJ.mp nd).1 (iF hv).1,if_pos hk];simp
 |p::P,w::vs,i+1,m,nd,h1,h2,hk=>by show bindL kindOf ((p,w)::P.zip vs) m x=_;unfold bindL;exact pF (i:=i) (bJ.mp nd).2 (by simpa using h1) (by simpa using h2) hk
theorem pG{kindOf:Str->Option ϰ}{x:Str}{v:Á}:∀{P:List Str} {vs:List Á} {i:Nat} {m:Str->Option Á},P.Nodup->P[i]?=some x->vs[i]?=some v->kindOf x≠some .local->
 bindC kindOf (P.zip vs) m x=some v
 | [],_,_,_,_,h,_,_=>by simp at h
 |_::_,[],_,_,_,_,h,_=>by simp at h
 |p::P,w::vs,0,m,nd,h1,h2,hk=>by simp at h1 h2;subst h1;subst h2;show bindC kindOf ((p,w)::P.zip vs) m p=_;unfold bindC;rw[pE λv hv=>(bJ.mp nd).1 (iF hv).1,if_neg hk];simp
 |p::P,w::vs,i+1,m,nd,h1,h2,hk=>by show bindC kindOf ((p,w)::P.zip vs) m x=_;unfold bindC;exact pG (i:=i) (bJ.mp nd).2 (by simpa using h1) (by simpa using h2) hk
def start(N:List Str)(vs:List V):St:=vs.map some++Ñ (N.length-vs.length) none
noncomputable def Ň(CX:dh)(P:Ù)(w:Ô)(K:Æ)(mg:Str->Option Á)(base:Ë)(N:List Str)(ç:Str)(scope:ë)(f:À)(cd:Á)(A:Ú)(outer:List Env)(s:Â)(H:Hp)(E:XK):Cx where
 prog:=P
 w:=w
 K:=K
 mg:=mg
 base:=base
 A:=A.deeper (ê ç scope s.heap.objs.size f cd)
 N:=N
 s₀:= s
 H₀:= H
 env:=ê ç scope s.heap.objs.size f cd
 outer:=outer
 stack:=ê ç scope s.heap.objs.size f cd::outer
 ex:=[]
 calm:=true
 fn:=λ_=>true
 pn:=[]
 xe:=λe s'=>Ç (É P w) (A.deeper (ê ç scope s.heap.objs.size f cd)) (dU (ê ç scope s.heap.objs.size f cd) e) (λ_ UR=>CX outer H s E e UR) (λe' UR=>CX outer H s E e' UR) s'
def ji{sc:ë}{n:Nat}{x:Str}(h:sc.names.lookup x=some .cell):∃c,(ĥ n sc.names []).lookup x=some c:=by have q:=lN sc.names n [] (.inl h);exact Option.isSome_iff_exists.mp q
def jX{CX:dh}{P:Ù}{w:Ô}{K:Æ}{mg:Str->Option Á}{base:Ë}{N ps:List Str}{ç:Str}{scope:ë}{f:À}{cd:Á}{A:Ú}{outer:List Env}{s s1:Â}{H:Hp}{E:XK}{us:List Á}{vs:List V}
 (S:Ý N ps scope)(hd:A.handled=none)(e0:oM P w K mg base A outer s H)(hl:vs.length=ps.length)(r:ġ vs us)
 (x:InCallC s s.heap.objs.size (bindL (ê ç scope s.heap.objs.size f cd).kindOf (ps.zip us) λ_=>none) (ĥ (s.heap.objs.size+1) scope.names []) (bindC (ê ç scope s.heap.objs.size f cd).kindOf (ps.zip us) λ_=>none) s1) :
 Inv (Ň CX P w K mg base N ç scope f cd A outer s H E) [] (start N vs) H s1:=by
 have hpl:ps.length<=N.length:=by have:=congrArg aN S.pre;rw[lw] at this;lia
 obtain⟨h1,tk,rfl,hk⟩:=x.done;have NP:∀b:À,b∉(Ň CX P w K mg base N ç scope f cd A outer s H E).ex:=λb z=>absurd (show b∈([]:List À) from z) (by simp);refine⟨⟨e0.mod,S.kind,rfl,rfl,â _,λy z c h1 h2=>?_,λy hy=>?_,λy c _ h=>?_,λ_=>hd,Around.frames_deeper e0.frames,.inr ⟨rfl,rfl⟩,λb z=>absurd z (NP b),e0.bs,e0.yJ,λb _ _=>NP b,λb z=>absurd z (NP b),e0.fE,e0.AV,e0.tb⟩,
  rfl,e0.bare,Un.kept hk,⟨_,x.toInCall.ns,λi y v h1 h2 h3=>?_⟩,λy c h=>⟨_,x.cell y c h⟩,e0.hok.fresh (â _),λy c h=>?_,λp hp=>absurd (show p∈([]:List (À×Obj)) from hp) (by simp),e0.hok.kept hk,?_⟩
 ·exact name_of_addr x.apart (iQ h1) (iQ h2)
 ·have hy:scope.names.lookup y=some .cell\/scope.names.lookup y=some .free:=hy;rcases hy with hy|hy
  ·exact ji hy
  ·exact absurd rfl (S.JV _ (iQ hy))
 ·exact iH (x.above y c (iQ h))
 ·have hi:i<vs.length:=by
   unfold start at h2;by_cases hi:i<vs.length
   ·exact hi
   ·rw[dP (by simpa using hi)] at h2;rw[cw] at h2;split at h2<;>cases h2
  have ha:vs[i]?=some v:=by
   unfold start at h2;rw[Ϫ (by simpa using hi),ķ] at h2;cases e:vs[i]? with
   |none=>rw[e] at h2;cases h2
   |some a=>rw[e] at h2;cases h2;rfl
  obtain⟨u,hu,rv⟩:=r.get ha;have hp:ps[i]?=some y:=by rw[<-S.pre,List.getElem?_take_of_lt (by lia)];exact h1
  have VB:ps.Nodup:=by rw[<-S.pre];exact S.nd.sublist (List.take_sublist _ _)
  refine⟨u,rv,?_⟩;rcases S.par y (lx hp) with k|k
  ·exact .inl ⟨k,pF VB hp hu k⟩
  ·obtain⟨c,e⟩:=ji (n:=s.heap.objs.size+1) k;refine .inr ⟨.inl k,c,e,?_⟩;have q:=x.cell y c e;rw[pG VB hp hu (by show scope.names.lookup y≠_;rw[k];decide)] at q;exact q
 ·exact e0.hok.fresh (iH (x.above y c (iQ h)))
 ·unfold start;show _=N.length;rw[ϫ,Ŏ,List.length_replicate];lia
def uD{CX:dh}{P:Ù}{w:Ô}{K:Æ}{mg:Str->Option Á}{base:Ë}{k:Nat}{f:À}{name ç:Str}{params:aS}{body:List Ï}{scope:ë}{dV kV iu pm ğ ct oc:Á}{an od:Option À}
 {oJ:Array (Option Á)}{N ps:List Str}{sp:Sp}(lk:K.lookup f=some ⟨oc,od,.func (ş name ç params body scope dV kV iu pm an ğ ct),oJ⟩)(cZ:ei K ğ ç=true)(S:Ý N ps scope)
 (len:∀vs H Q E,sp vs H Q E->vs.length=ps.length)
 (ϧ:∀(A:Ú) (outer:List Env) (s:Â) (H:Hp) (vs:List V) (Q:VK) (E:XK),Ń k (A.deeper (ê ç scope s.heap.objs.size f ğ))→sp vs H Q E→
   ∃t,Ϡ (Ň CX P w K mg base N ç scope f ğ A outer s H E) body t/\t {nx:=λ_ H'=>Q .non H',rt:=Q} (start N vs) H) :
 Ď P w K mg base CX (k+1) f (ş name ç params body scope dV kV iu pm an ğ ct) ps sp:=by
 refine⟨len,λA outer s H args us vs Q E hr e0 hb r pq=>?_⟩;have hl:=len _ _ _ _ pq;have KX:K.In s.heap:=e0.mod.AT.keeps λb o e=>(e0.bs b o e).1;have Qd:s.heap.NoLimit:=e0.mod.nolimit.keeps λb o e=>(e0.bs b o e).1;have vW:∀y∈ps.zip us,scope.names.lookup y.1=some .local\/(scope.names.lookup y.1=some .cell/\((ĥ (s.heap.objs.size+1) scope.names []).lookup y.1).isSome=true):=λ⟨n,v⟩ hy=>by
  rcases S.par n (iF hy).1 with q|q
  ·exact .inl q
  ·exact .inr ⟨q,lN _ _ _ (.inl q)⟩
 refine qQ hr.depth (KX _ _ lk) rfl S.co S.gen rfl (rS KX cZ) (hb _ _ _ _ ?_);refine qR S.kind vW λenv he s1 x=>?_;subst he;refine⟨Qd.keeps x.toInCall.keep,codeAny_func ?_⟩;obtain⟨t,ht,hq⟩:=ϧ A outer s H vs Q E (hr.deeper _) pq;have I:Inv (Ň CX P w K mg base N ç scope f ğ A outer s H E) [] (start N vs) H s1:=jX S hr.hd e0 hl r x;refine ı (ht [] s1 (start N vs) H _ I hq) (λfl s' hs=>?_) λe s' hs=>hs;have gR:∀{Z':St} {H':Hp} {v:V} {u:Á},Inv (Ň CX P w K mg base N ç scope f ğ A outer s H E) [] Z' H' s'->RelV v u->Q v H'->CE outer P w H s Q u s':=
  fun{Z' H' v u} J rv q=>⟨v,H',J.os,J.bare,J.base,J.hok,rv,q⟩
 cases fl with
 |ret u=>obtain⟨v,Z',H',J,rv,q⟩:=hs;exact gR J rv q
 |next=>obtain⟨Z',H',J,q⟩:=hs;exact gR (v:=V.non) (u:=Value.none) J rfl q
 |brk=>obtain⟨_,_,_,q⟩:=hs;exact ě q
 |cont=>obtain⟨_,_,_,q⟩:=hs;exact ě q
section
variable{X:Cx}{x:Str}{p pos:Pos}{e:Å}{es:List Å}{t:TA}{id T:String}{r:List V->Hp->VK->Prop}
def QG(r:List V->Hp->VK->Prop)(t:TA):TE:=λZ H Q=>t Z H λvs H1=>r vs H1 Q
def mE(hc:ū X (.builtin id) r)(hg:Gl X x)(hm:X.mg x=none)(hv:cB x=some (.builtin id))(ha:PA X (e::es) t)(hn:x≠ "__name__" := by decide)(gc:(x== ("__debug__" :Str))=false:=by decide)
 (he:È (e::es) X.env=(false,eval e X.env)::È es X.env:=by rfl)(hpl:(ñ pos (È es X.env)).any (·.1)=false:=by rfl):PE X (.Call (.Name x p) (e::es) [] pos) (QG r t):=by
 intro Ã s Z H Q I h;refine bM (sf I hg hm hv ?_ hn gc);exact PyProof.Rows.callWith_builtin1 (ň (ha pos Ã s Z H _ I h) λus s1 ⟨vs,H1,I1,r1,q1⟩=>hc Ã s1 Z H1 vs us Q I1 r1 q1) he hpl
def pH(hc:ū X (.type T) r)(hg:Gl X x)(hm:X.mg x=none)(hv:cB x=some (.type T))(ha:PA X (e::es) t)(hn:x≠ "__name__" := by decide)(gc:(x== ("__debug__" :Str))=false:=by decide)
 (he:È (e::es) X.env=(false,eval e X.env)::È es X.env:=by rfl)(hpl:(ñ pos (È es X.env)).any (·.1)=false:=by rfl):PE X (.Call (.Name x p) (e::es) [] pos) (QG r t):=by
 intro Ã s Z H Q I h;refine bM (sf I hg hm hv ?_ hn gc);exact yf (ň (ha pos Ã s Z H _ I h) λus s1 ⟨vs,H1,I1,r1,q1⟩=>hc Ã s1 Z H1 vs us Q I1 r1 q1) he hpl
end
end L2
namespace HT
open PySem PyProof.Rows
section
open PySem.SeqAt
open PySem.AutoSeq1 (wpAny_loadPart')
open PySem.MeetsSeq PySem.MeetsSeq2 PySem.MeetsSeq3
end
section
noncomputable def gC(n d:Nat):Option Int->Nat
 |none=>d
 |some v=>if v<0 then(v+(n:Int)).toNat else min v.toNat n
def uE(n d:Nat):gC n d none=d:=rfl
def yP(n d k:Nat):gC n d (some (k:Int))=min k n:=by show(if(k:Int)<0 then((k:Int)+(n:Int)).toNat else min (k:Int).toNat n)=min k n;rw[if_neg (by lia),Int.toNat_natCast]
def Bd(n d:Nat)(hd:d<=n)(o:Option Int):gC n d o<=n:=by
 cases o with
 |none=>exact hd
 |some v=>
  show(if v<0 then(v+(n:Int)).toNat else min v.toNat n)<=n;by_cases hv:v<0
  ·rw[if_pos hv];lia
  ·rw[if_neg hv];exact Nat.min_le_right _ _
end
end HT
namespace L2
open PySem PySem.Spec PyProof.Rows
abbrev TO:=St->Hp->(Option Int->Hp->Prop)->Prop
def PO(X:Cx)(e:Option Å)(t:TO):Prop:=
 ∀(Ã:List (À×Obj)) (s:Â) (Z:St) (H:Hp) (Q:Option Int->Hp->Prop),Inv X Ã Z H s->t Z H Q->
  Ç (É X.prog X.w) X.A (evalPart e X.env) (λu s'=>∃o H',Inv X Ã Z H' s'/\IsPart u o/\Q o H') X.xe s
def Ep:TO:=λ_ H Q=>Q none H
section
variable{X:Cx}{e:Å}{te:TE}{lo hi:Option Å}{tl th:TO}{pos p2:Pos}
def Er:PO X none Ep:=by intro Ã s Z H Q I h;rw[evalPart_none];exact è ⟨none,H,I,.none,h⟩
def yQ(X:Cx)(r:V->Option Int->Option Int->Hp->VK->Prop):Prop:=
 ∀(Ã:List (À×Obj)) (s:Â) (Z:St) (H:Hp) (x:V) (v vl vu:Á) (lo hi:Option Int) (sl:À) (Q:VK),Inv X Ã Z H s->RelV x v->s.heap.IsSliceOf sl vl vu .none->IsPart vl lo->IsPart vu hi->r x lo hi H Q->
  ∃T id,iR (.type T) "__getitem__" =pure (some (.builtin id))/\s.TypeIs v T/\Ç (É X.prog X.w) X.A (getItem v (.ref sl)) (EP X Ã Z Q) X.xe s
def yQ.or{r r':V->Option Int->Option Int->Hp->VK->Prop}(h:yQ X r)(h':yQ X r'):yQ X (λx lo hi H Q=>r x lo hi H Q\/r' x lo hi H Q):=by
 intro Ã s Z H x v vl vu lo hi sl Q I rx hs pl pu q;rcases q with q|q
 ·exact h Ã s Z H x v vl vu lo hi sl Q I rx hs pl pu q
 ·exact h' Ã s Z H x v vl vu lo hi sl Q I rx hs pl pu q
def Xy(r:V->Option Int->Option Int->Hp->VK->Prop)(te:TE)(tl th:TO):TE:=λZ H Q=>te Z H λx H1=>tl Z H1 λl H2=>th Z H2 λu H3=>r x l u H3 Q
def Be{r:V->Option Int->Option Int->Hp->VK->Prop}(hr:yQ X r)(he:PE X e te)(hl:PO X lo tl)(hu:PO X hi th):PE X (.Subscript e (.Slice lo hi none p2) pos) (Xy r te tl th):=by intro Ã s Z H Q I h;refine Subscript_ (ň (he Ã s Z H _ I h) λv s1 ⟨x,H1,I1,r1,q1⟩=>?_);refine wpAny_Slice (ň (hl Ã s1 Z H1 _ I1 q1) λvl s2 ⟨l,H2,I2,pl,q2⟩=>ň (hu Ã s2 Z H2 _ I2 q2) λvu s3 ⟨u,H3,I3,pu,q3⟩=>?_);rw[evalPart_none];refine è ?_;have I4:Inv X Ã Z H3 {s3 with heap:=s3.heap.push {cls:=.type "slice",data:=.fields #[vl,vu,.none]}}:=I3.kept (t':=s3.toks) λb ob q=>ô _ q;obtain⟨T,id,hT,ht,hg⟩:=hr Ã {s3 with heap:=s3.heap.push {cls:=.type "slice",data:=.fields #[vl,vu,.none]}} Z H3 x v vl vu l u s3.heap.objs.size Q I4 r1 (Heap.IsSliceOf.new ..) pl pu q3;show Ç (É X.prog X.w) X.A (subscriptTail e (.Slice lo hi none p2) v (.ref s3.heap.objs.size)) (EP X Ã Z Q) X.xe {s3 with heap:=s3.heap.push {cls:=.type "slice",data:=.fields #[vl,vu,.none]}};exact tail_any (ops:=[.ref s3.heap.objs.size,v]) ht hT hg (by with_unfolding_all rfl)
def uF(xs:List V)(lo hi:Option Int):List V:=(xs.drop (HT.gC xs.length 0 lo)).take (HT.gC xs.length xs.length hi-HT.gC xs.length 0 lo)
def uG(xs:List V)(lo hi:Option Int):(uF xs lo hi).length<=xs.length:=by unfold uF;rw[lw,List.length_drop];lia
end
noncomputable def Ge(n:Nat)(i:Int):Option Nat:=if 0<=i then(if i<n then some i.toNat else none) else if -(n:Int)<=i then some (i+n).toNat else none
def mF{α:Type}(xs:List α)(i:Int):Option α:= (Ge xs.length i).bind λj=>xs[j]?
def Es{n:Nat}{i:Int}{j:Nat}(h:Ge n i=some j):seqIndex? i n=some j/\j<n/\ -(n:Int)<=i/\i<n:=by
 unfold Ge at h;by_cases h0:0<=i
 ·rw[if_pos h0] at h;by_cases h1:i<n
  ·rw[if_pos h1] at h;have e:i.toNat=j:=Ŋ h;exact⟨by rw[seqIndex_of h0 h1,e],by lia,by lia,h1⟩
  ·rw[if_neg h1] at h;cases h
 ·rw[if_neg h0] at h;by_cases h1: -(n:Int)<=i
  ·rw[if_pos h1] at h;have e:(i+n).toNat=j:=Ŋ h;exact⟨by rw[seqIndex_neg (by lia) h1,e],by lia,h1,by lia⟩
  ·rw[if_neg h1] at h;cases h
def sq{α:Type}{xs:List α}{i:Int}{v:α}(h:mF xs i=some v):∃j,seqIndex? i xs.length=some j/\xs[j]?=some v/\j<xs.length/\ -(xs.length:Int)<=i/\i<xs.length:=by
 unfold mF at h;cases e:Ge xs.length i with
 |none=>rw[e] at h;cases h
 |some j=>rw[e] at h;obtain⟨h1,h2,h3,h4⟩:=Es e;exact⟨j,h1,h,h2,h3,h4⟩
def lR(b:Å):Prop:=∀o i,subscripted b false o i=operate [o,i] (getItem o i)
def wb(X:Cx)(r:R2):Prop:=
 ∀(value slice:Å) (Ã:List (À×Obj)) (s:Â) (Z:St) (H:Hp) (x y:V) (v u:Á) (Q:VK),Inv X Ã Z H s->RelV x v->RelV y u->r x y H Q->
  subscripted slice false v u=operate [v,u] (getItem v u)->Ç (É X.prog X.w) X.A (subscriptTail value slice v u) (EP X Ã Z Q) X.xe s
def Ni(X:Cx)(id:String)(r:V->List V->Hp->VK->Prop):Prop:=
 ∀(Ã:List (À×Obj)) (s:Â) (Z:St) (H:Hp) (x:V) (xs:List V) (v:Á) (us:List Á) (Q:VK),Inv X Ã Z H s->RelV x v->ġ xs us->r x xs H Q->
  Ç (É X.prog X.w) X.A (call (.builtin id) (v::us)) (EP X Ã Z Q) X.xe s
section
variable{X:Cx}{a b:Å}{ta tb:TE}{pos:Pos}
def wb.or{r r':R2}(h:wb X r)(h':wb X r'):wb X (λx y H Q=>r x y H Q\/r' x y H Q):=by
 intro value slice Ã s Z H x y v u Q I rx ry q hs;rcases q with q|q
 ·exact h value slice Ã s Z H x y v u Q I rx ry q hs
 ·exact h' value slice Ã s Z H x y v u Q I rx ry q hs
def Bf{r:R2}(hr:wb X r)(ha:PE X a ta)(hb:PE X b tb)(hs:lR b):PE X (.Subscript a b pos) (Ei r ta tb):=by intro Ã s Z H Q I h;exact Subscript_ (JK ha hb I h λv u s2 x y H2 I2 rx ry q=>hr a b Ã s2 Z H2 x y v u Q I2 rx ry q (hs _ _))
def NQ(K:Æ):R2:=λx y H Q=>∃p xs i v,x=.ref p/\y=.int i/\ϐ K H p xs/\mF xs i=some v/\Q v H
def NT(K:Æ):R2:=λx y H Q=>∃p xs i v,x=.ref p/\y=.int i/\dJ K H p xs/\mF xs i=some v/\Q v H
def NU:R2:=λx y H Q=>∃z i c,x=.str z/\y=.int i/\z.length<=sizeLine/\mF z.cps.toList i=some c/\Q (.str ⟨#[c]⟩) H
def Eu:wb X (NQ X.K):=by
 intro value slice Ã s Z H x y v u Q I rx ry h hs;obtain⟨p,xs,i,z,rfl,rfl,hq,he,q⟩:=h;cases rx;obtain⟨t,rfl⟩:=ry;obtain⟨Ğ,r,pl,hz⟩:=I.list hq;obtain⟨j,h1,h2,h3,h4,h5⟩:=sq he;obtain⟨w,ew,NV⟩:=r.get h2;have hl:=r.length;have hn:=mB;have gR:EP X Ã Z Q w s:=⟨z,H,I,NV,q⟩;by_cases h0:0<=i
 ·have hj:i.toNat=j:=by
   rw[seqIndex_of h0 h5] at h1;exact Ŋ h1
  exact item_listR pl.isList h0 (by lia) (by rw[hj];simpa using ew) gR hs
 ·have hj:(i+(Ğ.toArray.size:Int)).toNat=j:=by
   rw[seqIndex_neg (by lia) h4] at h1;rw[ħ,<-hl];exact Ŋ h1
  exact subscriptTail_builtinR (x:=w) pl.isList.typeIs slot_list_getitem.lookup
   (wpAny_getItem_list_neg (Q:=λr s'=>r=w/\EP X Ã Z Q r s') pl.isList (by lia) (by rw[ħ]<;>lia) (by lia) (by rw[hj];simpa using ew) ⟨rfl,gR⟩) hs
def JW:wb X (NT X.K):=by
 intro value slice Ã s Z H x y v u Q I rx ry h hs;obtain⟨p,xs,i,z,rfl,rfl,hq,he,q⟩:=h;cases rx;obtain⟨t,rfl⟩:=ry;obtain⟨Ğ,r,pl,hz⟩:=I.tuple hq;obtain⟨j,h1,h2,h3,h4,h5⟩:=sq he;obtain⟨w,ew,NV⟩:=r.get h2;have hl:=r.length;have hn:=mB;have gR:EP X Ã Z Q w s:=⟨z,H,I,NV,q⟩;exact subscriptTail_builtinR (x:=w) pl.typeIs slot_tuple_getitem.lookup
  (getItem_tuple (j:=j) (Q:=λr s'=>r=w/\EP X Ã Z Q r s') pl (by lia) (by lia) (by rw[ħ,<-hl];exact h1) (by simpa using ew) ⟨rfl,gR⟩) hs
def JX:wb X NU:=by
 intro value slice Ã s Z H x y v u Q I rx ry h hs;obtain⟨z,i,c,rfl,rfl,hz,he,q⟩:=h;obtain⟨t,rfl⟩:=rx;obtain⟨t',rfl⟩:=ry;obtain⟨j,h1,h2,h3,h4,h5⟩:=sq he;have hl:z.cps.toList.length=z.length:=by simp[Ϙ]
 rw[hl] at h1 h4 h5;have hn:=mB;exact tail_any (dW s z t) slot_str_getitem.lookup (getItem_str (c:=c) (by
  have e1:decide (i < -(2 ^ 63:Int))=false:=decide_eq_false (by lia);have e2:decide (i >= 2 ^ 63)=false:=decide_eq_false (by lia);rw[e1,e2,qv]) (by rw[h1];simpa using h2) ⟨.str ⟨#[c]⟩,H,I.tok _,⟨_,rfl⟩,q⟩) hs
def Sj(K:Æ):R2:=λx y H Q=>NQ K x y H Q\/NT K x y H Q\/NU x y H Q
def wA:wb X (Sj X.K):=Eu.or (JW.or JX)
def sr(lo hi:Option Int)(n:Nat):(dX lo hi none n).1=((HT.gC n 0 lo:Nat):Int)/\(dX lo hi none n).2.1=((HT.gC n n hi:Nat):Int)/\(dX lo hi none n).2.2=1:=by
 refine⟨?_,?_,rfl⟩
 ·cases lo with
  |none=>simp[dX,HT.gC]
  |some i=>
   simp only[dX,HT.gC,Option.getD_none,show(1:Int)>0 by decide,if_true];by_cases h:i<0
   ·simp only[h,if_true]<;>lia
   ·simp only[h,if_false]<;>lia
 ·cases hi with
  |none=>simp[dX,HT.gC]
  |some i=>
   simp only[dX,HT.gC,Option.getD_none,show(1:Int)>0 by decide,if_true];by_cases h:i<0
   ·simp only[h,if_true]<;>lia
   ·simp only[h,if_false]<;>lia
def oN(Ğ:List Á)(lo hi:Option Int):slicePick Ğ.toArray lo hi none=((Ğ.drop (HT.gC Ğ.length 0 lo)).take (HT.gC Ğ.length Ğ.length hi-HT.gC Ğ.length 0 lo)).toArray:=by obtain⟨h1,h2,h3⟩:=sr lo hi Ğ.toArray.size;unfold slicePick;rw[h1,h2,h3];simp only[sliceRange_one,pick_run,ħ]<;>rfl
def Sk(K:Æ):V->Option Int->Option Int->Hp->VK->Prop:=λx lo hi H Q=>∃a xs,x=.ref a/\ϐ K H a xs/\∀p,H p=none->Q (.ref p) (upd H p (.lst (uF xs lo hi)))
def Ev:yQ X (Sk X.K):=by intro Ã s Z H x v vl vu lo hi sl Q I rx hs pl pu h;obtain⟨a,xs,rfl,hx,q⟩:=h;cases rx;obtain⟨Ğ,r,ht,hz⟩:=I.list hx;have hlen:=r.length;refine⟨"list",_,slot_list_getitem.lookup,ht.isList.typeIs,?_⟩;refine wpAny_getItem_list_slice ht.isList hs pl pu .none (by simp) ?_ (by rw[ħ]<;>lia);rw[oN,<-hlen];refine⟨.ref s.heap.objs.size,_,I.laid (t':=s.toks) (o:=.lst (uF xs lo hi)) (λb ob q=>ô _ q) (â _) ?_,rfl,q _ (I.hok.fresh (â _))⟩;exact⟨Ő (uG xs lo hi) hz,_,0,(r.drop (HT.gC xs.length 0 lo)).take (HT.gC xs.length xs.length hi-HT.gC xs.length 0 lo),ļ _ rfl⟩
def su:ū X (.type "list") (λxs H Q=>∃p ys,xs=[.ref p]/\(ϐ X.K H p ys\/dJ X.K H p ys)/\∀l,H l=none->Q (.ref l) (upd H l (.lst ys))):=by
 intro Ã s Z H xs us Q I r h;obtain⟨p,ys,rfl,hq,q⟩:=h;obtain⟨u,rfl,rx⟩:=vals1 r;cases rx;have gR:∀(Ğ:List Á),ġ ys Ğ->ys.length<=sizeLine->∀(h':Ë) (c':Nat),(∀b o',s.heap.get? b=some o'->h'.get? b=some o')->
  h'.get? s.heap.objs.size=some {cls:=.type "list",dict:=none,data:=.seq Ğ.toArray c',slots:=#[]}->EP X Ã Z Q (.ref s.heap.objs.size) {s with heap:=h'}:=λĞ r' hz h' c' kp e=>
  ⟨.ref s.heap.objs.size,_,I.laid (t':=s.toks) kp (â _) (show Ϣ X.prog X.w _ h' _ (.lst ys) from⟨hz,Ğ,c',r',e⟩),rfl,q _ (I.hok.fresh (â _))⟩
 rcases hq with hq|hq
 ·obtain⟨Ğ,r',pl,hz⟩:=I.list hq;have hlen:=r'.length;obtain⟨o,ho,hc,n,hd⟩:=pl.isList;exact call_list_seq p (.inl rfl) ho hc hd (λh' c' kp e=>gR Ğ r' hz h' c' kp e) (by simp only[ħ]<;>lia)
 ·obtain⟨Ğ,r',pl,hz⟩:=I.tuple hq;have hlen:=r'.length;obtain⟨o,ho,hc,n,hd⟩:=pl;exact call_list_seq p (.inr rfl) ho hc hd (λh' c' kp e=>gR Ğ r' hz h' c' kp e) (by simp only[ħ]<;>lia)
def oO:ū X (.type "tuple") (λxs H Q=>∃p ys,xs=[.ref p]/\((ϐ X.K H p ys/\∀l,H l=none->Q (.ref l) (upd H l (.tup ys)))\/(dJ X.K H p ys/\Q (.ref p) H))):=by
 intro Ã s Z H xs us Q I r h;obtain⟨p,ys,rfl,h⟩:=h;obtain⟨u,rfl,rx⟩:=vals1 r;cases rx;rcases h with⟨hq,q⟩|⟨hq,q⟩
 ·obtain⟨Ğ,r',pl,hz⟩:=I.list hq;have hlen:=r'.length;refine call_tuple_list pl.isList (λh' kp=>?_) (by simp only[ħ]<;>lia);have I1:Inv X Ã Z H {s with heap:=h'}:=I.kept (t':=s.toks) kp;have I2:Inv X Ã Z (upd H h'.objs.size (.tup ys)) {s with heap:=h'.push {cls:=.type "tuple",data:=.seq Ğ.toArray}}:=
   I1.laid (t':=s.toks) (λb o e=>ô _ e) (â _) (show Ϣ X.prog X.w _ _ _ (.tup ys) from⟨hz,Ğ,r',IsTup.new _ _⟩)
  exact⟨.ref h'.objs.size,_,I2,rfl,q _ (I1.hok.fresh (â _))⟩
 ·obtain⟨Ğ,r',pl,hz⟩:=I.tuple hq;exact call_tuple_same pl ⟨.ref p,H,I,rfl,q⟩
def VC(K:Æ)(T:String)(x:V)(H:Hp):Prop:=match x with
 | .str _=>T= "str"
 | .int _=>T= "int"
 | .ref p=>(T= "list" ∧∃xs,ϐ K H p xs)∨(T= "tuple" ∧∃o,K.lookup p=some o∧o.cls=.type "tuple" ∧o.dict=none)∨
     (T= "dict" /\((∃ia,H p=some (.dK ia))\/∃ia,H p=some (.dT ia)))\/(T= "set" /\∃S n,H p=some (.set S n))
 |_=>False
def JY{Ã:List (À×Obj)}{Z:St}{H:Hp}{s:Â}{T:String}{x:V}{v:Á}(I:Inv X Ã Z H s)(r:RelV x v)(ty:VC X.K T x H) :
 s.TypeIs v T/\∀a,v=.ref a->∃ob,s.heap.get? a=some ob/\ob.dict=none:=by
 cases x with
 |str z=>obtain⟨t,rfl⟩:=r;cases(show T= "str" from ty);exact⟨dW s z t,λ_ e=>nomatch e⟩
 |int i=>obtain⟨t,rfl⟩:=r;cases(show T= "int" from ty);exact⟨typeIs_int s i t,λ_ e=>nomatch e⟩
 |ref p=>
  cases r;rcases ty with⟨rfl,xs,hq⟩|⟨rfl,o,hk,hc,hd⟩|⟨rfl,hk⟩|⟨rfl,S,n,hk⟩
  ·obtain⟨Ğ,_,pl,_⟩:=I.list hq;refine⟨pl.isList.typeIs,λa e=>?_⟩;cases e;obtain⟨o,n,e,c,hd,_⟩:=pl;exact⟨o,e,hd⟩
  ·refine⟨⟨o,I.fv p o hk,hc⟩,λa e=>?_⟩;cases e;exact⟨o,I.fv _ o hk,hd⟩
  ·have z:∃o,s.heap.get? p=some o∧o.ExactDict:=by
    rcases hk with⟨ia,hk⟩|⟨ia,hk⟩
    ·obtain⟨_,_,_,_,o,_,_,e,ex,_⟩:=I.hok p _ hk;exact⟨o,e,ex⟩
    ·obtain⟨_,_,_,_,o,_,_,e,ex,_⟩:=I.hok p _ hk;exact⟨o,e,ex⟩
   obtain⟨o,e,ex⟩:=z;refine⟨⟨o,e,ex.1⟩,λa e2=>?_⟩;cases e2;exact⟨o,e,ex.2.1⟩
  ·obtain⟨o,_,_,_,e,ex,_⟩:=I.hok p _ hk;refine⟨⟨o,e,ex.1⟩,λa e2=>?_⟩;cases e2;exact⟨o,e,ex.2.1⟩
 |_=>exact ě ty
def Gf(K:Æ)(T:String)(r:V->List V->Hp->VK->Prop)(to:TE)(t:TA):TE:=λZ H Q=>to Z H λx H1=>VC K T x H1/\t Z H1 λxs H2=>r x xs H2 Q
variable{o e:Å}{es:List Å}{to:TE}{t:TA}{name:Str}{fe Ϩ:Pos}{T id:String}{r:V->List V->Hp->VK->Prop}
def gS(pa:PlainAttrs T)(slot:Slot T name id)(gd:typeOf (.builtin id)=pure (.type "method_descriptor"))(hm:Ni X id r)(ho:PE X o to)(ha:PA X (e::es) t)
 (bq:ϯ o name X.env (eval o X.env)=eval o X.env:=by rfl)
 (ge:((ñ Ϩ (È (e::es) X.env)).all (fun x=>!x.1) && (ϱ Ϩ (ϲ [] X.env)).all (fun x=>x.1.isSome)
   && decide ((e::es).length+([]:List Ł).length+(if([]:List Ł).isEmpty then 0 else 1)<30))=true:=by rfl)
 (br:(fe.endLine== Ϩ.line)=true:=by rfl)(hs:È (e::es) X.env=(false,eval e X.env)::È es X.env:=by rfl)(ff:(ñ Ϩ (È es X.env)).any (·.1)=false:=by rfl) :
 PE X (.Call (.Attribute o name fe) (e::es) [] Ϩ) (Gf X.K T r to t):=by
 intro Ã s Z H Q I h;refine wpAny_Call_method_late bq ge br rfl (ň (ho Ã s Z H _ I h) λv s1 ⟨x,H1,I1,r1,ty,q1⟩=>?_);obtain⟨h1,h2⟩:=JY I1 r1 ty;refine⟨T,id,pa,slot,gd,h1,h2,?_⟩;have hA:=ha Ϩ Ã s1 Z H1 _ I1 q1;rw[hs] at hA ⊢;refine yo (by show(false || (ñ Ϩ (È es X.env)).any (·.1))=false;rw[ff]<;>rfl) (yq ?_);exact ň hA λus s2 ⟨vs,H2,I2,r2,q2⟩=>hm Ã s2 Z H2 x vs v us Q I2 r1 r2 q2
end
def Sm(X:Cx)(id:String)(r:V->List V->Hp->VK->Prop):Prop:=
 ∀(Ã:List (À×Obj)) (s:Â) (Z:St) (H:Hp) (x:V) (xs:List V) (v:Á) (us:List Á) (Q:VK),Inv X Ã Z H s->RelV x v->ġ xs us->r x xs H Q->
  Ç (É X.prog X.w) X.A (call (.builtin id) (v::us)) (EP X Ã Z Q) X.xe s
theorem ġ.one:∀{x:V} {us:List Á},ġ [x] us->∃u,us=[u]/\RelV x u
 |_,_,.cons r .nil=>⟨_,rfl,r⟩
theorem ġ.eraseIdx:∀{xs:List V} {us:List Á} (i:Nat),ġ xs us->ġ (xs.eraseIdx i) (us.eraseIdx i)
 |_,_,_,.nil=>.nil
 |_,_,0,.cons _ t=>t
 |_,_,i+1,.cons r t=>.cons r (ġ.eraseIdx i t)
theorem pI{α:Type}:∀(l:List α) (i:Nat),(l.eraseIdx i).length<=l.length
 | [],_=>â _
 |_::_,0=>iI _
 |_::r,i+1=>Nat.succ_le_succ (pI r i)
section
variable{X:Cx}{Ã:List (À×Obj)}{Z:St}{H:Hp}{s:Â}{l:À}{xs ys:List V}
def Inv.JZ{Ğ its':List Á}{n:Nat}{f:Array Á->Array Á}{t':Nat}(I:Inv X Ã Z H s)(hH:H l=some (.lst xs))
 (e:s.heap.get? l=some {cls:=.type "list",data:=.seq Ğ.toArray n})(hf:f Ğ.toArray=its'.toArray)(hv:ġ ys its')(hz:ys.length<=sizeLine) :
 Inv X Ã Z (upd H l (.lst ys)) {s with heap:=s.heap.update l (Obj.mapSeq f),toks:=t'}:=by
 have q:=PySem.IsL.update e f;rw[hf] at q;refine I.write (x:=l) (e:=l) (by rw[hH];exact trivial) (.inl rfl) (λb' u hb hu=>(bP s.heap (Obj.mapSeq f) (Ć hb)).trans hu) ⟨_,q⟩ ?_;exact⟨hz,its',_,hv,q⟩
def Inv.Sn{Ğ:List Á}{t':Nat}(I:Inv X Ã Z H s)(hv:ġ ys Ğ)(hz:ys.length<=sizeLine) :
 Inv X Ã Z (upd H s.heap.objs.size (.lst ys)) {s with heap:=s.heap.push {cls:=.type "list",data:=.seq Ğ.toArray},toks:=t'}:=
 I.laid (λ_ _ q=>ô _ q) (â _) ⟨hz,Ğ,0,hv,ļ _ rfl⟩
theorem Inv.fresh(I:Inv X Ã Z H s):H s.heap.objs.size=none:=I.hok.fresh (â _)
def Inv.Ew(I:Inv X Ã Z H s)(hH:H l=some (.lst xs)):xs.length<=sizeLine/\∃(Ğ:List Á) (n:Nat),ġ xs Ğ/\xs.length=Ğ.length/\s.heap.get? l=some {cls:=.type "list",data:=.seq Ğ.toArray n}:=by obtain⟨z,Ğ,n,r,e⟩:=I.hok l _ hH;exact⟨z,Ğ,n,r,r.length,e⟩
def Bg{n:Nat}(h:n<=sizeLine):qV n=false:=by unfold qV;exact decide_eq_false (by lia)
end
section
variable{X:Cx}
def gE:V->List V->Hp->VK->Prop:=λx vs H Q=>∃l xs y,x=.ref l/\vs=[y]/\H l=some (.lst xs)/\xs.length<sizeLine/\Q .non (upd H l (.lst (xs ++ [y])))
def aJ:Sm X "list.append" gE:=by intro Ã s Z H x vs v us Q I rx rv h;obtain⟨l,xs,y,rfl,rfl,hH,hz,q⟩:=h;cases rx;obtain⟨u,rfl,ru⟩:=rv.one;obtain⟨z,Ğ,n,r,hl,e⟩:=I.Ew hH;refine gn gx ⟨_,e,rfl⟩ F.entry_list_append (F.args_list_append_2 _ _) (PySem.list_append l Ğ.toArray n u (by rw[ħ];lia)) ⟨e,?_⟩;refine⟨.non,_,I.JZ (its':=Ğ ++ [u]) hH e (by simp) (r.append (.cons ru .nil)) ?_,rfl,q⟩;rw[ϫ,List.length_singleton];lia
def yR:V->List V->Hp->VK->Prop:=λx vs H Q=>∃l b xs zs,x=.ref l/\vs=[.ref b]/\H l=some (.lst xs)/\H b=some (.lst zs)/\xs.length+zs.length<=sizeLine/\Q .non (upd H l (.lst (xs++zs)))
def pJ:Sm X "list.extend" yR:=by
 intro Ã s Z H x vs v us Q I rx rv h;obtain⟨l,b,xs,zs,rfl,rfl,hH,hB,hz,q⟩:=h;cases rx;obtain⟨u,rfl,ru⟩:=rv.one;cases ru;obtain⟨z,Ğ,n,r,hl,e⟩:=I.Ew hH;obtain⟨z2,jQ,n2,r2,iw,e2⟩:=I.Ew hB;have xO:Ğ.toArray.size+jQ.toArray.size<=sizeLine:=by rw[ħ,ħ];lia
 have NW:¬(!Ğ.toArray.isEmpty && qV (Ğ.toArray.size+jQ.toArray.size))=true:=by rw[Bg xO,Bool.and_false];exact bI
 refine gn q_ ⟨_,e,rfl⟩ F.entry_list_extend (F.args_list_extend_2 _ _)
  (AutoSeq1.list_extend_list_list_0 l Ğ.toArray n b jQ.toArray n2 NW (by rw[ħ];lia) (by lia)) ⟨e,e2,?_⟩
 refine⟨.non,_,I.JZ (its':=Ğ++jQ) hH e (by simp) (r.append r2) ?_,rfl,q⟩;rw[ϫ];lia
def Bh:V->List V->Hp->VK->Prop:=λx vs H Q=>∃l xs i k y,x=.ref l/\vs=[.int i]/\H l=some (.lst xs)/\ -(2 ^ 63)<=i/\i<2 ^ 63/\seqIndex? i xs.length=some k/\xs[k]?=some y/\Q y (upd H l (.lst (xs.eraseIdx k)))
def Bi:Sm X "list.pop" Bh:=by
 intro Ã s Z H x vs v us Q I rx rv h;obtain⟨l,xs,i,k,y,rfl,rfl,hH,h1,h2,hk,hy,q⟩:=h;cases rx;obtain⟨u,rfl,ru⟩:=rv.one;obtain⟨t,rfl⟩:=ru;obtain⟨z,Ğ,n,r,hl,e⟩:=I.Ew hH;obtain⟨w,hw,NV⟩:=r.get hy;refine gn F.slot_list_pop ⟨_,e,rfl⟩ F.entry_list_pop (F.args_list_pop_2 _ _)
  (MeetsSeq.list_pop_at l Ğ.toArray n i t k w (fitsIndex_both h1 h2) (by rw[ħ,<-hl];exact hk) (by rw[<-Array.getElem?_toList];exact hw) (by rw[ħ];lia)) ⟨e,?_⟩
 refine⟨y,_,I.JZ (its':=Ğ.eraseIdx k) hH e ?_ (r.eraseIdx k) ?_,NV,q⟩
 ·show Ğ.toArray.eraseIdxIfInBounds k=(Ğ.eraseIdx k).toArray;rw[List.eraseIdxIfInBounds_toArray]
 ·have:=pI xs k;lia
end
section
end
section
end
end L2
namespace VD
open PySem PySem.W PySem.Calls PyProof.Rows
def kU{P:ĺ}{h:Ë}:∀(ns:List Int) (vs:List Á),WellAll P h vs (ns.map WData.int)->IntsAre vs ns:=by
 intro ns
 induction ns with
 |nil=>intro vs w;rw[Ũ] at w;cases w;exact .nil
 |cons n ns ih=>
  intro vs w;rw[á] at w;cases w with
  |cons a b=>cases a;exact .cons _ _ (ih _ b)
def Ai{l:eB}{n:Nat}(hn:l.most=some n){P:ĺ}{h:Ë}{args:List WData}{MU:List Á}
 (FT:l.row.toRowW.claim.pre args=true)(US:WellAll P h MU args) :
 ∃a vs ns,MU=[ć a]/\args=[WData.list (ns.map WData.int)]/\h.get? a=some {cls:=.type "list",data:=.seq vs.toArray}/\IntsAre vs ns/\ns.length<=n:=by
 have hsh:WShape.hasAll [] args [.list .int]=true:=(pre_splitW FT).1;have hc:l.pre.holds [] {args:=args}=true:=(pre_splitW FT).2;obtain⟨d,r,rfl,h1,h2⟩:=hasAllW_cons hsh;obtain rfl:=hasAllW_nil h2;obtain⟨xs,rfl,h3⟩:=hasW_list h1;obtain⟨ns,rfl⟩:=items_int h3;have hlen:ns.length<=n:=by
  unfold OpenLaw.pre at hc;have h4:(WTm.not (.lt (.lit (.int (n:Int))) (.len (.arg 0)))).holds [] {args:=[.list (ns.map .int)]}=true:=by have h4:=(holds_andW hc).1;rw[hn] at h4;exact h4
  have h5:=condW_of h4 (w_not (w_lt w_lit (w_len_list (w_arg rfl))));rw[Ŏ] at h5;refine Nat.le_of_not_lt λq=>?_;have q':(n:Int)<((ns.length:Nat):Int):=by lia
  first
   |(rw[decide_eq_true q'] at h5;exact absurd h5 (by decide))
   |(simp at h5;lia)
 cases US with
 |cons w1 w2=>
  cases w2;cases w1 with
  |list ho hall=>exact⟨_,_,ns,rfl,rfl,ho,kU ns _ hall,hlen⟩
def Aj(l:eB)(args:List WData):l.row.toRowW.claim.post args (.bool true) args=true:=
 postW_of (r:=l.row.toRowW) (X:=(true== true))
  (show WShape.has [] (.bool true) .bool=true by first|rfl|decide|simp[WShape.has,WShape.arms,WShape.armsAll])
  (show(WTm.eq .res (.lit (.bool true))).value [] {args:=args,res:=some (.bool true),after:=args}=some (.bool (true== true)) from w_eq_bool (w_res rfl) w_lit) rfl
def uH{l:eB}{n:Nat}{q:Ù}{ib:List Str}{XP:(Str->Option Á)->Ë->Prop}{YP:Ô->Ë->Prop}{d:DefRec}
 (hn:l.most=some n)(MV:d.params.defaults=[])
 (call:∀(w:Ô) (s₀ s₁:Â) (mg mb:Str→Option Á) (fa:À) (o:Obj) (pm cd iu:Á) (a:À) (vs:List Á) (ns:List Int),
   Ground q ib [] XP w s₀ mg mb s₁.heap->YP w s₁.heap->
   s₁.heap.get? fa=some o->o.data=.func (docDef d.name d.params d.body d.scope pm cd iu)->s₁.heap.CodeRec cd d.name->mg d.name=some (.ref fa)->
   s₁.heap.get? a=some {cls:=.type "list",data:=.seq vs.toArray}->IntsAre vs ns->ns.length<=n->s₁.gens= #[]->
   ϕ (É l.prog w) cE (.call (.ref fa) ⟨[.ref a],[]⟩) (λr s'=>r=.ok (.ret (.bool true))/\OldK s₁.heap s'.heap/\s'.os=s₁.os/\aO s'.gens) s₁) :
 lO q ib XP YP l.row.toRowW d [] (λf vs=>lF f vs):=by
 intro w s₀ s₁ mg mb G Y fa o pm cd iu dV kV ho hd cZ hD Qe hg args MU as FT Zab hrd US hlo;obtain rfl:dV=.none:=Dflts.none hD MV;obtain rfl:kV=.none:=Dflts.noKw hD;obtain⟨a,vs,ns,rfl,rfl,MX,DM,hlen⟩:=Ai hn FT US;refine enter_call (bN (call w s₀ s₁ mg mb fa o pm cd iu a vs ns G Y ho (fd_plain hd) cZ Qe MX DM hlen hg) λr s' hq=>?_);obtain⟨rfl,h2,h3,h4⟩:=hq;exact⟨.inl ⟨.bool true,.bool true,[],rfl,λ_=>rfl,.bool true,Aj l _,λ_=>⟨yc,λ_ hm=>(nomatch hm)⟩⟩,h2,h3,h4⟩
section
end
end VD
namespace L2
open PySem PySem.Spec PyProof.Rows
theorem pK:∀{vs:List Á} {ns:List Int},IntsAre vs ns->ġ (ns.map V.int) vs
 |_,_,.nil=>.nil
 |_,_,.cons n t h=>.cons ⟨t,rfl⟩ (pK h)
def MY(H:Hp):Prop:=∀b,H b=none\/(∃o xs,H b=some (.ba o (.lst xs)))\/∃q,H b=some (.Ϗ q)
noncomputable def fK(K:Æ):List Str->Hp
 | []=>λ_=>none
 |y::r=>λb=>match ϴ K y with
  |some (_,P)=>if b=P then some (.Ϗ (rZ y)) else fK K r b
  |none=>fK K r b
theorem cL{K:Æ}:∀{l:List Str} {b:À} {u:HO},fK K l b=some u->∃y c,y∈l/\ϴ K y=some (c,b)/\u=.Ϗ (rZ y)
 | [],_,_,h=>by cases(show(none:Option HO)=some _ from h)
 |y::r,b,u,h=>by
  have h':(match ϴ K y with
   |some (_,P)=>if b=P then some (.Ϗ (rZ y)) else fK K r b
   |none=>fK K r b)=some u:=h
  have rc:fK K r b=some u->∃z c,z∈y::r/\ϴ K z=some (c,b)/\u=.Ϗ (rZ z):=λq=>
   let ⟨z,c,h1,h2,h3⟩:=cL q
   ⟨z,c,ù _ h1,h2,h3⟩
  cases e:ϴ K y with
  |none=>rw[e] at h';exact rc h'
  |some p=>
   obtain⟨c,P⟩:=p;rw[e] at h';have h2:(if b=P then some (HO.Ϗ (rZ y)) else fK K r b)=some u:=h';by_cases hb:b=P
   ·rw[if_pos hb] at h2;cases h2;exact⟨y,c,ŧ,by rw[hb];exact e,rfl⟩
   ·rw[if_neg hb] at h2;exact rc h2
theorem yS{K:Æ}{y:Str}{c P:À}(e:ϴ K y=some (c,P)):∀{l:List Str},(∀z∈l,z=y)->y∈l->fK K l P=some (.Ϗ (rZ y))
 | [],_,h=>by cases h
 |z::r,h1,_=>by
  have hz:=h1 z ŧ;subst hz;show(match ϴ K z with
   |some (_,Q)=>if P=Q then some (HO.Ϗ (rZ z)) else fK K r P
   |none=>fK K r P)=_
  rw[e];exact if_pos rfl
def Bj{P:Ù}{w:Ô}{K:Æ}{mg mb:Str->Option Á}{CX:dh}{k:Nat}{fa a:À}{fd:ú}{x:Str}{sp:Sp}{s₁:Â}{vs:List Á}{ns:List Int}
 (KX:K.In s₁.heap)(wf:s₁.heap.Ns Ź mg)(hb:s₁.heap.Ns builtinsNs mb)(hbb:∀x:Str,x≠ "__name__" ->mb x=cB x)(UT:s₁.heap.NoLimit)(hg:s₁.gens= #[])
 (ha:s₁.heap.get? a=some {cls:=.type "list",data:=.seq vs.toArray})(hi:IntsAre vs ns)(hl:ns.length<=sizeLine)(hr:Ń k cE)
 (F:∀base:Ë,K.In base->base.Ns Ź mg->Ď P w K mg base CX k fa fd [x] sp)(Qf:∀(s:Â) (u:Á),aR s fd ⟨[u],[]⟩ [(x,u)])
 (pq:∀H:Hp,MY H->ϐ K H a (ns.map V.int)->sp [.ref a] H (λv _=>v=.bl true) λ_ _ _=>False)
 (So:∀H e s',CX [] H s₁ (λ_ _ _=>False) e s'->False)
 (Qg:bp≠[]->rT K=true)(AQ:∀y z,y∈bp->z∈bp->y=z)(D8:∀y c Pt,y∈bp->ϴ K y=some (c,Pt)->rH s₁.heap c Pt/\s₁.heap.get? Pt=some (PySem.W.tabObj #[])/\s₁.heap.BuiltinsAt mg Pt) :
 ϕ (É P w) cE (.call (.ref fa) ⟨[.ref a],[]⟩) (λr s'=>r=.ok (.ret (.bool true))/\OldK s₁.heap s'.heap/\s'.os=s₁.os/\aO s'.gens) s₁:= by
 have rv:=pK hi;have UU:=hi.length;have Qh:∀H:Hp,MY H->ϐ K H a (ns.map V.int)->dg P w H s₁.heap->(∀b,H b≠none->b=a\/∃y c,y∈bp/\ϴ K y=some (c,b))->(H a≠none->K.lookup a=none)->(∀y c Pt,y∈bp->ϴ K y=some (c,Pt)->H Pt=some (.Ϗ (rZ y)))->
  ϕ (É P w) cE (.call (.ref fa) ⟨[.ref a],[]⟩) (λr s'=>r=.ok (.ret (.bool true))/\OldK s₁.heap s'.heap/\s'.os=s₁.os/\aO s'.gens) s₁:= by
  intro H hO hS hok hA hK hT;have lS:∀{b:À} {o:Obj},s₁.heap.get? b=some o->H b=none->(oK s₁.heap H).get? b=some o:=λe n=>AY e n;have NP:∀{b:À} {o:Obj} {es:Array iS} {ep:Nat},s₁.heap.get? b=some o->o.data=.dict es ep->H b=none:=fun{b o es ep} e d=>by
   cases q:H b with
   |none=>rfl
   |some u=>
    rcases hA b (by rw[q];simp) with e'|⟨y,c,hy,gd⟩
    ·subst e';rw[ha] at e;cases e;have d':Data.seq vs.toArray _=Data.dict es ep:=d;cases d'
    ·have e2:=(D8 y c b hy gd).2.1;rw[e] at e2;cases e2;cases d
  have QH:∀{b:À} {m:Str->Option Á},s₁.heap.Ns b m->(oK s₁.heap H).Ns b m:=fun{b m} ⟨o,es,ep,e,d,r⟩=>⟨o,es,ep,lS e (NP e d),d,r⟩;have VE:K.In (oK s₁.heap H):=λb o e=>lS (KX b o e) (by
   cases q:H b with
   |none=>rfl
   |some u=>
    rcases hA b (by rw[q];simp) with e'|⟨y,c,hy,gd⟩
    ·subst e';rw[hK (by rw[q];simp)] at e;cases e
    ·have e2:=(D8 y c b hy gd).2.1;rw[KX b o e] at e2;cases e2;have h2:=cx.mp (Qg (λz=>by rw[z] at hy;cases hy)) (b,_) (PySem.W.mem_of_lookupK e);exact absurd (show false=true from h2) bI)
  have hM:Mod K mg (oK s₁.heap H):=⟨VE,QH wf,⟨mb,QH hb,hbb⟩,let ⟨mc,h1,h2⟩:=UT;⟨mc,QH h1,h2⟩⟩;have Xz:ut K mg (oK s₁.heap H) H:=λy c Pt hy gd=>by
   obtain⟨⟨o,us,file,tf,Jp,tg,W6,text,tt,e1,r1,r2⟩,_,bm,ob,b1,b2,b3,b4,b5,b6,b7⟩:=D8 y c Pt hy gd;refine⟨⟨o,us,file,tf,Jp,tg,W6,text,tt,lS e1 ?_,r1,r2⟩,hT y c Pt hy gd,bm,ob,b1,b2,b3,b4,lS b5 ?_,b6,b7⟩
   rotate_left
   ·cases q:H bm with
    |none=>rfl
    |some u=>
     rcases hA bm (by rw[q];simp) with e'|⟨z,c2,hz,Sq⟩
     ·rw[e',ha] at b5;cases b5;exact absurd (yD b6) (by decide)
     ·have e2:=(D8 z c2 bm hz Sq).2.1;rw[b5] at e2;cases e2;cases b6
   cases q:H c with
   |none=>rfl
   |some u=>
    rcases hA c (by rw[q];simp) with e'|⟨z,c2,hz,Sq⟩
    ·rw[e',ha] at e1;cases e1;exact absurd (yD r1) (by decide)
    ·have e2:=(D8 z c2 c hz Sq).2.1;rw[e1] at e2;cases e2;cases r1
  have e0:oM P w K mg (oK s₁.heap H) cE [] s₁ H:=⟨rfl,hM,λb o e=>Ec e,qI (Aa _ _),trivial,λb hb=>absurd (show b∈([]:List À) from hb) (by simp),hok,.of_eq hg,Xz⟩;refine bN ((F _ VE (QH wf)).run cE [] s₁ H ⟨[.ref a],[]⟩ [.ref a] [.ref a] _ _ hr e0 (Qf s₁ (.ref a)) (.cons rfl .nil) (pq H hO hS)) λr s' h=>?_;cases r with
  |error e=>exact(So H e s' h).elim
  |ok fl=>
   cases fl with
   |next=>exact ě h
   |brk=>exact ě h
   |cont=>exact ě h
   |ret u=>
    obtain⟨v,H',os,bare,un,MZ,r',q⟩:=h;have q':v=.bl true:=q;subst q';obtain rfl:u=Ş true:=r';have iy:∀b o,s₁.heap.get? b=some o->(∀t,H b≠some (.Ϗ t))->s'.heap.get? b=some o:=?_
    ·refine⟨rfl,⟨λb o e=>?_,λb o e=>?_⟩,os,bare⟩
     ·by_cases ht:∃t,H b=some (.Ϗ t)
      ·obtain⟨t,ht⟩:=ht;obtain⟨ps,e1,_⟩:=MZ b _ (un.c_ b t ht);rcases hA b (by rw[ht];simp) with e'|⟨y,c,hy,gd⟩
       ·subst e';obtain⟨ps2,e3,_⟩:=hok b _ ht;rw[ha] at e3;cases e3
       ·obtain⟨⟨o2,us,file,tf,Jp,tg,W6,text,tt,f1,f2,f3,f4,_⟩,e2,_⟩:=D8 y c b hy gd;rw[e] at e2;cases e2;exact .inr (.inl ⟨⟨c,o2,us,f1,f2,f3,f4⟩,rfl,#[],ps,rfl,by rw[e1];simp⟩)
      ·exact .inl (iy b o e λt z=>ht ⟨t,z⟩)
     ·by_cases ht:∃t,H b=some (.Ϗ t)
      ·obtain⟨t,ht⟩:=ht;obtain⟨ps,e1,_⟩:=MZ b _ (un.c_ b t ht);exact⟨_,e1⟩
      ·exact⟨o,iy b o e λt z=>ht ⟨t,z⟩⟩
    intro b o e nt;cases q:H b with
    |none=>exact un.keep b o e q (by intro z;exact absurd (show b∈([]:List À) from z) (by simp)) (by simp)
    |some u=>
     rcases hO b with z|⟨ob,xs,z⟩|⟨t,z⟩
     ·rw[q] at z;cases z
     rotate_left
     ·exact absurd z (nt t)
     ·have z2:=un.eI b ob _ z;obtain⟨e1,_⟩:=hok b _ z;obtain⟨e2,_⟩:=MZ b _ z2;rw[e] at e1;cases e1;exact e2
 cases hk:K.lookup a with
 |some o=>
  have e:=KX a o hk;rw[ha] at e;cases e;refine Qh (fK K bp) (λb=>?_) (.inr ⟨_,vs.toArray,_,hk,rfl,rfl,rfl,by rw[ħ,UU];exact hl,by simpa using rv⟩) (λb u z=>?_) (λb z=>?_) (λz=>?_) λy c Pt hy gd=>yS gd (λz hz=>AQ z y hz hy) hy
  ·cases q:fK K bp b with
   |none=>exact .inl rfl
   |some u=>obtain⟨y,c,_,_,rfl⟩:=cL q;exact .inr (.inr ⟨_,rfl⟩)
  ·obtain⟨y,c,hy,gd,rfl⟩:=cL z;exact⟨#[],(D8 y c b hy gd).2.1,trivial,λpos cv z=>by cases z⟩
  ·cases q:fK K bp b with
   |none=>exact absurd q z
   |some u=>obtain⟨y,c,hy,gd,_⟩:=cL q;exact .inr ⟨y,c,hy,gd⟩
  ·cases q:fK K bp a with
   |none=>exact absurd q z
   |some u=>obtain⟨y,c,hy,gd,_⟩:=cL q;have e2:=(D8 y c a hy gd).2.1;rw[ha] at e2;cases e2
 |none=>
  refine Qh (λb=>if b=a then some (.ba {cls:=.type "list",data:=.seq vs.toArray} (.lst (ns.map V.int))) else fK K bp b) (λb=>?_) (.inl (.inr ⟨{cls:=.type "list",data:=.seq vs.toArray},if_pos rfl⟩)) (λb u z=>?_) (λb z=>?_) (λ_=>hk) λy c Pt hy gd=>?_
  ·by_cases hb:b=a
   ·exact .inr (.inl ⟨_,_,if_pos hb⟩)
   ·cases q:fK K bp b with
    |none=>exact .inl ((if_neg hb).trans q)
    |some u=>obtain⟨y,c,_,_,rfl⟩:=cL q;exact .inr (.inr ⟨_,(if_neg hb).trans q⟩)
  ·by_cases hb:b=a
   ·have z':=(if_pos hb).symm.trans z;cases z';subst hb;exact⟨ha,by rw[Ŏ];exact hl,vs,_,rv,ha⟩
   ·have z':=(if_neg hb).symm.trans z;obtain⟨y,c,hy,gd,rfl⟩:=cL z';exact⟨#[],(D8 y c b hy gd).2.1,trivial,λpos cv z=>by cases z⟩
  ·by_cases hb:b=a
   ·exact .inl hb
   ·cases q:fK K bp b with
    |none=>exact absurd ((if_neg hb).trans q) z
    |some u=>obtain⟨y,c,hy,gd,_⟩:=cL q;exact .inr ⟨y,c,hy,gd⟩
  ·have ne:Pt≠a:=fun z=>by
    subst z;have e2:=(D8 y c _ hy gd).2.1;rw[ha] at e2;cases e2
   exact(if_neg ne).trans (yS gd (λz hz=>AQ z y hz hy) hy)
def Ey{p:Ù}{ib:List Str}{UV:ExcName->Option Á}{mg mb:Str->Option Á}{h:Ë}{K:Æ}{d:DefRec}{x:Str}{c P:À}(T:Top p ib UV mg mb h)(X:K.In h)(hr:(recsOf p).find? (λe=>e.name== x)=some d)(ht:ϴ K x=some (c,P)) :
 rH h c P/\h.get? P=some (PySem.W.tabObj #[])/\h.BuiltinsAt mg P:=by
 obtain⟨h1,h2⟩:=PySem.W.tab_of T X hr ht;obtain⟨bm,ob,b1,b2,b3,b4,b5,b6⟩:=T.bmain;have hbP:bm≠P:=λq=>by rw[q,h2] at b3;cases b3;cases b4
 have hbG:bm≠Ź:=λq=>by obtain⟨o,es,ep,e,hd,_⟩:=T.g;rw[q,e] at b3;cases b3;rw[hd] at b6;cases b6
 exact⟨h1,h2,bm,ob,b1,b2,hbG,hbP,b3,b4,b5,b6⟩
def Ez{l:eB}{n k:Nat}{q:Ù}{ib:List Str}{XP:(Str->Option Á)->Ë->Prop}{YP:Ô->Ë->Prop}{d:DefRec}{K:ĺ->Æ}{CX:Ô->dh}{sp:Ô->Sp}{x:Str}
 (hn:l.most=some n)(D7:n<=sizeLine)(MV:d.params.defaults=[])(hr:Ń k cE)
 (hY:∀(w:Ô) (h:Ë),YP w h->(K w.params).In h)
 (F:∀(w:Ô) (mg:Str→Option Á) (fa:À) (h:Ë),(K w.params).In h→h.Ns Ź mg→mg d.name=some (.ref fa)→
   ∃fd:ú,(∀(s:Â) (u:Á),aR s fd ⟨[u],[]⟩ [(x,u)])/\
    ∀base:Ë,(K w.params).In base->base.Ns Ź mg->Ď l.prog w (K w.params) mg base (CX w) k fa fd [x] (sp w))
 (pq:∀(w:Ô) (H:Hp) (a:À) (ns:List Int),ns.length<=n->MY H->ϐ (K w.params) H a (ns.map V.int)->sp w [.ref a] H (λv _=>v=.bl true) λ_ _ _=>False)
 (So:∀(w:Ô) (H:Hp) (s:Â) (e:Á) (s':Â),CX w [] H s (λ_ _ _=>False) e s'->False)
 (Qg:bp≠[]->∀w:Ô,rT (K w.params)=true:=by intro z;exact absurd rfl z)(AQ:∀y z,y∈bp->z∈bp->y=z:=by simp[bp])(M_:∀y,y∈bp->∃d,(recsOf q).find? (λe=>e.name== y)=some d:=by simp[bp]) :
 lO q ib XP YP l.row.toRowW d [] (λf vs=>lF f vs):=by
 refine VD.uH hn MV λw s₀ s₁ mg mb fa o pm cd iu a vs ns G Y ho hd cZ Qe MX DM hlen hg=>?_;have KX:=hY w _ Y;obtain⟨fd,hb,hF⟩:=F w mg fa _ KX G.T.g Qe;exact Bj KX G.T.g G.T.b G.T.builtins G.T.nolimit hg MX DM (Ő hlen D7) hr hF hb (λH hO hS=>pq w H a ns hlen hO hS) (λH e s'=>So w H s₁ e s') (λz=>Qg z w) AQ λy c Pt hy gd=>let ⟨_,hr'⟩:=M_ y hy;Ey G.T KX hr' gd
def b_(s:Ï)(j:Nat):Ï:=match s with
 | .ClassDef _ _ _ body _ _ _ _ _ _ _=>body.getD j (.Pass ⟨0,0,0,0⟩)
 |_=>.Pass ⟨0,0,0,0⟩
def aY(s:Ï):aS:=match s with
 | .FunctionDef _ a _ _ _ _ _ _ _ _=>a
 |_=> {posonlyargs:=[],args:=[],vararg:=none,kwonlyargs:=[],kw_defaults:=[],kwarg:=none,defaults:=[]}
def ń(s:Ï):List Ï:=match s with
 | .FunctionDef _ _ b _ _ _ _ _ _ _=>b
 |_=>[]
def Î(s:Ï):ë:=match s with
 | .FunctionDef _ _ _ _ _ _ sc _ _ _=>sc
 |_=> {kind:=.function,names:=[],isGenerator:=false,isCoroutine:=false}
structure yU(K:Æ)(x ç:Str)(st:Ï)(f:À)(fd:ú):Prop where
 ex:∃(oc:Á) (od:Option À) (kV iu pm:Á) (an:Option À) (ğ ct:Á) (oJ:Array (Option Á)),
   fd=ş x ç (aY st) (ń st) (Î st) .none kV iu pm an ğ ct/\K.lookup f=some ⟨oc,od,.func fd,oJ⟩/\ei K ğ ç=true
 kp:Ō K (.ref f)=true
section
variable{K:Æ}
def yU.binds{x ç:Str}{st:Ï}{f:À}{fd:ú}{ps:List Str}(F:yU K x ç st f fd)
 (h:∀(kV iu pm:Á) (an:Option À) (ğ ct:Á) (us:List Á),us.length=ps.length->bindArgs (ş x ç (aY st) (ń st) (Î st) .none kV iu pm an ğ ct) ⟨us,[]⟩=pure (ps.zip us)):Binds K fd ps []:=by
 obtain⟨oc,od,kV,iu,pm,an,ğ,ct,oJ,rfl,lk,cZ⟩:=F.ex;exact .all (h kV iu pm an ğ ct)
def Bk{x ç:Str}{st:Ï}{f:À}{oc:Á}{od an:Option À}{oJ:Array (Option Á)}{kV iu pm ğ ct:Á}(l:K.lookup f=some ⟨oc,od,.func (ş x ç (aY st) (ń st) (Î st) .none kV iu pm an ğ ct),oJ⟩)
 (c:ei K ğ ç=true)(k:Ō K (.ref f)=true):yU K x ç st f (ş x ç (aY st) (ń st) (Î st) .none kV iu pm an ğ ct):=⟨⟨oc,od,kV,iu,pm,an,ğ,ct,oJ,rfl,l,c⟩,k⟩
end
section
variable{X:Cx}
def pv(i:Nat){x:Str}{pos:Pos}(hN:X.N[i]?=some x:=by rfl)(hv:AU X.env.scope x:=by first|exact ą rfl|exact ÿ (ą rfl)|exact ÿ (ÿ rfl))(hd:(x== ("__debug__" :Str))=false:=by decide)
 (cZ:(x== ("__classdict__" :Str))=false:=by decide):PE X (.Name x pos) (bc i):=fF hN hv hd cZ
end
def Ò(H H':Hp):Prop:=∀b o,H b=some o->H' b=some o
def Ò.refl(H:Hp):Ò H H:=λ_ _ h=>h
def ċ{H:Hp}:Ò H H:= Ò.refl H
def Ò.trans{H H1 H2:Hp}(a:Ò H H1)(b:Ò H1 H2):Ò H H2:=λc o h=>b c o (a c o h)
def Ò.free{H H':Hp}(e:Ò H H'){l:À}(h:H' l=Option.none):H l=Option.none:=by
 cases q:H l with
 |none=>rfl
 |some o=>rw[e l o q] at h;cases h
def Ò.seq{K:Æ}{H H':Hp}{a:À}{xs:List V}(e:Ò H H')(h:ϐ K H a xs):ϐ K H' a xs:=by
 rcases h with(h|⟨o,h⟩)|h
 ·exact .inl (.inl (e _ _ h))
 ·exact .inl (.inr ⟨o,e _ _ h⟩)
 ·exact .inr h
end L2
namespace M2
open PySem PySem.Spec PyProof.Rows L2
section
variable{X:Cx}{a b c e:Å}{ta tb tc te:TE}{pos:Pos}
def PE.wk{t t':TE}(h:PE X e t)(i:∀Z H Q,t' Z H Q->t Z H Q):PE X e t':=λÃ s Z H Q I q=>h Ã s Z H Q I (i Z H Q q)
def PS.wk{st:Ï}{t t':TS}(h:PS X st t)(i:∀D Z H,t' D Z H->t D Z H):PS X st t':=λÃ s Z H D I q=>h Ã s Z H D I (i D Z H q)
def Ϸ.wk{f:Á->Á->Sem Á}{r r':R2}(h:Ϸ X f r)(i:∀x y H Q,r' x y H Q->r x y H Q):Ϸ X f r':=λÃ s Z H x y v u Q I rx ry q=>h Ã s Z H x y v u Q I rx ry (i x y H Q q)
def Eh.wk{f:Á->Sem Á}{r r':V->Hp->VK->Prop}(h:Eh X f r)(i:∀x H Q,r' x H Q->r x H Q):Eh X f r':=λÃ s Z H x v Q I rx q=>h Ã s Z H x v Q I rx (i x H Q q)
def ū.wk{f:Á}{r r':List V->Hp->VK->Prop}(h:ū X f r)(i:∀xs H Q,r' xs H Q->r xs H Q):ū X f r':=λÃ s Z H xs us Q I r q=>h Ã s Z H xs us Q I r (i xs H Q q)
def wb.wk{r r':R2}(h:wb X r)(i:∀x y H Q,r' x y H Q->r x y H Q):wb X r':=λva sl Ã s Z H x y v u Q I rx ry q=>h va sl Ã s Z H x y v u Q I rx ry (i x y H Q q)
def yQ.wk{r r':V->Option Int->Option Int->Hp->VK->Prop}(h:yQ X r)(i:∀x lo hi H Q,r' x lo hi H Q->r x lo hi H Q):yQ X r':=λÃ s Z H x v vl vu lo hi sl Q I rx hs pl pu q=>h Ã s Z H x v vl vu lo hi sl Q I rx hs pl pu (i x lo hi H Q q)
def J_(i:Nat):TE:=λZ H Q=>match Z[i]? with
 |some (some v)=>Q v H
 |_=>False
def EA{i:Nat}{Z:ð}{H:Hp}{Q:VK}(h:J_ i Z H Q):bc i Z H Q:=by
 unfold J_ at h;split at h
 ·exact⟨_,by assumption,h⟩
 ·exact h.elim
def mv(i:Nat){x:Str}{pos:Pos}(hN:X.N[i]?=some x:=by rfl)(hv:AU X.env.scope x:=by first|exact ą rfl|exact ÿ (ą rfl)|exact ÿ (ÿ rfl))(hd:(x== ("__debug__" :Str))=false:=by decide)
 (cZ:(x== ("__classdict__" :Str))=false:=by decide):PE X (.Name x pos) (J_ i):=PE.wk (fF hN hv hd cZ) λ_ _ _ h=>EA h
def Nj(x:V)(k:Bool->Prop):Prop:=match x with
 | .bl c=>k c
 |_=>False
def ig{x:V}{k:Bool->Prop}(h:Nj x k):∃c,x=.bl c/\k c:=by
 cases x with
 |bl c=>exact⟨c,rfl,h⟩
 |_=>exact h.elim
def Bl(t:TE):TT:=λZ H Q=>t Z H λx H1=>Nj x λc=>Q c H1
def Bm{op:aj}{r:R2}(ho:Ϸ X (Ę op) r)(ha:PE X a ta)(hb:PE X b tb)(hm:cC op b=false):PT X (.Compare a [op] [b] pos) (Bl (Ei r ta tb)):=by
 intro Ã s Z H Q I h;refine wpAny_isTrue_Compare1 (ň (ha Ã s Z H _ I h) λv s1 ⟨x,H1,I1,r1,q1⟩=>ň (hb Ã s1 Z H1 _ I1 q1) λu s2 ⟨y,H2,I2,r2,q2⟩=>
  ň (ho Ã s2 Z H2 x y v u _ I2 r1 r2 q2) λc s3 ⟨z,H3,I3,r3,q3⟩=>?_) hm
 obtain⟨k,e,q3⟩:=ig q3;subst e;cases r3;exact bL ⟨H3,I3,q3⟩
def wB(r r':R2)(ta tb tc:TE):TE:=λZ H Q=>ta Z H λx H1=>tb Z H1 λy H2=>r x y H2 λz H3=>Nj z λk=>
 (if k=true then tc Z H3 λw' H4=>r' y w' H4 Q else Q (.bl false) H3)
def Bn{op xP:aj}{r r':R2}(ho:Ϸ X (Ę op) r)(xN:Ϸ X (Ę xP) r')(ha:PE X a ta)(hb:PE X b tb)(hc:PE X c tc)
 (hm:lastMarks [op,xP] [b,c]=false:=by with_unfolding_all rfl):PE X (.Compare a [op,xP] [b,c] pos) (wB r r' ta tb tc):=by
 intro Ã s Z H Q I h;refine Compare_chain (ň (ha Ã s Z H _ I h) λv s1 ⟨x,H1,I1,r1,q1⟩=>chain_link (ň (hb Ã s1 Z H1 _ I1 q1) λu s2 ⟨y,H2,I2,r2,q2⟩=>
  ň (ho Ã s2 Z H2 x y v u _ I2 r1 r2 q2) λd s3 ⟨z,H3,I3,r3,q3⟩=>?_)) hm
 obtain⟨k,e,q3⟩:=ig q3;subst e;cases r3;refine bL ?_;cases k with
 |false=>exact ite_ff ⟨.bl false,H3,I3,rfl,q3⟩
 |true=>exact ite_tt (chain_last (ň (hc Ã s3 Z H3 _ I3 q3) λw' s4 ⟨z',H4,I4,r4,q4⟩=>xN Ã s4 Z H4 y z' u w' Q I4 r2 r4 q4))
def Bo{op xP:aj}{r r':R2}(ho:Ϸ X (Ę op) r)(xN:Ϸ X (Ę xP) r')(ha:PE X a ta)(hb:PE X b tb)(hc:PE X c tc)
 (hm:lastMarks [op,xP] [b,c]=false:=by with_unfolding_all rfl):PT X (.Compare a [op,xP] [b,c] pos) (Bl (wB r r' ta tb tc)):=by
 intro Ã s Z H Q I h;refine isTrue_chain (ň (ha Ã s Z H _ I h) λv s1 ⟨x,H1,I1,r1,q1⟩=>test_link (ň (hb Ã s1 Z H1 _ I1 q1) λu s2 ⟨y,H2,I2,r2,q2⟩=>
  ň (ho Ã s2 Z H2 x y v u _ I2 r1 r2 q2) λd s3 ⟨z,H3,I3,r3,q3⟩=>?_)) hm
 obtain⟨k,e,q3⟩:=ig q3;subst e;cases r3;refine bL ?_;cases k with
 |false=>exact ite_ff ⟨H3,I3,q3⟩
 |true=>refine ite_tt (test_last (ň (hc Ã s3 Z H3 _ I3 q3) λw' s4 ⟨z',H4,I4,r4,q4⟩=>ň (xN Ã s4 Z H4 y z' u w' _ I4 r2 r4 q4) λd' s5 ⟨z2,H5,I5,r5,q5⟩=>?_));obtain⟨k2,e2,q5⟩:=ig q5;subst e2;cases r5;exact bL ⟨H5,I5,q5⟩
def NX(ta tb:TE):TE:=λZ H Q=>ta Z H λx H1=>Nj x λc=>if c=true then tb Z H1 Q else Q (.bl false) H1
def Sr(ta tb:TE):TE:=λZ H Q=>ta Z H λx H1=>Nj x λc=>if c=true then Q (.bl true) H1 else tb Z H1 Q
def NY(ta:TE):TE:=λZ H Q=>ta Z H λx H1=>Nj x λc=>Q (.bl (!c)) H1
variable{rest:List Å}
def J0(ha:PE X a ta)(hb:PE X (.BoolOp .And (b::rest) pos) tb):PE X (.BoolOp .And (a::b::rest) pos) (NX ta tb):=by
 intro Ã s Z H Q I h;refine BoolOp_and (ň (ha Ã s Z H _ I h) λv s1 ⟨x,H1,I1,r1,q1⟩=>?_);obtain⟨c,rfl,q1⟩:=ig q1;cases r1;refine bL ?_;cases c with
 |true=>exact hb Ã s1 Z H1 Q I1 q1
 |false=>exact⟨.bl false,H1,I1,rfl,q1⟩
def NZ(ha:PE X a ta)(hb:PE X (.BoolOp .Or (b::rest) pos) tb):PE X (.BoolOp .Or (a::b::rest) pos) (Sr ta tb):=by
 intro Ã s Z H Q I h;refine BoolOp_or (ň (ha Ã s Z H _ I h) λv s1 ⟨x,H1,I1,r1,q1⟩=>?_);obtain⟨c,rfl,q1⟩:=ig q1;cases r1;refine bL ?_;cases c with
 |false=>exact hb Ã s1 Z H1 Q I1 q1
 |true=>exact⟨.bl true,H1,I1,rfl,q1⟩
def J1(ha:PE X a ta):PE X (.UnaryOp .Not a pos) (NY ta):=by intro Ã s Z H Q I h;refine UnaryOp_ (ň (ha Ã s Z H _ I h) λv s1 ⟨x,H1,I1,r1,q1⟩=>?_);obtain⟨c,rfl,q1⟩:=ig q1;cases r1;exact not_of (bL ⟨.bl (!c),H1,I1,rfl,q1⟩)
def mI(C:Int->Int->Prop)(g:Int->Int->V):R2:=λx y H Q=>match x,y with
 | .int i,.int j=>C i j/\Q (g i j) H
 |_,_=>False
def Ak(g:Int->Int->V):R2:=λx y H Q=>match x,y with
 | .int i,.int j=>Q (g i j) H
 |_,_=>False
def Bp{C:Int->Int->Prop}{g:Int->Int->V}(x y:V)(H:Hp)(Q:VK)(h:mI C g x y H Q):rI C g x y H Q:=by
 cases x with
 |int i=>
  cases y with
  |int j=>exact⟨i,j,rfl,rfl,h.1,h.2⟩
  |_=>exact h.elim
 |_=>exact h.elim
def mG{g:Int->Int->V}(x y:V)(H:Hp)(Q:VK)(h:Ak g x y H Q):Ej g x y H Q:=by
 cases x with
 |int i=>
  cases y with
  |int j=>exact⟨i,j,rfl,rfl,h⟩
  |_=>exact h.elim
 |_=>exact h.elim
def N_:R2:=λx y H Q=>match x,y with
 | .int i,.int j=>Q (.int (i+j)) H
 | .str i,.str j=>i.length+j.length<=sizeLine/\Q (.str (i++j)) H
 |_,_=>False
def J2:Ϸ X (ŝ .Add) N_:=Ϸ.wk (JM.or wt) λx y H Q h=>by
 cases x with
 |int i=>
  cases y with
  |int j=>exact .inl ⟨i,j,rfl,rfl,h⟩
  |_=>exact h.elim
 |str i=>
  cases y with
  |str j=>exact .inr ⟨i,j,rfl,rfl,h.1,h.2⟩
  |_=>exact h.elim
 |_=>exact h.elim
def J3:Ϸ X (ŝ .Sub) (Ak λi j=>.int (i-j)):=Ϸ.wk JN mG
def Al(_ j:Int):Prop:=j≠0/\yk j<=8000
def Al.py{i j:Int}(h:Al i j):Builtin.divisionGoesByPylong i j=false:=by
 refine PyProof.noPylong_of_log2 ?_;have hb:=intBits_le_iff.mp h.2;have h0:j.natAbs≠0:=by have:=h.1;lia
 exact ŏ ((Nat.log2_lt h0).mpr hb) (by decide)
def EB:Ϸ X (ŝ .FloorDiv) (mI Al λi j=>.int (i.fdiv j)):=Ϸ.wk (Ek (C:=Al) (g:=λi j=>i.fdiv j) λ_ _ _ _ _ _ _ hc q=>floordiv_int hc.1 q (.inl hc.py)) Bp
def J4:Ϸ X (ŝ .Mod) (mI (λ_ j=>j≠0) λi j=>.int (i.fmod j)):=Ϸ.wk Em Bp
def sv:Ϸ X (ŝ .Pow) (mI JL λi j=>.int (i ^ j.toNat)):=Ϸ.wk JO Bp
def uI:Ϸ X (Ę .Lt) (Ak λi j=>.bl (decide (i<j))):=Ϸ.wk NK mG
def bf:Ϸ X (Ę .LtE) (Ak λi j=>.bl (decide (i<=j))):=Ϸ.wk NL mG
def Gg:Ϸ X (Ę .Gt) (Ak λi j=>.bl (decide (j<i))):=Ϸ.wk NM mG
def N4:Ϸ X (Ę .GtE) (Ak λi j=>.bl (decide (j<=i))):=Ϸ.wk NO mG
def mU(g:Int->V):V->Hp->VK->Prop:=λx H Q=>match x with
 | .int i=>Q (g i) H
 |_=>False
def J5:Eh X (unaryOp .USub) (mU λi=>.int (-i)):=Eh.wk A5 λx H Q h=>by
 cases x with
 |int i=>exact⟨i,rfl,h⟩
 |_=>exact h.elim
def M0:List V->Hp->VK->Prop:=λxs H Q=>match xs with
 | [.int i]=>Q (.int (if i<0 then -i else i)) H
 |_=>False
def Bq:ū X (.builtin "abs") M0:=ū.wk A6 λxs H Q h=>by
 unfold M0 at h;split at h
 ·exact⟨_,rfl,h⟩
 ·exact h.elim
def J6(K:Æ):List V->Hp->VK->Prop:=λxs H Q=>match xs with
 | [.str y]=>y.length<=sizeLine/\Q (.int (y.length:Int)) H
 | [.ref p]=>∃ys,(ϐ K H p ys\/dJ K H p ys)/\Q (.int (ys.length:Int)) H
 |_=>False
def š:ū X (.builtin "len") (J6 X.K):=ū.wk A7 λxs H Q h=>by
 unfold J6 at h;split at h
 ·exact⟨_,_,rfl,⟨h.1,rfl⟩,h.2⟩
 ·obtain⟨ys,h1,h2⟩:=h;refine⟨_,ys.length,rfl,?_,h2⟩;rcases h1 with h1|h1
  ·exact .inl ⟨ys,h1,rfl⟩
  ·exact .inr ⟨ys,h1,rfl⟩
 ·exact h.elim
def VF(K:Æ):R2:=λx y H Q=>match x,y with
 | .ref p,.int i=>∃xs v,(ϐ K H p xs\/dJ K H p xs)/\mF xs i=some v/\Q v H
 | .str z,.int i=>∃c,z.length<=sizeLine/\mF z.cps.toList i=some c/\Q (.str ⟨#[c]⟩) H
 |_,_=>False
def Gh:wb X (VF X.K):=wb.wk wA λx y H Q h=>by
 cases x with
 |ref p=>
  cases y with
  |int i=>
   obtain⟨xs,v,h1,h2,h3⟩:=h;rcases h1 with h1|h1
   ·exact .inl ⟨p,xs,i,v,rfl,rfl,h1,h2,h3⟩
   ·exact .inr (.inl ⟨p,xs,i,v,rfl,rfl,h1,h2,h3⟩)
  |_=>exact h.elim
 |str z=>
  cases y with
  |int i=>obtain⟨c,h1,h2,h3⟩:=h;exact .inr (.inr ⟨z,i,c,rfl,rfl,h1,h2,h3⟩)
  |_=>exact h.elim
 |_=>exact h.elim
def XA(x:V)(k:Int->Prop):Prop:=match x with
 | .int i=>k i
 |_=>False
def N5(t:TE):TO:=λZ H Q=>t Z H λx H1=>XA x λi=>Q (some i) H1
def Br(h:PE X e te):PO X (some e) (N5 te):=by
 intro Ã s Z H Q I hw;rw[evalPart_some];refine ň (h Ã s Z H _ I hw) λu s1 ⟨x,H1,I1,r1,q1⟩=>?_;cases x with
 |int i=>obtain⟨t,rfl⟩:=r1;exact⟨some i,H1,I1,.int i t,q1⟩
 |_=>exact q1.elim
def Ss(K:Æ):V->Option Int->Option Int->Hp->VK->Prop:=λx lo hi H Q=>match x with
 | .ref a=>∃xs,ϐ K H a xs/\∀p,H p=none->Q (.ref p) (upd H p (.lst (uF xs lo hi)))
 |_=>False
def Bs:yQ X (Ss X.K):=yQ.wk Ev λx lo hi H Q h=>by
 cases x with
 |ref a=>obtain⟨xs,h1,h2⟩:=h;exact⟨a,xs,rfl,h1,h2⟩
 |_=>exact h.elim
end
section
end
mutual
def Rp(K:Æ)(H:Hp):Ż->V->Prop
 | .none,v=>v=.non
 | .bool b,v=>v=.bl b
 | .int i,v=>v=.int i
 | .str x,v=>v=.str x
 | .tuple ds,v=>∃a xs,v=.ref a/\dJ K H a xs/\jY K H ds xs
 | .list ds,v=>∃a xs,v=.ref a/\ϐ K H a xs/\jY K H ds xs
 | .dict _,_=>False
def jY(K:Æ)(H:Hp):List Ż->List V->Prop
 | [],xs=>xs=[]
 |d::ds,xs=>∃x r,xs=x::r/\Rp K H d x/\jY K H ds r
end
def Ò.tup{K:Æ}{H H':Hp}{a:À}{xs:List V}(e:Ò H H')(h:dJ K H a xs):dJ K H' a xs:=by
 rcases h with(h|⟨o,h⟩)|h
 ·exact .inl (.inl (e _ _ h))
 ·exact .inl (.inr ⟨o,e _ _ h⟩)
 ·exact .inr h
theorem Ò.upd{H:Hp}{p:À}{o:HO}(h:H p=none):Ò H (upd H p o):=λb u e=>by rw[Ö (æ e h)];exact e
mutual
theorem Rp.same{K:Æ}{H H':Hp}(e:Ò H H'):∀(d:Ż) (v:V),Rp K H d v->Rp K H' d v
 | .none,_,h=>by unfold Rp at h ⊢;exact h
 | .bool _,_,h=>by unfold Rp at h ⊢;exact h
 | .int _,_,h=>by unfold Rp at h ⊢;exact h
 | .str _,_,h=>by unfold Rp at h ⊢;exact h
 | .tuple ds,_,h=>by unfold Rp at h ⊢;obtain⟨a,xs,h1,h2,h3⟩:=h;exact⟨a,xs,h1,Ò.tup e h2,jY.same e ds xs h3⟩
 | .list ds,_,h=>by unfold Rp at h ⊢;obtain⟨a,xs,h1,h2,h3⟩:=h;exact⟨a,xs,h1,e.seq h2,jY.same e ds xs h3⟩
 | .dict _,_,h=>by unfold Rp at h;exact h.elim
theorem jY.same{K:Æ}{H H':Hp}(e:Ò H H'):∀(ds:List Ż) (xs:List V),jY K H ds xs->jY K H' ds xs
 | [],_,h=>by unfold jY at h ⊢;exact h
 |d::ds,_,h=>by unfold jY at h ⊢;obtain⟨x,r,h1,h2,h3⟩:=h;exact⟨x,r,h1,Rp.same e d x h2,jY.same e ds r h3⟩
end
section
variable{X:Cx}{Ã:List (À×Obj)}{Z:ð}{H:Hp}{s:Â}
mutual
theorem Rp.reads(I:Inv X Ã Z H s):∀(d:Ż) (v:V) (u:Á),Rp X.K H d v->RelV v u->∃as,Reads s.heap u d as
 | .none,v,u,h,r=>by unfold Rp at h;subst h;cases r;exact⟨_,.none⟩
 | .bool b,v,u,h,r=>by unfold Rp at h;subst h;cases r;exact⟨_,.bool b⟩
 | .int i,v,u,h,r=>by unfold Rp at h;subst h;obtain⟨t,rfl⟩:=r;exact⟨_,.int i t⟩
 | .str x,v,u,h,r=>by unfold Rp at h;subst h;obtain⟨t,rfl⟩:=r;exact⟨_,.str x t⟩
 | .tuple ds,v,u,h,r=>by unfold Rp at h;obtain⟨a,xs,h1,h2,h3⟩:=h;subst h1;cases r;obtain⟨Ğ,rv,⟨o,e,hc,n,hd⟩,hz⟩:=I.tuple h2;obtain⟨as,ra⟩:=jY.reads I ds xs Ğ h3 rv;exact⟨_,.tuple e hc hd (by simpa using ra)⟩
 | .list ds,v,u,h,r=>by unfold Rp at h;obtain⟨a,xs,h1,h2,h3⟩:=h;subst h1;cases r;obtain⟨Ğ,rv,⟨o,n,e,hc,hdd,hd⟩,hz⟩:=I.list h2;obtain⟨as,ra⟩:=jY.reads I ds xs Ğ h3 rv;exact⟨_,.list e hc hd (by simpa using ra)⟩
 | .dict _,_,_,h,_=>by unfold Rp at h;exact h.elim
theorem jY.reads(I:Inv X Ã Z H s):∀(ds:List Ż) (xs:List V) (us:List Á),jY X.K H ds xs->ġ xs us->∃as,ReadsAll s.heap us ds as
 | [],xs,us,h,r=>by unfold jY at h;subst h;cases r;exact⟨_,.nil⟩
 |d::ds,xs,us,h,r=>by
  unfold jY at h;obtain⟨x,q,h1,h2,h3⟩:=h;subst h1;cases r with
  |cons r1 r2=>obtain⟨as,ra⟩:=Rp.reads I d x _ h2 r1;obtain⟨bs,rb⟩:=jY.reads I ds q _ h3 r2;exact⟨_,.cons ra rb⟩
end
end
def EC(K:Æ)(FU:Bool):R2:=λx y H Q=>∃d e,Rp K H d x/\Rp K H e y/\d.canLay0=true/\e.canLay0=true/\min d.depth e.depth<=60/\Q (.bl (if FU then !PyData.eqv d e else Ģ d e)) H
section
variable{X:Cx}
def fL(hu:X.A.units+64<ź):Ϸ X (Ę .Eq) (EC X.K false):=by intro Ã s Z H x y v u Q I rx ry h;obtain⟨d,e,h1,h2,h3,h4,h5,q⟩:=h;obtain⟨as,ra⟩:=Rp.reads I d x v h1 rx;obtain⟨bs,rb⟩:=Rp.reads I e y u h2 ry;exact SeqAt.compareEq_reads ra rb h3 h4 (by lia) ⟨.bl _,H,I,rfl,q⟩
def wD(hu:X.A.units+64<ź):Ϸ X (Ę .NotEq) (EC X.K true):=by intro Ã s Z H x y v u Q I rx ry h;obtain⟨d,e,h1,h2,h3,h4,h5,q⟩:=h;obtain⟨as,ra⟩:=Rp.reads I d x v h1 rx;obtain⟨bs,rb⟩:=Rp.reads I e y u h2 ry;exact SeqAt.compareNe_reads ra rb h3 h4 (by lia) ⟨.bl _,H,I,rfl,q⟩
end
section
end
end M2
namespace M3
open PySem PySem.Spec PyProof.Rows L2 M2
def yV{P:Ù}{w:Ô}{H:Hp}{h h':Ë}{C:À}(x:dg P w H h)(hC:H C=none)(k:∀b u,b≠C->h.get? b=some u->h'.get? b=some u):dg P w H h':=λa o e=>
 (x a o e).stay (fun b u hb q=>k b u (by
   rcases hb with hb|hb
   ·rw[hb];exact æ e hC
   ·exact æ hb hC) q) (λ_ q=>q) λ_ _ q=>q
theorem ii{env:Env}:∀(ns:List (Str×ϰ)) (cs:List (Str×À)),(∀y∈ns,y.2=.free->∃c,env.cells.lookup y.1=some c)->(∀x c,cs.lookup x=some c->env.cells.lookup x=some c)->
 ∃cl,(forIn ns cs (λ(x:Str×ϰ) r=>if(x.2== .free)=true then(do let c <-cellOf env x.1;pure (cu ((x.1,c)::r))) else pure (cu r)):Sem (List (Str×À)))=pure cl/\
  (∀x c,cl.lookup x=some c->env.cells.lookup x=some c)/\(∀x,(∃c,cs.lookup x=some c)->∃c,cl.lookup x=some c)/\∀y∈ns,y.2=.free->∃c,cl.lookup y.1=some c
 | [],cs,_,h2=>⟨cs,rfl,h2,λ_ z=>z,λ_ z=>nomatch z⟩
 |(n,k)::ns,cs,h1,h2=>by
  by_cases hk:k=.free
  ·subst hk;obtain⟨c,hc⟩:=h1 (n,.free) ŧ rfl;have e:cellOf env n=pure c:=by unfold cellOf;rw[hc]
   have M1:∀x d,((n,c)::cs).lookup x=some d->env.cells.lookup x=some d:=λx d q=>by
    rw[İ] at q;cases hx:x== n with
    |true=>rw[hx] at q;have:x=n:=eq_of_beq hx;subst this;cases q;exact hc
    |false=>rw[hx] at q;exact h2 x d q
   obtain⟨cl,q1,q2,q3,q4⟩:=ii ns ((n,c)::cs) (λy hy=>h1 y (ù _ hy)) M1;refine⟨cl,?_,q2,λx ⟨d,hd⟩=>q3 x ?_,λy hy hf=>?_⟩
   ·rw[ly];simp only[beq_self_eq_true,if_true,e,pure_bind];exact q1
   ·rw[İ];cases hx:x== n with
    |true=>exact⟨c,rfl⟩
    |false=>exact⟨d,hd⟩
   ·rcases ė.mp hy with rfl|hy
    ·exact q3 n ⟨c,by rw[İ,beq_self_eq_true]⟩
    ·exact q4 y hy hf
  ·have hb:(k== ϳ)=false:=by simpa using hk
   obtain⟨cl,q1,q2,q3,q4⟩:=ii ns cs (λy hy=>h1 y (ù _ hy)) h2;refine⟨cl,?_,q2,q3,λy hy hf=>?_⟩
   ·rw[ly];simp only[hb,iA,if_false,pure_bind];exact q1
   ·rcases ė.mp hy with rfl|hy
    ·exact absurd hf hk
    ·exact q4 y hy hf
def jj{scope:ë}{env:Env}(h:∀y∈scope.names,y.2=.free->∃c,env.cells.lookup y.1=some c) :
 ∃cl,closureFor scope env=pure cl/\(∀x c,cl.lookup x=some c->env.cells.lookup x=some c)/\∀y∈scope.names,y.2=.free->∃c,cl.lookup y.1=some c:=by
 obtain⟨cl,q1,q2,_,q4⟩:=ii (env:=env) scope.names [] h (λx c z=>by simp at z);refine⟨cl,?_,q2,q4⟩;unfold closureFor;have e:(forIn scope.names [] (λ(x:Str×ϰ) (r:List (Str×À))=>match x with
  |(name,kind)=>if(kind== .free)=true then(do let a <-cellOf env name;pure (cu ((name,a)::r))) else pure (cu r)):Sem (List (Str×À)))=pure cl:=q1
 first
  |(simp only[bind_pure];exact q1)
  |(rw[show ∀(t:Sem (List (Str×À))),(do let r <-t;pure r)=t from λt=>by simp];exact q1)
  |(simp only[q1,pure_bind])
noncomputable def ck(X:Cx)(N':List Str)(scope:ë)(cl:List (Str×À))(C:À)(s:Â)(H:Hp)(fp:List À):Cx where
 prog:=X.prog
 w:=X.w
 K:=X.K
 mg:=X.mg
 base:=X.base
 A:=X.A
 N:=N'
 s₀:= s
 H₀:= H
 env:=compEnvC scope cl C X.env
 outer:=X.stack
 stack:=X.stack
 ex:=fp
 fn:=λx=>scope.names.lookup x== some .cell
 calm:=X.calm
 pn:=[]
 xe:=λ_ _=>False
def gU(X:Cx)(sc scope:ë):List Str->List Nat->Prop
 |x::xs,j::js=>X.N[j]?=some x/\(scope.names.lookup x=some .free/\(sc.names.lookup x=some .cell\/sc.names.lookup x=some .free))/\gU X sc scope xs js
 |_,[]=>True
 | [],_::_=>False
def fM(js:List Nat)(nl:Nat)(Z:ð):ð:=js.map (λj:Nat=>(Z[j]?).getD none)++Ñ nl none
theorem pL{X:Cx}{sc scope:ë}{Z:ð}{nl:Nat}:∀{N':List Str} {js:List Nat} {i:Nat} {x:Str} {v:V},gU X sc scope N' js->N'[i]?=some x->(fM js nl Z)[i]?=some (some v)->
 ∃j:Nat,X.N[j]?=some x/\Z[j]?=some (some v)/\scope.names.lookup x=some .free/\(sc.names.lookup x=some .cell\/sc.names.lookup x=some .free)
 |N',[],i,x,v,_,_,h=>by unfold fM at h;rw[Ũ,qy,cw] at h;split at h<;>cases h
 | [],_::_,_,_,_,c,_,_=>c.elim
 |y::N',j::js,0,x,v,c,h1,h2=>by
  obtain⟨c1,c2,_⟩:=c;simp at h1;subst h1;have e:(Z[j]?).getD none=some v:=by simpa[fM] using h2
  refine⟨j,c1,?_,c2⟩;cases q:Z[j]? with
  |none=>rw[q] at e;cases e
  |some o=>rw[q] at e;exact congrArg some e
 |y::N',j::js,i+1,x,v,c,h1,h2=>by exact pL (N':=N') (js:=js) (i:=i) c.2.2 (by simpa using h1) (by simpa[fM] using h2)
section
variable{prog:Ù}{w:Ô}{A:Ú}{R:Result->Â->Prop}{s:Â}
def jk{elt target iter:Å}{ifs:List Å}{scope:ë}{pos:Pos}{it ag:Á}{env:Env}(I:Nat->Â->Prop)
 (turn:∀n s,I n s→Ç (É prog w) A (dS it) (fun r s₁=>match r with
   |none=>R (.ok .next) s₁
   |some v=>Ç (É prog w) A (lE target it v) (fun _ W7=>Ç (É prog w) A (dR target env v) (fun _ s₂=>
     Ç (É prog w) A (forIn ifs true λc r=>if r=true then do let ok <-isTrue c env (eval c env);pure (cu ok) else pure (cu r)) (λok s₃=>
      if ok=true then Ç (É prog w) A (eval elt env) (λx s₄=>
       Ç (É prog w) A (call (.builtin "list.append") [ag,x]) (λ_ s₅=>∃m,m<n/\I m s₅) (λ_ _=>False) s₄) (λ_ _=>False) s₃
      else ∃m,m<n/\I m s₃) (λ_ _=>False) s₂) (λ_ _=>False) W7) (λ_ _=>False) s₁) (λ_ _=>False) s)
 (n:Nat)(h:I n s) :
 ϕ (É prog w) A (.compLoop (.ListComp elt [⟨target,iter,ifs,0⟩] scope pos) 0 it ag env) R s:=by
 refine codeAny_loop rfl I (λn s hI=>?_) n h;show Ç _ A ((compTurn (.ListComp elt [⟨target,iter,ifs,0⟩] scope pos) 0 it ag env).onRaise (λx=>do ak x env;theTreesLotGoes x)) _ _ s;refine wpAny_noted (wpAny_noRaise ?_);rw[compTurn_list];refine Ê (cF (Ê (ı (turn n s hI) (λr s₁ h₁=>?_) λ_ _ h'=>h')));cases r with
 |none=>exact è h₁
 |some v=>
  refine Ê (ı h₁ (λ_ W7 Zac=>?_) λ_ _ h'=>h');refine Ê (ı Zac (λ_ s₂ h₂=>Ê (ı h₂ (λok s₃ h₃=>?_) λ_ _ h'=>h')) λ_ _ h'=>h');cases ok with
  |false=>exact è ⟨rfl,h₃⟩
  |true=>exact Ê (Ê (ı h₃ (λx s₄ h₄=>Ê (ı h₄ (λ_ s₅ h₅=>è (è ⟨rfl,h₅⟩)) λ_ _ h'=>h')) λ_ _ h'=>h'))
end
def Bt(X:Cx)(ifs:List Å)(t:TT):Prop:=
 ∀(Ã:List (À×Obj)) (s:Â) (Z:ð) (H:Hp) (Q:Bool->Hp->Prop),Inv X Ã Z H s->t Z H Q->
  Ç (É X.prog X.w) X.A (forIn ifs true λc r=>if r=true then do let ok <-isTrue c X.env (eval c X.env);pure (cu ok) else pure (cu r)) (TP X Ã Z Q) X.xe s
def Su:TT:=λ_ H Q=>Q true H
def ED{X:Cx}:Bt X [] Su:=λ_ _ _ H _ I h=>wpAny_tests_nil ⟨H,I,h⟩
def yW(js:List Nat)(nl:Nat)(wi:TI)(g:TG)(tt:TT)(te:TE):TE:=λZ H Q=>wi Z H λJ H1=>∀D,H1 D=none->
 ∃W:Nat->Nat->ð->Hp->Prop,(∃m,W 0 m (fM js nl Z) (upd H1 D (.lst [])))/\∀i m Z' H',W i m Z' H'->
  (J.stop i H'∧Q (.ref D) H')∨(J.go i H'∧∃N:ð→Hp→Prop,(∀Z2 H2,N Z2 H2→∃m',m'<m∧W (i+1) m' Z2 H2)∧∀x H2,J.NH i H' x H2→g x Z' H2 fun Z2 H3=>tt Z2 H3 fun c H4=>
    if c=true then te Z2 H4 λy H5=>∃ys,H5 D=some (.lst ys)/\ys.length<sizeLine/\N Z2 (upd H5 D (.lst (ys ++ [y]))) else N Z2 H4)
section
variable{X:Cx}{elt tg iter:Å}{ifs:List Å}{scope:ë}{pos:Pos}{wi:TI}{g:TG}{tt:TT}{te:TE}
theorem eL{env:Env}:∀{names:List (Str×ϰ)} {x:Str} {k:ϰ},(k=.cell\/k=.free)->
 (names.map λ(n,k)=>if(k== ϳ && env.scope.kind== .function && env.kindOf n== some .cell) then(n,cJ) else(n,k)).lookup x=some k->(x,ϳ)∈names\/(x,cJ)∈names
 | [],x,k,_,h=>by simp at h
 |(n,q)::r,x,k,hk,h=>by
  have ih:=@eL env r x k hk;rw[á] at h;by_cases hx:x=n
  ·subst hx;by_cases hf:q=.free
   ·subst hf;exact .inl ŧ
   ·have hb:(q== ϳ)=false:=by simpa using hf
    have e:(if(q== ϳ && env.scope.kind== .function && env.kindOf x== some .cell)=true then(x,cJ) else(x,q))=(x,q):=by rw[hb];rfl
    have h2:=h;simp only[e,İ,beq_self_eq_true] at h2;have:q=k:=Ŋ h2;rcases hk with hk|hk
    ·rw[this,hk];exact .inr ŧ
    ·exact absurd (this.trans hk) hf
  ·have hn:(x== n)=false:=by simpa using hx
   have h3:(x,ϳ)∈r\/(x,cJ)∈r:=ih (by
    by_cases c:(q== ϳ && env.scope.kind== .function && env.kindOf n== some .cell)=true
    ·simp only[c,if_true,İ,hn] at h;exact h
    ·simp only[c,if_false,iA,İ,hn] at h;exact h)
   rcases h3 with h3|h3
   ·exact .inl (ù _ h3)
   ·exact .inr (ù _ h3)
theorem ů:∀(names:List (Str×ϰ)) (n:Nat) (ag:List (Str×À)),ĥ n names ag=ĥ n names []++ag
 | [],_,_=>rfl
 |(x,k)::r,n,ag=>by
  unfold ĥ;split
  ·rw[ů r (n+1) ((x,n)::ag),ů r (n+1) [(x,n)],qz];rfl
  ·exact ů r n ag
theorem eM:∀(names:List (Str×ϰ)) (n:Nat) {x:Str} {c:À},(x,c)∈ĥ n names []->(x,cJ)∈names
 | [],_,_,_,h=>by simp[ĥ] at h
 |(y,k)::r,n,x,c,h=>by
  unfold ĥ at h;split at h
  ·rename_i hk;rw[ů r (n+1) [(y,n)]] at h;rcases ah.mp h with h|h
   ·exact ù _ (eM r _ h)
   ·have e:(x,c)=(y,n):=by simpa using h
    cases e;rw[beq_iff_eq.mp hk];exact ŧ
  ·exact ù _ (eM r _ h)
structure W8(X:Cx)(scope:ë)(n:Nat)(h:Ë)(cl:List (Str×À)):Prop where
 at_:∀x c,cl.lookup x=some c->(X.env.cells.lookup x=some c/\scope.names.lookup x≠some .cell)\/(n<c/\h.IsCell c none/\scope.names.lookup x=some .cell)
 inj:∀x y c,cl.lookup x=some c->cl.lookup y=some c->n<c->x=y
 has:∀x,((x,ϳ)∈scope.names\/(x,cJ)∈scope.names)->∃c,cl.lookup x=some c
def Bu{X:Cx}{scope:ë}{n:Nat}{h:Ë}{cl:List (Str×À)}(hcell:∀y∈scope.names,y.2=.cell->scope.names.lookup y.1=some .cell)
 (h1:∀x c,cl.lookup x=some c->X.env.cells.lookup x=some c)(h2:∀y∈scope.names,y.2=.free->∃c,cl.lookup y.1=some c)(ku:∀x c,X.env.cells.lookup x=some c->c<n)
 (ok:CellsOk h (n+1) (ĥ (n+1) scope.names [])):W8 X scope n h (ĥ (n+1) scope.names cl):=by
 have sp:∀x c,(ĥ (n+1) scope.names cl).lookup x=some c->(cl.lookup x=some c/\(ĥ (n+1) scope.names []).lookup x=none)\/(ĥ (n+1) scope.names []).lookup x=some c:=λx c e=>by
  rw[ů,List.lookup_append] at e;cases q:(ĥ (n+1) scope.names []).lookup x with
  |none=>rw[q] at e;exact .inl ⟨by simpa using e,rfl⟩
  |some d=>rw[q] at e;exact .inr (by simpa using e)
 refine⟨λx c e=>?_,λx y c e1 e2 hc=>?_,λx hx=>?_⟩
 ·rcases sp x c e with⟨e,q⟩|e
  ·refine .inl ⟨h1 x c e,λz=>?_⟩;obtain⟨d,hd⟩:=ji (sc:=scope) (n:=n+1) z;rw[hd] at q;cases q
  ·have m:=mem_of_lookup e;exact .inr ⟨(ok.empty x c m).2,(ok.empty x c m).1,hcell _ (eM _ _ m) rfl⟩
 ·have nw:∀z,(ĥ (n+1) scope.names cl).lookup z=some c→(ĥ (n+1) scope.names []).lookup z=some c:=fun z e=>by
   rcases sp z c e with⟨e,q⟩|e
   ·exact absurd (ku z c (h1 z c e)) (Nat.lt_asymm hc)
   ·exact e
  exact name_of_addr ok.apart (mem_of_lookup (nw x e1)) (mem_of_lookup (nw y e2))
 ·rw[ů,List.lookup_append];rcases hx with hx|hx
  ·obtain⟨c,hc⟩:=h2 _ hx rfl;cases q:(ĥ (n+1) scope.names []).lookup x with
   |none=>exact⟨c,by simpa using hc⟩
   |some d=>exact⟨d,rfl⟩
  ·obtain⟨d,hd⟩:=ji (sc:=scope) (n:=n+1) (hcell _ hx rfl);rw[hd];exact⟨d,rfl⟩
def gW{M:ϔ}{A:Ú}{E:Á->Â->Prop}{s:Â}{scope:ë}{globals:À}{zW:List (Str×À)}{ç:Str}
 {func:Option À}{code:Á}{env0:Env}{builtins:À}{Q:Env->Â->Prop}
 (hQ:∀h',h'.Ns s.heap.objs.size (fun _=>none)→(∀b o,s.heap.get? b=some o→h'.get? b=some o)→CellsOk h' (s.heap.objs.size+1) (ĥ (s.heap.objs.size+1) scope.names [])→
   Q (newEnv scope s.heap.objs.size globals (ĥ (s.heap.objs.size+1) scope.names zW) ç func code (some env0) builtins) {s with heap:=h'}) :
 Ç M A (newFunctionEnv scope globals zW [] ç func code (some env0) builtins) Q E s:=by
 simp only[newFunctionEnv,Option.isSome_some,if_true];refine Ê (wpAny_alloc ?_);refine Ê (wpAny_layCells _ (λname kind cells=>by cases hkc:kind== cJ<;>simp[hkc]) _ _ _ _ ?_);have ok:=cellsFrom_ok scope.names (s.heap.push {cls:=.type "dict",data:=.dict #[]}) (s.heap.objs.size+1) [] ⟨λ_ _ hm=>(nomatch hm),yc⟩ (by rw[aT];exact â _);rw[aT] at ok;rw[show({s with heap:=s.heap.push {cls:=.type "dict",data:=.dict #[]}}:Â).heap.objs.size=s.heap.objs.size+1 from aT ..];refine Ê ?_;rw[List.forIn_nil];exact è (è (hQ _ ((Heap.Ns.new s.heap (.type "dict")).keeps (pushCells_keeps _ _)) (λb o e=>pushCells_keeps _ _ b o (ô _ e)) ok))
theorem jm{env:Env}:∀{names:List (Str×ϰ)} {x:Str},names.lookup x=some .free->
 ¬(names.map λ(n,k)=>if(k== ϳ && env.scope.kind== .function && env.kindOf n== some .cell) then(n,cJ) else(n,k)).lookup x=some .local
 | [],x,h=>by simp at h
 |(n,q)::r,x,h=>by
  intro h2;rw[á] at h2;rw[İ] at h;cases hx:x== n with
  |true=>
   rw[hx] at h;cases h;by_cases c:(ϳ== ϳ && env.scope.kind== .function && env.kindOf n== some .cell)=true
   ·simp only[c,if_true,İ,hx] at h2;cases h2
   ·simp only[c,if_false,iA,İ,hx] at h2;cases h2
  |false=>
   rw[hx] at h;have ih:=jm (env:=env) h;by_cases c:(q== ϳ && env.scope.kind== .function && env.kindOf n== some .cell)=true
   ·simp only[c,if_true,İ,hx] at h2;exact ih h2
   ·simp only[c,if_false,iA,İ,hx] at h2;exact ih h2
def pM{Ã:List (À×Obj)}{Z:ð}{H:Hp}{s:Â}{N':List Str}{js:List Nat}{nl:Nat}{sc:ë}{cl:List (Str×À)}{fp:List À}{h':Ë}{tk:Nat}
 (zX:X.env.scope=sc)(hk:scope.kind=.function)(hcap:gU X sc scope N' js)(hlen:js.length+nl=N'.length)(B:W8 X scope s.heap.objs.size h' cl)
 (I:Inv X Ã Z H s)(hf:∀b∈fp,gO X Ã H b)(ku:∀b∈fp,b<s.heap.objs.size)
 (hn:h'.Ns s.heap.objs.size (λ_=>none))(kp:∀b o,s.heap.get? b=some o->h'.get? b=some o) :
 Inv (ck X N' scope cl s.heap.objs.size s H fp) [] (fM js nl Z) H {s with heap:=h',toks:=tk}:=by
 have Bv:∀x,((ck X N' scope cl s.heap.objs.size s H fp).env.kindOf x=some .cell\/(ck X N' scope cl s.heap.objs.size s H fp).env.kindOf x=some .free)->∃c,cl.lookup x=some c:=λx hx=>by
  rcases hx with hx|hx
  ·exact B.has x (eL (.inl rfl) hx)
  ·exact B.has x (eL (.inr rfl) hx)
 have lt:∀x c,X.env.cells.lookup x=some c->c<s.heap.objs.size:=λx c e=>by obtain⟨v,o,ho,_⟩:=I.cell x c e;exact í ho
 have inj:∀x y c,cl.lookup x=some c->cl.lookup y=some c->x=y:=λx y c e1 e2=>by
  rcases B.at_ x c e1 with⟨q1,_⟩|⟨q1,_⟩
  ·rcases B.at_ y c e2 with⟨q2,_⟩|⟨q2,_⟩
   ·exact I.ok.inj x y c q1 q2
   ·exact absurd (lt x c q1) (Nat.lt_asymm q2)
  ·exact B.inj x y c e1 e2 q1
 refine⟨⟨I.ok.mod,hk,I.ok.glob,I.ok.blt,â _,inj,Bv,λx c z e=>by
  rcases B.at_ x c e with⟨_,q⟩|⟨q,_⟩
  ·exact absurd (beq_iff_eq.mp z) q
  ·exact iH q,I.ok.hd,I.ok.frames,.inl rfl,λb hb=>⟨Ĥ (ku b hb),λx c e=>by
  rcases B.at_ x c e with⟨q,_⟩|⟨q,_⟩
  ·exact(hf b hb).2.2.2.2.1 x c q
  ·exact ai (qK (ku b hb) q)⟩,
  I.bs,Ő I.ok.yJ I.sz,fun b o e hb=>?_,fun b hb hz=>?_,I.stack,I.lQ,I.tb⟩,rfl,I.bare,Un.kept kp,⟨_,hn,fun i x v e1 e2 e3=>?_⟩,fun x c e=>?_,I.hok.fresh (â _),fun x c e=>by
    rcases B.at_ x c e with⟨q,_⟩|⟨q,_⟩
    ·exact I.ca x c q
    ·exact I.hok.fresh (iH q),λp hp=>?_,I.hok.kept kp,?_⟩
 ·rcases(hf b hb).2.2.2.1 with z|z
  ·exact I.ok.r_ b o e z
  ·exact absurd (ŏ (í e) (Ő I.ok.yJ z)) (ϓ _)
 ·rcases ė.mp (I.mq b hz) with z|z
  ·exact(hf b hb).2.1 z
  ·exact(hf b hb).2.2.1 z
 ·obtain⟨j,q1,q2,q0,q3⟩:=pL hcap e1 e2;obtain⟨m,hm,hl⟩:=I.loc;have Sv:AU X.env.scope x:=by
   rw[zX];rcases q3 with q3|q3
   ·exact .inr (.inl q3)
   ·exact .inr (.inr q3)
  obtain⟨u,ru,lk⟩:=hl j x v q1 q2 Sv;refine⟨u,ru,?_⟩;rcases lk with⟨k1,_⟩|⟨k1,c,hc,ic⟩
  ·exfalso;have k1':sc.names.lookup x=some .local:=by rw[<-zX];exact k1
   rcases q3 with q3|q3<;>(rw[k1'] at q3;cases q3)
  ·have e3':(ck X N' scope cl s.heap.objs.size s H fp).env.kindOf x=some .local\/(ck X N' scope cl s.heap.objs.size s H fp).env.kindOf x=some .cell\/(ck X N' scope cl s.heap.objs.size s H fp).env.kindOf x=some .free:=e3;rcases e3' with z|z
   ·exact absurd z (jm (env:=X.env) q0)
   ·obtain⟨d,hd⟩:=Bv x z;have:d=c:=by
     rcases B.at_ x d hd with⟨q,_⟩|⟨_,_,q⟩
     ·rw[hc] at q;exact(Ŋ q).symm
     ·rw[q0] at q;cases q
    subst this;exact .inr ⟨z,d,hd,by
     obtain⟨o,ho,P9⟩:=ic;exact⟨o,kp _ _ ho,P9⟩⟩
 ·rcases B.at_ x c e with⟨q,_⟩|⟨_,q,_⟩
  ·obtain⟨v,o,ho,hd⟩:=I.cell x c q;exact⟨v,o,kp _ _ ho,hd⟩
  ·exact⟨none,q⟩
 ·exact absurd hp (by simp[ck])
 ·show _=N'.length;rw[<-hlen];simp[fM]
def mH{Ã:List (À×Obj)}{Z Z':ð}{H H':Hp}{s s':Â}{N':List Str}{cl:List (Str×À)}{fp:List À}{h':Ë}(I:Inv X Ã Z H s)(hf:∀b∈fp,gO X Ã H b)
 (J:Inv (ck X N' scope cl s.heap.objs.size s H fp) [] Z' H' s')(kp:∀b u,b≠s.heap.objs.size->s'.heap.get? b=some u->h'.get? b=some u):Inv X Ã Z H' {s' with heap:=h'}:=by
 have ne:∀{b:À} {o:Obj},s.heap.get? b=some o->b≠s.heap.objs.size:=λe=>Ĥ (í e);have u:=J.base;refine I.call' (ch:=fp) J.os ⟨λb o e n hb hx=>kp b o (ne e) (u.keep b o e n hb hx),λb o e n hb hx=>?_,λb o e n hx=>u.free b o e n hx,λb o e hx=>?_,u.tups,u.eI,u.c_⟩ (yV J.hok J.free kp) J.bare λb hb=>?_
 ·obtain⟨sl,q⟩:=u.slot b o e n hb hx;exact⟨sl,kp b _ (ne e) q⟩
 ·obtain⟨o',q⟩:=u.there b o e hx;exact⟨o',kp b _ (ne e) q⟩
 ·exact⟨(hf b hb).2.2.2.1,(hf b hb).2.1,(hf b hb).2.2.2.2.1,(hf b hb).2.2.2.2.2⟩
def yX(N':List Str)(js:List Nat)(nl:Nat)(sc:ë)(zX:X.env.scope=sc)(hcalm:X.calm=true)
 (hi:PI X.ŗ tg iter wi)(hg:∀cl C s H fp,PG (ck X.ŗ N' scope cl C s H fp) tg g)(ht:∀cl C s H fp,Bt (ck X.ŗ N' scope cl C s H fp) ifs tt)(he:∀cl C s H fp,PE (ck X.ŗ N' scope cl C s H fp) elt te)
 (hcap:gU X.ŗ sc scope N' js)(hlen:js.length+nl=N'.length:=by rfl)
 (hk:scope.kind=.function:=by rfl)(hcell:∀y∈scope.names,y.2=.cell->scope.names.lookup y.1=some .cell:=by decide +kernel)(hnames:∀y∈scope.names,y.2=.local->scope.names.lookup y.1=some .local:=by decide +kernel)
 (hfree:∀y∈scope.names,y.2=.free->(sc.names.lookup y.1=some .cell\/sc.names.lookup y.1=some .free):=by decide +kernel)
 (hs:∀x,aQ iter X.env x=pure x:=by intro _;rfl) :
 PE X.ŗ (.ListComp elt [⟨tg,iter,ifs,0⟩] scope pos) (yW js nl wi g tt te):=by
 intro Ã s Z H Q I h;obtain⟨N6,c1,c2,c3⟩:=jj (scope:=scope) (env:=X.ŗ.env) λy hy hf=>I.ok.has y.1 (by
  have:=hfree y hy hf;rw[<-zX] at this;exact this)
 rw[eval_ListComp];refine yj (use:=none) rfl hs c1 hk hnames (ň (hi Ã s Z H _ I h) λv s1 h1=>ň h1 λRP s2 h2=>?_);obtain⟨it,fp,tn,J,H2,e,I2,T,zU,f2,q2⟩:=h2;subst e;refine qS (gW (λh₁ xQ iy J7=>?_));dsimp only at xQ iy J7 ⊢;generalize J8:s2.heap.push {cls:=.type "list",dict:=none,data:=.seq ([]:List Á).toArray}=bV at xQ iy J7 ⊢;have hD:H2 s2.heap.objs.size=none:=I2.hok.fresh (â _);have I3:Inv X.ŗ Ã Z (upd H2 s2.heap.objs.size (.lst [])) {s2 with heap:=bV}:=by rw[<-J8];exact I2.laid (t':=s2.toks) (λb u e=>ô _ e) (â _) ⟨Ÿ _,[],0,.nil,ļ _ rfl⟩
 have EE:∀b∈fp,b<s2.heap.objs.size:=λb hb=>by obtain⟨o,ho,_⟩:=T.obj 0 _ zU b hb;exact í ho
 have J9:bV.objs.size=s2.heap.objs.size+1:=by rw[<-J8,aT]
 have f3:∀b∈fp,gO X.ŗ Ã (upd H2 s2.heap.objs.size (.lst [])) b:=λb hb=>by obtain⟨g0,g1⟩:=f2 b hb;exact⟨by rw[Ö (Ĥ (EE b hb))];exact g0,g1⟩
 have B:=Bu (X:=X.ŗ) (cl:=N6) hcell c2 c3 (λx c e=>by obtain⟨v,o,ho,_⟩:=I3.cell x c e;exact í ho) J7;generalize ĥ (bV.objs.size+1) scope.names N6=cl at B ⊢;obtain⟨W,⟨m0,w0⟩,turn⟩:=q2 s2.heap.objs.size hD;have I4:=pM (X:=X.ŗ) (N':=N') (js:=js) (nl:=nl) (sc:=sc) (scope:=scope) (cl:=cl) (fp:=fp) (h':=h₁) (tk:=s2.toks) zX hk hcap hlen B I3 f3 (λb hb=>by show b<bV.objs.size;rw[J9];exact gl (EE b hb)) xQ iy;have N7:tn 0 h₁:= T.keep 0 _ _ zU λb hb o e=>iy b o (by rw[<-J8];exact ô _ e);have Sw:∀b∈fp,(upd H2 s2.heap.objs.size (.lst [])) b=none:=λb hb=>(f3 b hb).1;have stat:∀{H':Hp},(∀b∈fp,H' b=none)->∀b∈fp,gO (ck X.ŗ N' scope cl bV.objs.size {s2 with heap:=bV} (upd H2 s2.heap.objs.size (.lst [])) fp) [] H' b:=fun{H'} hn b hb=>by
  obtain⟨g0,g1,g2,g3,g4,g5⟩:=f3 b hb;refine⟨hn b hb,Ĥ (by show b<bV.objs.size;rw[J9];exact gl (EE b hb)),λz=>?_,.inl hb,λx c e=>by
   rcases B.at_ x c e with⟨q,_⟩|⟨q,_⟩
   ·exact g4 x c q
   ·exact ai (qK (by show b<bV.objs.size;rw[J9];exact gl (EE b hb)) q),λp hp=>absurd hp (by simp[ck])⟩
  rcases ė.mp (I3.mq b z) with z|z
  ·exact g1 z
  ·exact g2 z
 have loop:∀s₃:Â,s₃= {s2 with heap:=h₁}->
  ϕ (É X.prog X.w) X.A (.compLoop (.ListComp elt [⟨tg,iter,ifs,0⟩] scope pos) 0 (.ref it) (.ref s2.heap.objs.size) (compEnvC scope cl bV.objs.size X.ŗ.env))
   (compPost (É X.prog X.w) X.A X.ŗ.xe none (EP X.ŗ Ã Z Q) (.ref s2.heap.objs.size) bV.objs.size) s₃:= by
  rintro s₃ rfl;refine jk (λn s'=>∃i Z' H',Inv (ck X.ŗ N' scope cl bV.objs.size {s2 with heap:=bV} (upd H2 s2.heap.objs.size (.lst [])) fp) [] Z' H' s'/\tn i s'.heap/\(∀b∈fp,H' b=none)/\W i n Z' H') ?_ m0 ⟨0,_,_,I4,N7,Sw,w0⟩;rintro n s5 ⟨i,Z5,H5,I5,Eg,JJ,w5⟩;rcases turn i n Z5 H5 w5 with⟨stop,qn⟩|⟨go,N,hN,step⟩
  ·refine ň (T.done (ck X.ŗ N' scope cl bV.objs.size {s2 with heap:=bV} (upd H2 s2.heap.objs.size (.lst [])) fp) rfl rfl rfl hcalm i [] s5 Z5 H5 (λ_ _=>False) I5 (stat JJ) Eg stop) λr s6 ⟨hr,I6⟩=>?_;subst hr;obtain⟨m,hm,_⟩:=I6.loc;refine⟨m,hm,λh' Qi=>⟨.ref s2.heap.objs.size,H5,mH I3 f3 I6 (λb u hb e=>Qi.extBut b u hb e),rfl,qn⟩⟩
  ·refine ň (T.item (ck X.ŗ N' scope cl bV.objs.size {s2 with heap:=bV} (upd H2 s2.heap.objs.size (.lst [])) fp) rfl rfl rfl hcalm i [] s5 Z5 H5 (λ_ _=>False) I5 (stat JJ) Eg go) λr s6 ⟨u,hr,h6⟩=>?_;subst hr;refine ň h6 λ_ s7 ⟨x,H7,I7,r7,y7,Ka,Sx⟩=>?_;have Sy:=I7.pinned (stat Sx) (T.obj _ _ Ka);have again:∀{s8:Â} {Z8:ð} {H8:Hp},Inv (ck X.ŗ N' scope cl bV.objs.size {s2 with heap:=bV} (upd H2 s2.heap.objs.size (.lst [])) fp) ([]++jV fp s7.heap) Z8 H8 s8->
    Inv (ck X.ŗ N' scope cl bV.objs.size {s2 with heap:=bV} (upd H2 s2.heap.objs.size (.lst [])) fp) [] Z8 H8 s8/\tn (i+1) s8.heap/\∀b∈fp,H8 b=none:=fun{s8 Z8 H8} I8=>by
    refine⟨I8.fG,T.keep _ _ _ Ka λb hb o e=>(I8.pin (b,o) (Ŷ _ (Ŷ _ (aH hb e)))).1,λb hb=>?_⟩;obtain⟨o,e,d⟩:=T.obj _ _ Ka b hb;exact(I8.pin (b,o) (Ŷ _ (Ŷ _ (aH hb e)))).2.1
   refine ň (hg cl _ _ _ fp _ s7 Z5 H7 x u _ Sy r7 (step x H7 y7)) λ_ s8 ⟨Z8,H8,I8,q8⟩=>?_;refine ň (ht cl _ _ _ fp _ s8 Z8 H8 _ I8 q8) λc s9 ⟨H9,I9,q9⟩=>?_;cases c with
   |false=>rw[if_neg bI] at q9 ⊢;obtain⟨m',M6,w9⟩:=hN _ _ q9;obtain⟨a1,a2,a3⟩:=again I9;exact⟨m',M6,i+1,Z8,H9,a1,a2,a3,w9⟩
   |true=>rw[if_pos rfl] at q9 ⊢;refine ň (he cl _ _ _ fp _ s9 Z8 H9 _ I9 q9) λyv Sz ⟨y,SA,SD,UW,ys,UX,UY,UZ⟩=>?_;refine ň (aJ _ Sz Z8 SA (.ref s2.heap.objs.size) [y] (.ref s2.heap.objs.size) [yv] (λ_ Kb=>N Z8 Kb) SD rfl (.cons UW .nil) ⟨_,ys,y,rfl,rfl,UX,UY,UZ⟩) λ_ XB ⟨v11,Kb,SE,_,M7⟩=>?_;obtain⟨a1,a2,a3⟩:=again SE;obtain⟨m',M6,M7⟩:=hN _ _ M7;exact⟨m',M6,i+1,Z8,Kb,a1,a2,a3,M7⟩
 exact codeAny_compStart_list (loop _ rfl) (T.self _ 0 _ _ _ N7 (loop _ rfl))
end
def W9(z:Str):It:=⟨λi _=>i<z.cps.size,λi H x H'=>H'=H/\∃c,z.cps.toList[i]?=some c/\x=.str ⟨#[c]⟩,λi _=>i=z.cps.size⟩
def Am{P:Ù}{w:Ô}{K:Æ}{tg:Å}(it:À)(z:Str)(t:Tok)(ty:String)
 (hW:∀A:Ú,A.handled=none->Walks P w A it [it] [it] z.cps.size (SignAt z) (λi h=>h.IsStrIter it ty z t i))
 (hS:∀(A:Ú) (i:Nat) (s:Â) (Q:Á->Â->Prop) (E:Á->Â->Prop),s.heap.IsStrIter it ty z t i->Q (.ref it) s->Ç (É P w) A (pyIter (.ref it)) Q E s)
 (gd:["enumerate","zip","dict_itemiterator","dict_reverseitemiterator","odict_iterator","itertools.zip_longest","itertools.pairwise"].contains ty=false):AO P w K tg (W9 z) [it] it (λi h=>h.IsStrIter it ty z t i) where
 mem:=by simp
 obj:=λi h st b hb=>by
  have e:b=it:=by simpa using hb
  subst e;obtain⟨o,e,c,d⟩:=st;exact⟨o,e,λv z=>by rw[d] at z;cases z⟩
 keep:=λi h h' st k=>by obtain⟨o,e,c,d⟩:=st;exact⟨o,k it (by simp) o e,c,d⟩
 item:=by intro X hP hw hK hc i Ã s Z H E I hf st hg;subst hP hw hK;obtain⟨f0,f1,f2,f3,f4,f5⟩:=hf it (by simp);refine(hW X.A (I.ok.hd hc)).item i s _ _ hg st λv h' tk hv DJ kk=>?_;obtain⟨c,u,hcu,rfl⟩:=hv;have I1:Inv X Ã Z H {s with heap:=h',toks:=tk}:=I.turned (λb o hb e=>kk b o (by simpa using hb) e) f0 f1 f3 f4 f5;obtain⟨o,e,cl,d⟩:=id DJ;exact⟨_,rfl,yN (s:={s with heap:=h',toks:=tk}) e cl d gd ⟨.str ⟨#[c]⟩,H,I1,⟨u,rfl⟩,⟨rfl,c,by simpa using hcu,rfl⟩,DJ,λb hb=>(hf b hb).1⟩⟩
 done:=by intro X hP hw hK hc i Ã s Z H E I hf st hg;subst hP hw hK;obtain⟨f0,f1,f2,f3,f4,f5⟩:=hf it (by simp);have e:i=z.cps.size:=hg;subst e;exact(hW X.A (I.ok.hd hc)).done s _ _ st λh' tk kk=>⟨rfl,I.turned (λb o hb e=>kk b o (by simpa using hb) e) f0 f1 f3 f4 f5⟩
 self:=hS
section
end
end M3
namespace M4
open PySem PySem.Spec PyProof.Rows L2 M2 M3
section
variable{X:Cx}
def EG{bs:List Bool}:∀{us:List Á},ġ (bs.map V.bl) us->us=bs.map Ş:=by
 induction bs with
 |nil=>intro us r;rw[Ũ] at r;cases r;rfl
 |cons b bs ih=>
  intro us r;rw[á] at r;cases r with
  |cons r1 r2=>cases r1;rw[ih r2];rfl
def all_range(bs:List Bool):(ϑ (bs.map Ş).toArray.size).all (λi=>bs.getD i false)=bs.all id:=by
 have e:(bs.map Ş).toArray.size=bs.length:=by simp
 rw[e,lq];simp only[cx,lu,id];constructor
 ·intro h b hb;obtain⟨i,hi,rfl⟩:=List.mem_iff_getElem.mp hb;have:=h i hi;rw[qA,Ϭ hi] at this;exact this
 ·intro h i hi;rw[qA,Ϭ hi];exact h _ (qB hi)
def uJ{prog:Ù}{w:Ô}{A:Ú}(bs:List Bool):TruthOf prog w A (λi v=>(bs.map Ş).toArray[i]?=some v) (λi=>bs.getD i false):=by
 intro i v s Q E hv hq;have FQ:bs[i]?.map Ş=some v:=by rw[<-ķ];simpa using hv
 cases hb:bs[i]? with
 |none=>rw[hb] at FQ;cases FQ
 |some b=>rw[hb] at FQ;cases FQ;dsimp only at hq;rw[qA,hb] at hq;exact bL hq
def Kc(K:Æ):List V->Hp->VK->Prop:=λxs H Q=>match xs with
 | [.ref p]=>∃bs:List Bool,ϐ K H p (bs.map V.bl)/\Q (.bl (bs.all id)) H
 |_=>False
def mJ(hc:X.calm=true):ū X (.builtin "all") (Kc X.K):=by
 intro Ã s Z H xs us Q I r h;unfold Kc at h;split at h
 ·rename_i p;obtain⟨bs,hS,q⟩:=h;obtain⟨u,rfl,ru⟩:=vals1 r;cases ru;obtain⟨Ğ,rv,pl,hz⟩:=I.list hS;have e:=EG rv;subst e;have hp:p≠s.heap.objs.size:=by
   obtain⟨o,n,e,_⟩:=pl;exact Ĥ (í e)
  refine call_all_walk (iU pl.isList ?_);refine⟨s.heap.objs.size,_,_,_,_,_,_,rfl,Walks.list (A:=X.A.in1) (show X.A.in1.handled=none from I.ok.hd hc) s.heap.objs.size p hp (bs.map Ş).toArray,⟨⟨_,ļ _ rfl,rfl,rfl⟩,pl.isList.at λo e=>ô _ e⟩,uJ bs,λh' tk k=>?_⟩;rw[all_range];exact⟨.bl _,H,I.kept λb o e=>k b o (by simpa using Ĥ (í e)) (ô _ e),rfl,q⟩
 ·exact h.elim
end
noncomputable abbrev S(l:List Nat):Str:=⟨l.toArray⟩
def Kd(z:Str):S z.cps.toList=z:=by cases z;simp
def Gi(l:List Nat):(S l).length=l.length:=by simp[Ϙ]
def mK(z:Str):z.cps.toList.length=z.length:=by simp[Ϙ]
def Gj(a b:List Nat):S a++S b=S (a++b):=by refine PyProof.Rows.ext_toList ?_;rw[PySem.W.KT.app_list]
def sw(xs:List Nat)(lo hi:Option Int):List Nat:=(xs.drop (HT.gC xs.length 0 lo)).take (HT.gC xs.length xs.length hi-HT.gC xs.length 0 lo)
def DN(z:Str)(lo hi:Option Int):gv lo hi 1 z.length=(ϑ (HT.gC z.length z.length hi-HT.gC z.length 0 lo)).map (HT.gC z.length 0 lo + ·):=by
 have hc:∀(o:Option Int) (d:Nat),d<=z.length->(match o with|none=>((d:Nat):Int)|some i=>max 0 (min (if i<0 then i+(z.length:Int) else i) (z.length:Int)))=((HT.gC z.length d o:Nat):Int):=by
  intro o d hd;cases o with
  |none=>rfl
  |some i=>
   show max 0 (min (if i<0 then i+(z.length:Int) else i) (z.length:Int))=((if i<0 then(i+(z.length:Int)).toNat else min i.toNat z.length:Nat):Int);by_cases h:i<0
   ·rw[if_pos h,if_pos h];lia
   ·rw[if_neg h,if_neg h];lia
 have e:gv lo hi 1 z.length=sliceRange ((HT.gC z.length 0 lo:Nat):Int) ((HT.gC z.length z.length hi:Nat):Int) 1:=by have h1:=hc lo 0 (Ÿ _);have h2:=hc hi z.length (â _);unfold gv;simp only[show(1:Int)>0 by decide,if_true];rw[<-h1,<-h2];cases lo<;>cases hi<;>rfl
 rw[e,sliceRange_one]
def EH(z:Str)(lo hi:Option Int):(gv lo hi 1 z.length).filterMap (z.cps[·]?)=sw z.cps.toList lo hi:=by rw[DN,pick_run];unfold sw;rw[mK]
def EI(xs:List Nat)(lo hi:Option Int):(sw xs lo hi).length<=xs.length:=by unfold sw;rw[lw,List.length_drop];lia
def Bw{z:Str}{t:Tok}{l u:Option (Int×Tok)}{Q:Á->Â->Prop}{s:Â}(hz:z.length<=sizeLine)
 (h:∀t' k,Q (.str (S (sw z.cps.toList (l.map (·.1)) (u.map (·.1)))) t') {s with toks:=k}):(sliceMade z t l u none).post Q s:=by
 have e:=EH z (l.map (·.1)) (u.map (·.1));unfold sliceMade;have ep:slicePicked z l u none=gv (l.map (·.1)) (u.map (·.1)) 1 z.length:=rfl;rw[ep];split
 ·rename_i hc;have hl:(gv (l.map (·.1)) (u.map (·.1)) 1 z.length).length=z.length:=by simpa using hc
  have RQ:sw z.cps.toList (l.map (·.1)) (u.map (·.1))=z.cps.toList:=by
   rw[DN,Ŏ,List.length_range] at hl;have hi:=HT.Bd z.length 0 (Ÿ _) (l.map (·.1));have hj:=HT.Bd z.length z.length (â _) (u.map (·.1));unfold sw;rw[mK];have iw:=mK z;have a0:HT.gC z.length 0 (l.map (·.1))=0\/z.length=0:=by lia
   rcases a0 with a0|a0
   ·rw[a0] at hl ⊢;rw[lz];exact xW (by lia)
   ·have:z.cps.toList=[]:=List.eq_nil_of_length_eq_zero (by lia);rw[this];simp
  have:=h t s.toks;rw[RQ,Kd] at this;exact this
 ·rw[e];exact⟨by rw[Gi];have:=EI z.cps.toList (l.map (·.1)) (u.map (·.1));rw[mK] at this;lia,h _ _⟩
section
variable{X:Cx}
def SG:V->Option Int->Option Int->Hp->VK->Prop:=λx lo hi H Q=>match x with
 | .str z=>z.length<=sizeLine/\Q (.str (S (sw z.cps.toList lo hi))) H
 |_=>False
def EJ:yQ X SG:=by
 intro Ã s Z H x v vl vu lo hi sl Q I rx hs pl pu h;cases x with
 |str z=>
  obtain⟨t,rfl⟩:=rx;obtain⟨hz,q⟩:=h;obtain⟨l,el,el2⟩:∃l:Option (Int×Tok),partValue l=vl/\l.map (·.1)=lo:=by
   cases pl with
   |none=>exact⟨none,rfl,rfl⟩
   |int i t=>exact⟨some (i,t),rfl,rfl⟩
  obtain⟨u,eu,XC⟩:∃u:Option (Int×Tok),partValue u=vu/\u.map (·.1)=hi:=by
   cases pu with
   |none=>exact⟨none,rfl,rfl⟩
   |int i t=>exact⟨some (i,t),rfl,rfl⟩
  subst el el2 eu XC;exact⟨"str",_,F.slot_str_getitem.lookup,dW s z t,wpAny_getItem_str_slice (l:=l) (u:=u) (st:=none) hs rfl (Bw hz λt' k=>⟨.str _,H,I.tok _,⟨_,rfl⟩,q⟩)⟩
 |_=>exact h.elim
def SH(K:Æ):V->Option Int->Option Int->Hp->VK->Prop:=λx lo hi H Q=>match x with
 | .ref a=>∃xs,ϐ K H a xs/\∀p,H p=none->Q (.ref p) (upd H p (.lst (uF xs lo hi)))
 | .str z=>z.length<=sizeLine/\Q (.str (S (sw z.cps.toList lo hi))) H
 |_=>False
def XD:yQ X (SH X.K):=yQ.wk (Bs.or EJ) λx lo hi H Q h=>by
 cases x with
 |ref a=>exact .inl h
 |str z=>exact .inr h
 |_=>exact h.elim
def An(z y:Str):Txt.startswith z y=decide (z.cps.toList.take y.cps.toList.length=y.cps.toList):=by
 unfold Txt.startswith;rw[StrLaws.subAt_eq,lz,mK,lq];simp only[Ą,decide_eq_true_eq,beq_iff_eq];constructor
 ·exact λh=>h.2
 ·intro h;refine⟨?_,h⟩;have h2:=congrArg aN h;rw[lw,mK,mK] at h2;lia
def sx:V->List V->Hp->VK->Prop:=λx vs H Q=>match x,vs with
 | .str z,[.str y]=>Q (.bl (decide (z.cps.toList.take y.cps.toList.length=y.cps.toList))) H
 |_,_=>False
def pN:Ni X "str.startswith" sx:=by
 intro Ã s Z H x xs v us Q I rx rs h;unfold sx at h;split at h
 ·obtain⟨t,rfl⟩:=rx;obtain⟨u,rfl,t',rfl⟩:=vals1 rs;exact SC.startswith ⟨.bl _,H,I,rfl,by rw[An];exact h⟩
 ·exact h.elim
def Ĭ(sep:List Nat):List (List Nat)->List Nat
 | []=>[]
 | [x]=>x
 |x::y::r=>x++sep++Ĭ sep (y::r)
theorem uu(sep:Str):∀ys:List (List Nat),Str.join sep (ys.map S)=S (Ĭ sep.cps.toList ys)
 | []=>rfl
 | [x]=>rfl
 |x::y::r=>by have ih:=uu sep (y::r);show S x++sep++Str.join sep ((y::r).map S)=_;have e:Ĭ sep.cps.toList (x::y::r)=x++sep.cps.toList++Ĭ sep.cps.toList (y::r):=rfl;rw[ih,e,<-Gj,<-Gj,Kd]
def EK{ys:List (List Nat)}:∀{us:List Á},ġ (ys.map λl=>V.str (S l)) us->StrsAre us (ys.map S):=by
 induction ys with
 |nil=>intro us r;rw[Ũ] at r;cases r;exact .nil
 |cons y ys ih=>
  intro us r;rw[á] at r;cases r with
  |cons r1 r2=>obtain⟨t,rfl⟩:=r1;exact .cons _ t (ih r2)
def Bx(K:Æ):V->List V->Hp->VK->Prop:=λx vs H Q=>match x,vs with
 | .str z,[.ref p]=>∃ys:List (List Nat),ϐ K H p (ys.map λl=>V.str (S l))/\(ys.map aN).sum+ys.length*z.length<=16777216/\Q (.str (S (Ĭ z.cps.toList ys))) H
 |_,_=>False
def cM:Ni X "str.join" (Bx X.K):=by
 intro Ã s Z H x xs v us Q I rx rs h;unfold Bx at h;split at h
 ·obtain⟨ys,hS,hz,q⟩:=h;obtain⟨t,rfl⟩:=rx;obtain⟨u,rfl,ru⟩:=vals1 rs;cases ru;obtain⟨Ğ,rv,pl,_⟩:=I.list hS;refine join_list pl.isList (by simpa using EK rv) ?_ λt' k=>⟨.str _,H,I.tok _,⟨t',?_⟩,q⟩
  ·have e1:((ys.map S).map (·.length))=ys.map aN:=by
    rw[ŷ];exact xX λl _=>Gi l
   rw[e1,Ŏ];exact hz
  ·unfold Txt.join;rw[StrLaws.glued_eq_join,uu]
 ·exact h.elim
end
end M4
namespace M5
open PySem PySem.Spec PyProof.Rows L2 M2 M3
section
end
section
end
section
end
section
end
end M5
namespace P
def XE:Å->Bool
 | .Starred .. =>false
 |_=>true
def į{e:Å}{es:List Å}{env:PySem.Env}(h:XE e=true):È (e::es) env=(false,PySem.eval e env)::È es env:=by cases e<;>first|rfl|cases h
open PySem PySem.Spec PyProof.Rows L2 M2
structure KK where
 K:Æ
 cm:String->À
abbrev kk(X:Cx)(cm:String->À):KK:=⟨X.K,cm⟩
inductive PV where
 |non|bl (b:Bool)|int (i:Int)|str (x:Str)|tup (xs:List PV)|lst (xs:List PV)
 |ins (C:String) (ns:List Str) (xs:List PV)|xc (C:String) (ns:List Str) (xs:List PV)|ty (n:String)|cls (C:String)
def xo(a C:À)(d:Option À):HO:=.ext λh=>∃o vs,h.get? a=some o/\o.cls=.ref C/\o.dict=d/\o.data=.fields vs
def pO(F:Hp)(d:Option À)(fs:List (Str×V)):Prop:=(d=none/\fs=[])\/∃a,d=some a/\F a=some (.xd fs)
mutual
def ü(K:KK)(F:Hp):PV->V->Prop
 | .non,v=>v=.non
 | .bl b,v=>v=.bl b
 | .int i,v=>v=.int i
 | .str x,v=>v=.str x
 | .tup ps,v=>∃a xs,v=.ref a/\dJ K.K F a xs/\Õ K F ps xs
 | .lst ps,v=>∃a xs,v=.ref a/\ϐ K.K F a xs/\Õ K F ps xs
 | .ins C ns ps,v=>∃a dx fs,v=.ref a/\F a=some (.ins (K.cm C) dx fs)/\fs.map (·.1)=ns/\Õ K F ps (fs.map (·.2))
 | .xc C ns ps,v=>∃a d fs,v=.ref a/\F a=some (xo a (K.cm C) d)/\pO F d fs/\fs.map (·.1)=ns/\Õ K F ps (fs.map (·.2))
 | .ty n,v=>v=.ty n
 | .cls C,v=>v=.ref (K.cm C)
def Õ(K:KK)(F:Hp):List PV->List V->Prop
 | [],xs=>xs=[]
 |p::ps,xs=>∃x r,xs=x::r/\ü K F p x/\Õ K F ps r
end
section
variable{K:KK}{F F':Hp}
def pO.same{d:Option À}{fs:List (Str×V)}(e:Ò F F')(h:pO F d fs):pO F' d fs:=by
 rcases h with h|⟨a,h1,h2⟩
 ·exact .inl h
 ·exact .inr ⟨a,h1,e _ _ h2⟩
mutual
theorem ü.same(e:Ò F F'):∀(p:PV) (v:V),ü K F p v->ü K F' p v
 | .non,_,h=>by unfold ü at h ⊢;exact h
 | .bl _,_,h=>by unfold ü at h ⊢;exact h
 | .int _,_,h=>by unfold ü at h ⊢;exact h
 | .str _,_,h=>by unfold ü at h ⊢;exact h
 | .ty _,_,h=>by unfold ü at h ⊢;exact h
 | .cls _,_,h=>by unfold ü at h ⊢;exact h
 | .tup ps,_,h=>by unfold ü at h ⊢;obtain⟨a,xs,h1,h2,h3⟩:=h;exact⟨a,xs,h1,Ò.tup e h2,Õ.same e ps xs h3⟩
 | .lst ps,_,h=>by unfold ü at h ⊢;obtain⟨a,xs,h1,h2,h3⟩:=h;exact⟨a,xs,h1,e.seq h2,Õ.same e ps xs h3⟩
 | .ins C ns ps,_,h=>by unfold ü at h ⊢;obtain⟨a,dx,fs,h1,h2,h3,h4⟩:=h;exact⟨a,dx,fs,h1,e _ _ h2,h3,Õ.same e ps _ h4⟩
 | .xc C ns ps,_,h=>by unfold ü at h ⊢;obtain⟨a,d,fs,h1,h2,hd,h3,h4⟩:=h;exact⟨a,d,fs,h1,e _ _ h2,hd.same e,h3,Õ.same e ps _ h4⟩
theorem Õ.same(e:Ò F F'):∀(ps:List PV) (xs:List V),Õ K F ps xs->Õ K F' ps xs
 | [],_,h=>by unfold Õ at h ⊢;exact h
 |p::ps,_,h=>by unfold Õ at h ⊢;obtain⟨x,r,h1,h2,h3⟩:=h;exact⟨x,r,h1,ü.same e p x h2,Õ.same e ps r h3⟩
end
theorem Õ.pr:∀{ps:List PV} {vs:List V},Õ K F ps vs->Paired (ü K F) ps vs
 | [],_,h=>by unfold Õ at h;subst h;exact .nil
 |p::ps,_,h=>by unfold Õ at h;obtain⟨x,r,rfl,h2,h3⟩:=h;exact .cons h2 (Õ.pr h3)
theorem Õ.of:∀{ps:List PV} {vs:List V},Paired (ü K F) ps vs->Õ K F ps vs
 | [],_,.nil=>by unfold Õ;rfl
 |p::ps,_,.cons h t=>by unfold Õ;exact⟨_,_,rfl,h,Õ.of t⟩
theorem Õ.nil:Õ K F [] []:=Õ.of .nil
theorem Õ.cons{p:PV}{v:V}{ps:List PV}{vs:List V}(h:ü K F p v)(t:Õ K F ps vs):Õ K F (p::ps) (v::vs):=Õ.of (.cons h t.pr)
theorem Õ.length{ps:List PV}{vs:List V}(h:Õ K F ps vs):ps.length=vs.length:=Paired.length h.pr
theorem bu{α β:Type}{G:α->β->Prop}:∀{l:List α} {m:List β} {i:Nat} {x:α},Paired G l m->l[i]?=some x->∃y,m[i]?=some y/\G x y
 |_,_,_,_,.nil,e=>by simp at e
 |_,_,0,_,.cons r _,e=>by simp at e;subst e;exact⟨_,rfl,r⟩
 |_,_,i+1,x,.cons _ t,e=>by obtain⟨y,h1,h2⟩:=bu (i:=i) (x:=x) t (by simpa using e);exact⟨y,by simpa using h1,h2⟩
theorem yY{α β:Type}{G:α->β->Prop}:∀{l:List α} {m:List β} {i:Nat} {y:β},Paired G l m->m[i]?=some y->∃x,l[i]?=some x/\G x y
 |_,_,_,_,.nil,e=>by simp at e
 |_,_,0,_,.cons r _,e=>by simp at e;subst e;exact⟨_,rfl,r⟩
 |_,_,i+1,y,.cons _ t,e=>by obtain⟨x,h1,h2⟩:=yY (i:=i) (y:=y) t (by simpa using e);exact⟨x,by simpa using h1,h2⟩
theorem sy{α β:Type}{G:α->β->Prop}:∀{l l2:List α} {m m2:List β},Paired G l m->Paired G l2 m2->Paired G (l++l2) (m++m2)
 |_,_,_,_,.nil,t=>t
 |_,_,_,_,.cons r s,t=>.cons r (sy s t)
theorem yZ{α β:Type}{G:α->β->Prop}:∀{l:List α} {m:List β} (n:Nat),Paired G l m->Paired G (l.take n) (m.take n)
 |_,_,0,_=>.nil
 |_,_,_+1,.nil=>.nil
 |_,_,n+1,.cons r t=>.cons r (yZ n t)
theorem y_{α β:Type}{G:α->β->Prop}:∀{l:List α} {m:List β} (n:Nat),Paired G l m->Paired G (l.drop n) (m.drop n)
 |_,_,0,h=>h
 |_,_,_+1,.nil=>.nil
 |_,_,n+1,.cons _ t=>y_ n t
def Õ.append{ps qs:List PV}{vs us:List V}(h:Õ K F ps vs)(t:Õ K F qs us):Õ K F (ps++qs) (vs++us):=Õ.of (sy h.pr t.pr)
end
inductive Slot where
 |no|sh (p:PV)|ow (ps:List PV)|bw (ps:List PV)|rc (C:String) (ns:List Str) (ps:List PV)|ot (ps qs rs:List PV)|ol (kW:List (List PV))|fr (kW:List (List PV))|bn (qs rows:List PV)|dw (cO:List (List PV×List PV))|pw (ps:List PV)
abbrev û:=List Slot
abbrev di:= Slot
def Slot.own:Slot->Bool
 | .ow _=>true
 | .rc _ _ _=>true
 | .ot _ _ _=>true
 | .ol _=>true
 | .fr _=>true
 | .pw _=>true
 |_=>false
structure Ctx where
 B:Hp
 F₀:Hp
 L:Hp
 S:À->À->String->Prop
def Gk(F:Hp)(a b:À):Hp:=λx=>if x=a\/x=b then none else F x
def ij(K:KK)(B F:Hp)(t:Bool)(ps qs rows:List PV)(v:V):Prop:=∃a b ys vs,F a=some (.lst (.ref b::ys))/\F b=some (.lst vs)/\B a=none/\B b=none/\a≠b/\Õ K (Gk F a b) qs vs/\Õ K (Gk F a b) rows ys/\((t=false/\ps=[]/\v=.ref a)\/t=true/\∃p xs,v=.ref p/\F p=some (.tup (xs ++ [.ref a]))/\Õ K (Gk F a b) ps xs)
def Ĵ(K:KK)(c:Ctx)(F H:Hp)(o:Option V):Slot->Prop
 | .no=>True
 | .sh p=>∃v,o=some v/\ü K F p v
 | .ow ps=>∃a vs,o=some (.ref a)/\H a=some (.lst vs)/\F a=none/\c.B a=none/\Õ K F ps vs
 | .bw ps=>∃a vs,o=some (.ref a)/\c.L a=some (.lst vs)/\Õ K F ps vs
 | .rc C ns ps=>∃a dx fs,o=some (.ref a)/\H a=some (.ins (K.cm C) dx fs)/\F a=none/\c.B a=none/\fs.map (·.1)=ns/\Õ K F ps (fs.map (·.2))/\c.S a dx C
 | .ot ps qs rs=>∃p a xs vs ys,o=some (.ref p)/\F p=some (.tup (xs ++ .ref a::ys))/\Õ K F ps xs/\H a=some (.lst vs)/\F a=none/\c.B a=none/\Õ K F qs vs/\Õ K F rs ys
 | .ol kW=>∃(p:À) (as:List À),o=some (.ref p)/\F p=some (.lst (as.map V.ref))/\as.Nodup/\Paired (λ(a:À) (ps:List PV)=>∃vs,H a=some (.lst vs)/\F a=none/\c.B a=none/\Õ K F ps vs) as kW
 | .fr kW=>∃(p:À) (as:List À),o=some (.ref p)/\H p=some (.lst (as.map V.ref))/\F p=none/\c.B p=none/\as.Nodup/\Paired (λ(a:À) (ps:List PV)=>∃vs,F a=some (.lst vs)/\c.B a=none/\Õ K F ps vs) as kW
 | .bn qs rows=>∃v,o=some v/\ij K c.B F false [] qs rows v
 | .pw ps=>∃a vs,o=some (.ref a)/\H a=some (.lst vs)/\F a=none/\c.B a=none/\Õ K F ps vs/\c.S a a ""
 | .dw cO=>∃(a:À) (ts:List À),o=some (.ref a)/\c.L a=some (.lst (ts.map V.ref))/\Paired (λ(t:À) (d:List PV×List PV)=>∃xs b vs,F t=some (.tup (xs ++ [.ref b]))/\Õ K F d.1 xs/\c.L b=some (.lst vs)/\Õ K F d.2 vs) ts cO
def Slot.at_(F:Hp)(x:V)(a:À):Slot->Prop
 | .ot ps _ _=>∃p xs ys,x=.ref p/\F p=some (.tup (xs ++ .ref a::ys))/\xs.length=ps.length
 | .ol _=>∃(p:À) (as:List À),x=.ref p/\F p=some (.lst (as.map V.ref))/\a∈as
 | .ow _=>x=.ref a
 | .fr _=>x=.ref a
 | .pw _=>x=.ref a
 | .rc _ _ _=>x=.ref a
 |_=>False
def Ė(F:Hp)(Z:ð)(U:û)(i:Nat)(a:À):Prop:=∃s x,U[i]?=some s/\Z[i]?=some (some x)/\s.at_ F x a
structure Ā(K:KK)(c:Ctx)(F H:Hp)(Z:ð)(U:û):Prop where
 sub:Ò F H
 base:Ò c.B H
 f0:Ò c.F₀ F
 ba:∀a,c.B a≠none->c.F₀ a=none->F a=none
 lent:∀a u,c.L a=some u->H a=some u/\F a=none
 lb:∀a,c.B a=none->c.L a=none
 len:Z.length=U.length
 slot:∀(i:Nat) s,U[i]?=some s->Ĵ K c F H ((Z[i]?).getD none) s
 sep:∀i j a,Ė F Z U i a->Ė F Z U j a->i=j
def dq(F:Hp)(Z:ð)(U:û)(a:À):Prop:=∀i,¬Ė F Z U i a
section
variable{K:KK}{c:Ctx}{F F' H H':Hp}{Z:ð}{U:û}{a:À}{o:HO}
def eN{s:Slot}{x:V}(h:s.at_ F x a):s.own=true:=by cases s<;>first|rfl|exact h.elim
def za{s:Slot}{x:V}(e:Ò F F')(h:s.at_ F x a):s.at_ F' x a:=by
 cases s with
 |ot ps qs rs=>obtain⟨p,xs,ys,h1,h2,h3⟩:=h;exact⟨p,xs,ys,h1,e _ _ h2,h3⟩
 |ol kW=>obtain⟨p,as,h1,h2,h3⟩:=h;exact⟨p,as,h1,e _ _ h2,h3⟩
 |_=>exact h
theorem mL:∀{as bs:List À},as.map V.ref=bs.map V.ref->as=bs
 | [],[],_=>rfl
 | [],_::_,h=>by cases h
 |_::_,[],h=>by cases h
 |a::as,b::bs,h=>by
  injection h with h1 h2
  injection h1 with h1
  rw[h1,mL h2]
def jo{ps qs rs:List PV}{x:V}{b:À}(h:(Slot.ot ps qs rs).at_ F x a)(h':(Slot.ot ps qs rs).at_ F x b):a=b:=by
 obtain⟨p,xs,us,h1,h2,l1⟩:=h;obtain⟨q,ys,ws,h3,h4,l2⟩:=h';rw[h1] at h3;cases h3;rw[h2] at h4;have e:xs++V.ref a::us=ys++V.ref b::ws:=by
  injection h4 with h4
  injection h4
 have e2:=(List.append_inj e (by lia)).2;injection e2 with e2
 injection e2
theorem By{α β:Type}{G:α->β->Prop}:∀{l:List α} {m:List β} {x:α},Paired G l m->x∈l->∃y,y∈m/\G x y
 |_,_,_,.nil,h=>by simp at h
 |_,_,x,.cons r t,h=>by
  rcases ė.mp h with rfl|h
  ·exact⟨_,ŧ,r⟩
  ·obtain⟨y,h1,h2⟩:=By t h;exact⟨y,ù _ h1,h2⟩
theorem cP{α β:Type}{G G':α->β->Prop}:∀{l:List α} {m:List β},Paired G l m->(∀x y,x∈l->G x y->G' x y)->Paired G' l m
 |_,_,.nil,_=>.nil
 |_,_,.cons r t,h=>.cons (h _ _ ŧ r) (cP t λx y hx=>h x y (ù _ hx))
def mM{a b:À}(e:Ò F F'):Ò (Gk F a b) (Gk F' a b):=λx u h=>by
 unfold Gk at h ⊢;split at h
 ·cases h
 ·rename_i n;rw[if_neg n];exact e x u h
def sD{a b:À}:Ò (Gk F a b) F:=λx u h=>by
 unfold Gk at h;split at h
 ·cases h
 ·exact h
theorem ij.same{B:Hp}{t:Bool}{ps qs rows:List PV}{v:V}(h:ij K B F t ps qs rows v)(e:Ò F F'):ij K B F' t ps qs rows v:=by obtain⟨a,b,ys,vs,h1,h2,h3,h4,h5,h6,h7,h8⟩:=h;refine⟨a,b,ys,vs,e _ _ h1,e _ _ h2,h3,h4,h5,h6.same (mM e) qs vs,h7.same (mM e) rows ys,h8.imp id λ⟨z,p,xs,q1,q2,q3⟩=>⟨z,p,xs,q1,e _ _ q2,q3.same (mM e) ps xs⟩⟩
def ij.base{B B':Hp}{t:Bool}{ps qs rows:List PV}{v:V}(h:ij K B F t ps qs rows v)(e:Ò B' B):ij K B' F t ps qs rows v:=by obtain⟨a,b,ys,vs,h1,h2,h3,h4,h5,h6,h7,h8⟩:=h;exact⟨a,b,ys,vs,h1,h2,e.free h3,e.free h4,h5,h6,h7,h8⟩
noncomputable def QI(t:Bool)(ps qs rows:List PV):PV:=if t then .tup (ps ++ [.lst (.lst qs::rows)]) else .lst (.lst qs::rows)
def ij.rep{B:Hp}{t:Bool}{ps qs rows:List PV}{v:V}(h:ij K B F t ps qs rows v):ü K F (QI t ps qs rows) v:=by
 obtain⟨a,b,ys,vs,h1,h2,h3,h4,h5,h6,h7,h8⟩:=h;have e1:ü K F (.lst qs) (.ref b):=by unfold ü;exact⟨b,vs,rfl,ϐ.of h2,h6.same sD qs vs⟩
 have e2:ü K F (.lst (.lst qs::rows)) (.ref a):=by unfold ü;exact⟨a,_,rfl,ϐ.of h1,Õ.cons e1 (h7.same sD rows ys)⟩
 rcases h8 with⟨rfl,rfl,rfl⟩|⟨rfl,p,xs,rfl,q2,q3⟩
 ·exact e2
 ·show ü K F (.tup (ps ++ [.lst (.lst qs::rows)])) (.ref p);unfold ü;exact⟨p,_,rfl,dJ.of q2,Õ.append (q3.same sD ps xs) (Õ.cons e2 Õ.nil)⟩
def Ĵ.grow{s:Slot}{x:Option V}(h:Ĵ K c F H x s)(eF:Ò F F')(eH:∀b vs,(∃y,x=some y/\s.at_ F y b)->H b=some vs->F b=none->c.B b=none->H' b=some vs/\F' b=none):Ĵ K c F' H' x s:=by
 cases s with
 |no=>trivial
 |sh p=>obtain⟨v,h1,h2⟩:=h;exact⟨v,h1,h2.same eF p v⟩
 |ow ps=>obtain⟨b,vs,h1,h2,h3,h4,h5⟩:=h;obtain⟨e1,e2⟩:=eH b _ ⟨_,h1,rfl⟩ h2 h3 h4;exact⟨b,vs,h1,e1,e2,h4,h5.same eF ps vs⟩
 |bw ps=>obtain⟨b,vs,h1,h2,h3⟩:=h;exact⟨b,vs,h1,h2,h3.same eF ps vs⟩
 |rc C ns ps=>obtain⟨b,dx,fs,h1,h2,h3,h4,h5,h6⟩:=h;obtain⟨e1,e2⟩:=eH b _ ⟨_,h1,rfl⟩ h2 h3 h4;exact⟨b,dx,fs,h1,e1,e2,h4,h5,h6.1.same eF ps _,h6.2⟩
 |ot ps qs rs=>obtain⟨p,b,xs,vs,ys,h1,h2,h3,h4,h5,h6,h7,h8⟩:=h;obtain⟨e1,e2⟩:=eH b _ ⟨_,h1,p,xs,ys,rfl,h2,h3.length.symm⟩ h4 h5 h6;exact⟨p,b,xs,vs,ys,h1,eF _ _ h2,h3.same eF ps xs,e1,e2,h6,h7.same eF qs vs,h8.same eF rs ys⟩
 |ol kW=>obtain⟨p,as,h1,h2,h3,h4⟩:=h;refine⟨p,as,h1,eF _ _ h2,h3,cP h4 λb ps hb ⟨vs,k1,k2,k3,k4⟩=>?_⟩;obtain⟨e1,e2⟩:=eH b _ ⟨_,h1,p,as,rfl,h2,hb⟩ k1 k2 k3;exact⟨vs,e1,e2,k3,k4.same eF ps vs⟩
 |fr kW=>obtain⟨b,as,h1,h2,h3,h4,h5,h6⟩:=h;obtain⟨e1,e2⟩:=eH b _ ⟨_,h1,rfl⟩ h2 h3 h4;exact⟨b,as,h1,e1,e2,h4,h5,cP h6 λd ps _ ⟨vs,k1,k2,k3⟩=>⟨vs,eF _ _ k1,k2,k3.same eF ps vs⟩⟩
 |bn qs rows=>obtain⟨v,h1,h2⟩:=h;exact⟨v,h1,h2.same eF⟩
 |pw ps=>obtain⟨b,vs,h1,h2,h3,h4,h5,h6⟩:=h;obtain⟨e1,e2⟩:=eH b _ ⟨_,h1,rfl⟩ h2 h3 h4;exact⟨b,vs,h1,e1,e2,h4,h5.same eF ps vs,h6⟩
 |dw cO=>obtain⟨a,ts,h1,h2,h3⟩:=h;exact⟨a,ts,h1,h2,cP h3 λt d _ ⟨xs,b,vs,k1,k2,k3,k4⟩=>⟨xs,b,vs,eF _ _ k1,k2.same eF d.1 xs,k3,k4.same eF d.2 vs⟩⟩
def Ĵ.owned{s:Slot}{y:V}(h:Ĵ K c F H (some y) s)(ha:s.at_ F y a):∃u,H a=some u/\F a=none/\c.B a=none:=by
 cases s with
 |no=>exact ha.elim
 |sh p=>exact ha.elim
 |bw ps=>exact ha.elim
 |bn qs rows=>exact ha.elim
 |dw cO=>exact ha.elim
 |pw ps=>obtain⟨b,vs,h1,h2,h3,h4,h5,h6⟩:=h;rw[show y=.ref a from ha] at h1;cases h1;exact⟨_,h2,h3,h4⟩
 |fr kW=>obtain⟨b,as,h1,h2,h3,h4,h5,h6⟩:=h;rw[show y=.ref a from ha] at h1;cases h1;exact⟨_,h2,h3,h4⟩
 |ow ps=>obtain⟨b,vs,h1,h2,h3,h4,h5⟩:=h;rw[show y=.ref a from ha] at h1;cases h1;exact⟨_,h2,h3,h4⟩
 |rc C ns ps=>obtain⟨b,dx,fs,h1,h2,h3,h4,h5,h6⟩:=h;rw[show y=.ref a from ha] at h1;cases h1;exact⟨_,h2,h3,h4⟩
 |ot ps qs rs=>obtain⟨p,b,xs,vs,ys,h1,h2,h3,h4,h5,h6,h7,h8⟩:=h;cases h1;cases jo (ps:=ps) (qs:=qs) (rs:=rs) ha ⟨p,xs,ys,rfl,h2,h3.length.symm⟩;exact⟨_,h4,h5,h6⟩
 |ol kW=>obtain⟨p,as,h1,h2,h3,h4⟩:=h;cases h1;obtain⟨q,bs,e1,e2,e3⟩:=ha;cases e1;rw[h2] at e2;have e:as=bs:=mL (by injection e2 with e2;injection e2);subst e;obtain⟨ps,_,vs,k1,k2,k3,_⟩:=By h4 e3;exact⟨_,k1,k2,k3⟩
def Ĵ.back{s:Slot}{y:V}(h:Ĵ K c F H (some y) s)(e:Ò F F')(ha:s.at_ F' y a):s.at_ F y a:=by
 cases s with
 |ot ps qs rs=>obtain⟨p,b,xs,vs,ys,h1,h2,h3,h4,h5,h6,h7,h8⟩:=h;cases h1;cases jo (ps:=ps) (qs:=qs) (rs:=rs) ha ⟨p,xs,ys,rfl,e _ _ h2,h3.length.symm⟩;exact⟨p,xs,ys,rfl,h2,h3.length.symm⟩
 |ol kW=>obtain⟨p,as,h1,h2,h3,h4⟩:=h;cases h1;obtain⟨q,bs,e1,e2,e3⟩:=ha;cases e1;rw[e _ _ h2] at e2;have z:as=bs:=mL (by injection e2 with e2;injection e2);subst z;exact⟨p,as,rfl,h2,e3⟩
 |_=>exact ha
def Bz{i:Nat}{x:V}(e:Z[i]?=some (some x)):(Z[i]?).getD none=some x:=by rw[e];rfl
def sE{i:Nat}{x:V}(e:(Z[i]?).getD none=some x):Z[i]?=some (some x):=by
 cases q:Z[i]? with
 |none=>rw[q] at e;cases e
 |some y=>rw[q] at e;exact congrArg some e
theorem Ā.owned(r:Ā K c F H Z U){i:Nat}(h:Ė F Z U i a):(∃u,H a=some u)/\F a=none/\c.B a=none:=by obtain⟨s,x,h1,h2,h3⟩:=h;have q:=r.slot i s h1;rw[Bz h2] at q;obtain⟨u,q⟩:=q.owned h3;exact⟨⟨u,q.1⟩,q.2⟩
theorem Ā.back(r:Ā K c F H Z U)(e:Ò F F'){i:Nat}(h:Ė F' Z U i a):Ė F Z U i a:=by obtain⟨s,x,h1,h2,h3⟩:=h;have q:=r.slot i s h1;rw[Bz h2] at q;exact⟨s,x,h1,h2,q.back e h3⟩
def Ā.uK(r:Ā K c F H Z U)(e:Ò F F'):∀i j a,Ė F' Z U i a->Ė F' Z U j a->i=j:=λi j a h1 h2=>r.sep i j a (r.back e h1) (r.back e h2)
def Ā.eO(r:Ā K c F H Z U)(e:Ò F F')(h:dq F Z U a):dq F' Z U a:=λi q=>h i (r.back e q)
def Ā.fresh(r:Ā K c F H Z U)(h:H a=none):dq F Z U a:=λi q=>by obtain⟨⟨u,e⟩,_⟩:=r.owned q;rw[h] at e;cases e
def Ā.alloc(r:Ā K c F H Z U)(h:H a=none):Ā K c (upd F a o) (upd H a o) Z U where
 sub:=λb u e=>by
  by_cases hb:b=a
  ·subst hb;rw[Ü] at e ⊢;exact e
  ·rw[Ö hb] at e ⊢;exact r.sub b u e
 base:=λb u e=>by
  have hb:b≠a:=λz=>by rw[z] at e;rw[r.base _ _ e] at h;cases h
  rw[Ö hb];exact r.base b u e
 f0:=fun b u e=>by
   have hb:b≠a:=λz=>by rw[z] at e;rw[r.sub _ _ (r.f0 _ _ e)] at h;cases h
   rw[Ö hb];exact r.f0 b u e
 ba:=λb h1 h2=>by
  have hb:b≠a:=λz=>by
   subst z;cases q:c.B b with
   |none=>exact h1 q
   |some u=>rw[r.base _ _ q] at h;cases h
  rw[Ö hb];exact r.ba b h1 h2
 lent:=λb u e=>by
  obtain⟨h1,h2⟩:=r.lent b u e;have hb:b≠a:=λz=>by rw[z,h] at h1;cases h1
  rw[Ö hb,Ö hb];exact⟨h1,h2⟩
 lb:=r.lb
 len:=r.len
 slot:=λi s e=>by
  have hF:F a=none:=r.sub.free h;refine(r.slot i s e).grow (Ò.upd hF) λb u _ h1 h2 h3=>?_;have hb:b≠a:=λz=>by rw[z,h] at h1;cases h1
  rw[Ö hb,Ö hb];exact⟨h1,h2⟩
 sep:=r.uK (Ò.upd (r.sub.free h))
def Ā.made(r:Ā K c F H Z U)(h:H a=none):Ā K c F (upd H a o) Z U where
 sub:=r.sub.trans (Ò.upd h)
 base:=r.base.trans (Ò.upd h)
 f0:=r.f0
 ba:=r.ba
 lent:=λb u e=>⟨Ò.upd h b u (r.lent b u e).1,(r.lent b u e).2⟩
 lb:=r.lb
 len:=r.len
 slot:=λi s e=>(r.slot i s e).grow (Ò.refl F) λb u _ h1 h2 h3=>⟨Ò.upd h b u h1,h2⟩
 sep:=r.sep
def Ā.freeze(r:Ā K c F H Z U)(h:H a=some o)(hB:c.B a=none)(hF:F a=none)(hf:dq F Z U a):Ā K c (upd F a o) H Z U where
 sub:=λb u e=>by
  by_cases hb:b=a
  ·subst hb;rw[Ü] at e;rw[h];exact e
  ·rw[Ö hb] at e;exact r.sub b u e
 base:=r.base
 f0:=r.f0.trans (Ò.upd hF)
 ba:=λb h1 h2=>by have hb:b≠a:=λz=>h1 (by rw[z];exact hB);rw[Ö hb];exact r.ba b h1 h2
 lent:=λb u e=>by
  have hb:b≠a:=λz=>by rw[z,r.lb a hB] at e;cases e
  rw[Ö hb];exact r.lent b u e
 lb:=r.lb
 len:=r.len
 slot:=λi s e=>(r.slot i s e).grow (Ò.upd hF) λb' u' ⟨y,e1',ha⟩ h1 h2 h3=>by
  have hb:b'≠a:=λz=>by subst z;exact hf i ⟨s,y,e,sE e1',ha⟩
  rw[Ö hb];exact⟨h1,h2⟩
 sep:=r.uK (Ò.upd hF)
def œ{α:Type}{l:List α}{i j:Nat}{x y:α}(h:(l.set i x)[j]?=some y):(j=i/\y=x/\i<l.length)\/(j≠i/\l[j]?=some y):=by
 by_cases hj:j=i
 ·subst hj;have hl:j<l.length:=by
   have:=(gi.mp h).1;simpa using this
  rw[iE hl] at h;exact .inl ⟨rfl,(Ŋ h).symm,hl⟩
 ·rw[dN (Ć hj)] at h;exact .inr ⟨hj,h⟩
def BA{l:ð}{i:Nat}{x:Option V}(h:i<l.length):((l.set i x)[i]?).getD none=x:=by rw[iE h];rfl
def zb{l:ð}{i j:Nat}{x:Option V}(h:j≠i):((l.set i x)[j]?).getD none=(l[j]?).getD none:=by rw[dN (Ć h)]
def Ė.off{i j:Nat}{x:Option V}{s:Slot}(h:Ė F (Z.set i x) (U.set i s) j a)(hj:j≠i):Ė F Z U j a:=by obtain⟨s',y,h1,h2,h3⟩:=h;rw[dN (Ć hj)] at h1 h2;exact⟨s',y,h1,h2,h3⟩
def Ā.put(r:Ā K c F H Z U){i:Nat}{x:Option V}{s:Slot}(hs:s.own=false)(h:Ĵ K c F H x s):Ā K c F H (Z.set i x) (U.set i s) where
 sub:=r.sub
 base:=r.base
 f0:=r.f0
 ba:=r.ba
 lent:=r.lent
 lb:=r.lb
 len:=by simpa using r.len
 slot:=λj s' e=>by
  rcases œ e with⟨rfl,rfl,hl⟩|⟨hj,e⟩
  ·rw[BA (by rw[r.len];exact hl)];exact h
  ·rw[zb hj];exact r.slot j s' e
 sep:=λj k b h1 h2=>by
  have off:∀{j},Ė F (Z.set i x) (U.set i s) j b->j≠i:=fun{j} q z=>by
   subst z;obtain⟨s',y,q1,_,q2⟩:=q;rcases œ q1 with⟨_,rfl,_⟩|⟨q,_⟩
   ·have:=eN q2;rw[hs] at this;cases this
   ·exact q rfl
  exact r.sep j k b (h1.off (off h1)) (h2.off (off h2))
def Ā.BB(r:Ā K c F H Z U){i:Nat}{s:Slot}(hs:s.own=false)(h:Ĵ K c F H ((Z[i]?).getD none) s):Ā K c F H Z (U.set i s) where
 sub:=r.sub
 base:=r.base
 f0:=r.f0
 ba:=r.ba
 lent:=r.lent
 lb:=r.lb
 len:=by simpa using r.len
 slot:=λj s' e=>by
  rcases œ e with⟨rfl,rfl,hl⟩|⟨hj,e⟩
  ·exact h
  ·exact r.slot j s' e
 sep:=λj k b h1 h2=>by
  have off:∀{j},Ė F Z (U.set i s) j b->Ė F Z U j b:=fun{j} ⟨s',y,q1,q3,q2⟩=>by
   rcases œ q1 with⟨_,rfl,_⟩|⟨_,q⟩
   ·have:=eN q2;rw[hs] at this;cases this
   ·exact⟨s',y,q,q3,q2⟩
  exact r.sep j k b (off h1) (off h2)
def Ā.wE(r:Ā K c F H Z U){i:Nat}{x:V}{s:Slot}(h:Ĵ K c F H (some x) s)(hf:∀a,s.at_ F x a->dq F Z U a):Ā K c F H (Z.set i (some x)) (U.set i s) where
 sub:=r.sub
 base:=r.base
 f0:=r.f0
 ba:=r.ba
 lent:=r.lent
 lb:=r.lb
 len:=by simpa using r.len
 slot:=λj s' e=>by
  rcases œ e with⟨rfl,rfl,hl⟩|⟨hj,e⟩
  ·rw[BA (by rw[r.len];exact hl)];exact h
  ·rw[zb hj];exact r.slot j s' e
 sep:=λj k b h1 h2=>by
  have Kf:∀{j},Ė F (Z.set i (some x)) (U.set i s) j b->(j=i/\s.at_ F x b)\/(j≠i/\Ė F Z U j b):=fun{j} q=>by
   by_cases hj:j=i
   ·subst hj;obtain⟨s',y,q1,q2,q3⟩:=q;rcases œ q2 with⟨_,e,_⟩|⟨z,_⟩
    ·cases e;rcases œ q1 with⟨_,e,_⟩|⟨z,_⟩
     ·cases e;exact .inl ⟨rfl,q3⟩
     ·exact absurd rfl z
    ·exact absurd rfl z
   ·exact .inr ⟨hj,q.off hj⟩
  rcases Kf h1 with⟨e1,z1⟩|⟨e1,o1⟩
  ·rcases Kf h2 with⟨e2,z2⟩|⟨e2,o2⟩
   ·rw[e1,e2]
   ·exact absurd o2 (hf b z1 k)
  ·rcases Kf h2 with⟨e2,z2⟩|⟨e2,o2⟩
   ·exact absurd o1 (hf b z2 j)
   ·exact r.sep j k b o1 o2
def Ā.Kg(r:Ā K c F H Z U){i:Nat}{s:Slot}(ho:Ė F Z U i a)(h:Ĵ K c F (upd H a o) ((Z[i]?).getD none) s)(hs:∀x b,Z[i]?=some (some x)->s.at_ F x b->Ė F Z U i b):Ā K c F (upd H a o) Z (U.set i s) where
 sub:=λb u e=>by
  have hb:b≠a:=λz=>by rw[z,(r.owned ho).2.1] at e;cases e
  rw[Ö hb];exact r.sub b u e
 base:=λb u e=>by
  have hb:b≠a:=λz=>by rw[z,(r.owned ho).2.2] at e;cases e
  rw[Ö hb];exact r.base b u e
 f0:=r.f0
 ba:=r.ba
 lent:=λb u e=>by
  have hb:b≠a:=λz=>by rw[z,r.lb a (r.owned ho).2.2] at e;cases e
  rw[Ö hb];exact r.lent b u e
 lb:=r.lb
 len:=by simpa using r.len
 slot:=λj s' e=>by
  rcases œ e with⟨rfl,rfl,hl⟩|⟨hj,e⟩
  ·exact h
  ·refine(r.slot j s' e).grow (Ò.refl F) λb u ⟨y,e1,e2⟩ h1 h2 h3=>?_;have hb:b≠a:=λz=>by
    subst z;exact hj (r.sep j i b ⟨s',y,e,sE e1,e2⟩ ho)
   exact⟨by rw[Ö hb];exact h1,h2⟩
 sep:=λj k b h1 h2=>by
  have off:∀{j},Ė F Z (U.set i s) j b->Ė F Z U j b:=fun{j} ⟨s',y,q1,q3,q2⟩=>by
   rcases œ q1 with⟨e,rfl,_⟩|⟨_,q⟩
   ·subst e;exact hs y b q3 q2
   ·exact⟨s',y,q,q3,q2⟩
  exact r.sep j k b (off h1) (off h2)
def Ā.write(r:Ā K c F H Z U){i:Nat}{s:Slot}(ho:Ė F Z U i a)(hx:Z[i]?=some (some (.ref a)))(h:Ĵ K c F (upd H a o) (some (.ref a)) s)(hs:∀b,s.at_ F (.ref a) b->b=a):Ā K c F (upd H a o) Z (U.set i s):=
 r.Kg ho (by rw[hx];exact h) λx b e q=>by rw[hx] at e;cases e;rw[hs b q];exact ho
structure Gr(F H F' H':Hp):Prop where
 h:Ò H H'
 f:Ò F F'
 sub:Ò F' H'
 out:∀a,H a≠none->F a=none->F' a=none
def Ā.call(r:Ā K c F H Z U)(g:Gr F H F' H'):Ā K c F' H' Z U where
 sub:=g.sub
 base:=r.base.trans g.h
 f0:=r.f0.trans g.f
 ba:=λb h1 h2=>by
  refine g.out b (λz=>h1 ?_) (r.ba b h1 h2);cases q:c.B b with
  |none=>rfl
  |some u=>rw[r.base _ _ q] at z;cases z
 lent:=λb u e=>⟨g.h b u (r.lent b u e).1,g.out b (by rw[(r.lent b u e).1];intro z;cases z) (r.lent b u e).2⟩
 lb:=r.lb
 len:=r.len
 slot:=λi s e=>(r.slot i s e).grow g.f λb u _ h1 h2 h3=>⟨g.h b u h1,g.out b (by rw[h1];intro z;cases z) h2⟩
 sep:=r.uK g.f
noncomputable def aC(F H:Hp):Ctx:=⟨H,F,λa=>match F a with
 |none=>H a
 |some _=>none,λ_ _ _=>True⟩
def ű{a:À}{u:HO}(h:(aC F H).L a=some u):H a=some u/\F a=none:=by
 unfold aC at h;dsimp only at h;cases q:F a with
 |none=>rw[q] at h;exact⟨h,rfl⟩
 |some o=>rw[q] at h;cases h
def Ā.gr(r:Ā K (aC F H) F' H' Z U):Gr F H F' H':=⟨r.base,r.f0,r.sub,r.ba⟩
def au(K:KK)(F H:Hp):Slot->V->Prop
 | .sh p,v=>ü K F p v
 | .bw ps,v=>∃a vs,v=.ref a/\H a=some (.lst vs)/\F a=none/\Õ K F ps vs
 | .dw cO,v=>∃(a:À) (ts:List À),v=.ref a/\H a=some (.lst (ts.map V.ref))/\F a=none/\Paired (λ(t:À) (d:List PV×List PV)=>∃xs b vs,F t=some (.tup (xs ++ [.ref b]))/\Õ K F d.1 xs/\(H b=some (.lst vs)/\F b=none)/\Õ K F d.2 vs) ts cO
 |_,_=>False
def au.slot{s:Slot}{v:V}(h:au K F H s v):Ĵ K (aC F H) F H (some v) s/\s.own=false:=by
 cases s with
 |sh p=>exact⟨⟨v,rfl,h⟩,rfl⟩
 |bw ps=>obtain⟨a,vs,rfl,h1,h2,h3⟩:=h;refine⟨⟨a,vs,rfl,?_,h3⟩,rfl⟩;show(match F a with|none=>H a|some _=>none)=_;rw[h2];exact h1
 |no=>exact h.elim
 |ow ps=>exact h.elim
 |rc C ns ps=>exact h.elim
 |ot ps qs rs=>exact h.elim
 |ol kW=>exact h.elim
 |fr kW=>exact h.elim
 |pw ps=>exact h.elim
 |bn qs rows=>exact h.elim
 |dw cO=>
  obtain⟨a,ts,rfl,h1,h2,h3⟩:=h;have lt:∀{x:À} {u:HO},H x=some u->F x=none->(aC F H).L x=some u:=fun{x u} e1 e2=>by show(match F x with|none=>H x|some _=>none)=_;rw[e2];exact e1
  exact⟨⟨a,ts,rfl,lt h1 h2,cP h3 λt d _ ⟨xs,b,vs,k1,k2,k3,k4⟩=>⟨xs,b,vs,k1,k2,lt k3.1 k3.2,k4⟩⟩,rfl⟩
noncomputable def ì(n:Nat)(as:List Slot):û:=as++Ñ (n-as.length) .no
theorem Ā.start{N:List Str}{as:List Slot}{vs:List V}(s:Ò F H)(h:Paired (au K F H) as vs):Ā K (aC F H) F H (L2.start N vs) (ì N.length as) where
 sub:=s
 base:=Ò.refl H
 f0:=Ò.refl F
 ba:=λ_ _ h=>h
 lent:=λ_ _ e=>ű e
 lb:=fun a e=>by
   cases q:(aC F H).L a with
   |none=>rfl
   |some u=>have e':H a=none:=e;rw[(ű q).1] at e';cases e'
 len:=by unfold L2.start ì;simp[Paired.length h]
 slot:=λi s' e=>by
  unfold ì at e;by_cases hi:i<as.length
  ·rw[Ϫ hi] at e;obtain⟨v,h1,h2⟩:=bu h e;have hv:((L2.start N vs)[i]?).getD none=some v:=by
    unfold L2.start;rw[Ϫ (by simpa[<-Paired.length h] using hi),ķ,h1];rfl
   rw[hv];exact(au.slot h2).1
  ·rw[dP (by lia),cw] at e;split at e
   ·cases e;trivial
   ·cases e
 sep:=λi j a h1 _=>by
  obtain⟨s',y,h1,_,h2⟩:=h1;have h2:=eN h2;exfalso;unfold ì at h1;by_cases hi:i<as.length
  ·rw[Ϫ hi] at h1;obtain⟨v,_,h3⟩:=bu h h1;rw[(au.slot h3).2] at h2;cases h2
  ·rw[dP (by lia),cw] at h1;split at h1
   ·cases h1;cases h2
   ·cases h1
end
structure PX where
 C:String
 ns:List Str
 ps:List PV
def mO(K:KK)(F:Hp)(x:PX)(C:Á)(d:Option À):Prop:=C=.ref (K.cm x.C)/\∃fs,pO F d fs/\fs.map (·.1)=x.ns/\Õ K F x.ps (fs.map (·.2))/\(x.ns=[]->d=none)
inductive Ġ(α:Type) where
 |ok (a:α) (U:û)|exc (x:PX) (U:û)|bad
noncomputable def Ġ.bind{α β:Type}(r:Ġ α)(f:α->û->Ġ β):Ġ β:= match r with
 | .ok a U=>f a U
 | .exc x U=>.exc x U
 | .bad=>.bad
@[simp] theorem Ġ.bW{α β:Type}{a:α}{U:û}{f:α->û->Ġ β}:(Ġ.ok a U).bind f=f a U:= rfl
@[simp] theorem Ġ.N8{α β:Type}{x:PX}{U:û}{f:α->û->Ġ β}:(Ġ.exc x U:Ġ α).bind f=.exc x U:= rfl
@[simp] theorem Ġ.N9{α β:Type}{f:α->û->Ġ β}:(Ġ.bad:Ġ α).bind f=.bad:=rfl
def Ġ.zc{α:Type}(o:Option α)(U:û):Ġ α:= match o with
 |some a=>.ok a U
 |none=>.bad
@[simp] theorem Ġ.Oa{α:Type}{a:α}{U:û}:Ġ.zc (some a) U=.ok a U:= rfl
@[simp] theorem Ġ.Ob{α:Type}{U:û}:Ġ.zc (none:Option α) U=.bad:=rfl
abbrev M(α:Type):=û->Ġ α
inductive RV where
 |sh (p:PV)|ow (ps:List PV)|ot (ps qs rs:List PV)|bn (t:Bool) (ps qs rows:List PV)
def RV.val:RV->PV
 | .sh p=>p
 | .ow ps=>.lst ps
 | .ot ps qs rs=>.tup (ps ++ .lst qs::rs)
 | .bn t ps qs rows=>QI t ps qs rows
def RV.slot:RV->Slot
 | .sh p=>.sh p
 | .ow ps=>.ow ps
 | .ot ps qs rs=>.ot ps qs rs
 | .bn t ps qs rows=>if t then .sh (QI t ps qs rows) else .bn qs rows
abbrev RR(α β:Type):=Ctx->ð->û->Hp->Hp->α->β->Prop
def rV(K:KK):RR PV V:=λ_ _ _ F _ p v=>ü K F p v
def ze(K:KK)(F H:Hp)(p:PV)(v:V):Prop:=match p with
 | .lst ps=>∃a vs,v=.ref a/\H a=some (.lst vs)/\Õ K F ps vs
 | .ins C ns ps=>∃a dx fs,v=.ref a/\H a=some (.ins (K.cm C) dx fs)/\fs.map (·.1)=ns/\Õ K F ps (fs.map (·.2))
 |_=>False
def rR(K:KK):RR PV V:=λ_ _ _ F H p v=>ü K F p v\/ze K F H p v
def rA(K:KK):RR (List Slot) (List V):=λ_ _ _ F H as vs=>Paired (au K F H) as vs
def DO(K:KK)(c:Ctx)(Z:ð)(U:û)(F H:Hp)(ps:List PV)(v:V):Prop:=∃a vs,v=.ref a/\H a=some (.lst vs)/\F a=none/\c.B a=none/\dq F Z U a/\Õ K F ps vs
def zf(K:KK)(c:Ctx)(Z:ð)(U:û)(F H:Hp)(ps qs rs:List PV)(v:V):Prop:=∃p a xs vs ys,v=.ref p/\F p=some (.tup (xs ++ .ref a::ys))/\Õ K F ps xs/\H a=some (.lst vs)/\F a=none/\c.B a=none/\dq F Z U a/\Õ K F qs vs/\Õ K F rs ys
def rO(K:KK):RR RV V:=λc Z U F H r v=>match r with
 | .sh p=>ü K F p v
 | .ow ps=>DO K c Z U F H ps v
 | .ot ps qs rs=>zf K c Z U F H ps qs rs v
 | .bn t ps qs rows=>ij K c.B F t ps qs rows v
def rL(K:KK):RR (List PV) (List V):=λ_ _ _ F _ p v=>Õ K F p v
def Nk(K:KK):RR (List PV) (List V):=λc Z U F H p v=>Paired (rR K c Z U F H) p v
def rB:RR Bool Bool:=λ_ _ _ _ _ p v=>p=v
def rI:RR (Option Int) (Option Int):=λ_ _ _ _ _ p v=>p=v
def Ť{α β:Type}(K:KK)(E:ð->XK)(R:RR α β)(c:Ctx)(F H:Hp)(Z:ð)(Q:β->Hp->Prop):Ġ α->Prop
 | .ok p U'=>∀v F' H',Ā K c F' H' Z U'->Ò F F'->Ò H H'->R c Z U' F' H' p v->Q v H'
 | .exc x U'=>∀C d F' H',Ā K c F' H' Z U'->Ò F F'->mO K F' x C d->E Z C d H'
 | .bad=>False
def tG{α β:Type}(K:KK)(E:ð->XK)(R:RR α β)(m:M α):ð->Hp->(β->Hp->Prop)->Prop:=λZ H Q=>∃c F U,Ā K c F H Z U/\Ť K E R c F H Z Q (m U)
section
variable{α β α' β':Type}{K:KK}{E:ð->XK}{R:RR α β}{R':RR α' β'}{c:Ctx}{F F1 H H1:Hp}{Z:ð}
def Ť.mono{Q:β->Hp->Prop}{r:Ġ α}(h:Ť K E R c F H Z Q r)(sF:Ò F F1)(sH:Ò H H1):Ť K E R c F1 H1 Z Q r:=by
 cases r with
 |ok p U'=>exact λv F' H' rel s1 s2 q=>h v F' H' rel (sF.trans s1) (sH.trans s2) q
 |exc x U'=>exact λC d F' H' rel s1 q=>h C d F' H' rel (sF.trans s1) q
 |bad=>exact h
theorem Ť.bind{Q:β->Hp->Prop}{Q':β'->Hp->Prop}{r:Ġ α}{f:α->û->Ġ α'}(h:Ť K E R' c F H Z Q' (r.bind f))
 (k:∀p U1 v F1 H1,Ā K c F1 H1 Z U1->Ò F F1->Ò H H1->R c Z U1 F1 H1 p v->Ť K E R' c F1 H1 Z Q' (f p U1)->Q v H1):Ť K E R c F H Z Q r:=by
 cases r with
 |ok p U'=>exact λv F' H' rel s1 s2 q=>k p U' v F' H' rel s1 s2 q (Ť.mono (show Ť K E R' c F H Z Q' (f p U') from h) s1 s2)
 |exc x U'=>exact h
 |bad=>exact h
theorem Ť.rel{R2:RR α β}{Q:β->Hp->Prop}{r:Ġ α}(h:Ť K E R c F H Z Q r)(k:∀p U' v F' H',Ā K c F' H' Z U'->R2 c Z U' F' H' p v->R c Z U' F' H' p v):Ť K E R2 c F H Z Q r:=by
 cases r with
 |ok p U'=>exact λv F' H' rel s1 s2 q=>h v F' H' rel s1 s2 (k p U' v F' H' rel q)
 |exc x U'=>exact h
 |bad=>exact h
end
abbrev tV(K:KK)(E:ð->XK)(m:M PV):TE:=tG K E (rV K) m
abbrev tR(K:KK)(E:ð->XK)(m:M PV):TE:=tG K E (rR K) m
abbrev tO(K:KK)(E:ð->XK)(m:M RV):TE:=tG K E (rO K) m
abbrev tL(K:KK)(E:ð->XK)(m:M (List PV)):TA:=tG K E (rL K) m
abbrev tA(K:KK)(E:ð->XK)(m:M (List Slot)):TA:=tG K E (rA K) m
abbrev DZ(K:KK)(E:ð->XK)(m:M (List PV)):TA:=tG K E (Nk K) m
abbrev tB(K:KK)(E:ð->XK)(m:M Bool):TT:=tG K E rB m
inductive Fl where
 |nx|bk|ct|rt (r:RV)
def Ņ(K:KK)(E:ð->XK)(c:Ctx)(F:Hp)(D:Ends):Ġ Fl->Prop
 | .ok .nx U'=>∀Z' F' H',Ā K c F' H' Z' U'->Ò F F'->D.nx Z' H'
 | .ok .bk U'=>∀Z' F' H',Ā K c F' H' Z' U'->Ò F F'->D.bk Z' H'
 | .ok .ct U'=>∀Z' F' H',Ā K c F' H' Z' U'->Ò F F'->D.ct Z' H'
 | .ok (.rt r) U'=>∀v Z' F' H',Ā K c F' H' Z' U'->Ò F F'->rO K c Z' U' F' H' r v->D.rt v H'
 | .exc x U'=>∀Z' C d F' H',Ā K c F' H' Z' U'->Ò F F'->mO K F' x C d->E Z' C d H'
 | .bad=>False
def tS(K:KK)(E:ð->XK)(m:M Fl):TS:=λD Z H=>∃c F U,Ā K c F H Z U/\Ņ K E c F D (m U)
section
variable{K:KK}{E:ð->XK}{c:Ctx}{F F1:Hp}{D:Ends}
def Ņ.mono{r:Ġ Fl}(h:Ņ K E c F D r)(sF:Ò F F1):Ņ K E c F1 D r:=by
 cases r with
 |ok f U'=>
  cases f with
  |rt v=>exact λv Z' F' H' rel s1 q=>h v Z' F' H' rel (sF.trans s1) q
  |nx=>exact λZ' F' H' rel s1=>h Z' F' H' rel (sF.trans s1)
  |bk=>exact λZ' F' H' rel s1=>h Z' F' H' rel (sF.trans s1)
  |ct=>exact λZ' F' H' rel s1=>h Z' F' H' rel (sF.trans s1)
 |exc x U'=>exact λZ' C d F' H' rel s1 q=>h Z' C d F' H' rel (sF.trans s1) q
 |bad=>exact h
theorem Ņ.bind{α β:Type}{R:RR α β}{Z:ð}{H:Hp}{Q:β->Hp->Prop}{r:Ġ α}{f:α->û->Ġ Fl}(h:Ņ K E c F D (r.bind f))
 (k:∀p U1 v F1 H1,Ā K c F1 H1 Z U1->Ò F F1->R c Z U1 F1 H1 p v->Ņ K E c F1 D (f p U1)->Q v H1):Ť K E R c F H Z Q r:=by
 cases r with
 |ok p U'=>exact λv F' H' rel s1 s2 q=>k p U' v F' H' rel s1 q (Ņ.mono (show Ņ K E c F D (f p U') from h) s1)
 |exc x U'=>exact λC d F' H' rel s1 q=>h Z C d F' H' rel s1 q
 |bad=>exact h
end
open PySem PySem.Spec PyProof.Rows L2 M2
noncomputable def Ĉ(i:Nat):M PV:=λU=>match U[i]? with
 |some (.sh p)=>.ok p U
 |some (.ow ps)=>.ok (.lst ps) (U.set i (.sh (.lst ps)))
 |some (.bn qs rows)=>.ok (.lst (.lst qs::rows)) U
 |_=>.bad
noncomputable def Ì(i:Nat):M PV:=λU=>match U[i]? with
 |some (.sh p)=>.ok p U
 |some (.ow ps)=>.ok (.lst ps) U
 |some (.bw ps)=>.ok (.lst ps) U
 |some (.rc C ns ps)=>.ok (.ins C ns ps) U
 |some (.bn qs rows)=>.ok (.lst (.lst qs::rows)) U
 |some (.pw ps)=>.ok (.lst ps) U
 |_=>.bad
noncomputable def jp(i:Nat):M RV:=λU=>match U[i]? with
 |some (.sh p)=>.ok (.sh p) U
 |some (.ow ps)=>.ok (.ow ps) (U.set i .no)
 |_=>.bad
@[simp] def mC(p:PV)(U:û):Ġ PV:= .ok p U
abbrev Ø(i:Int):M PV:= mC (.int i)
@[simp] def Ϝ(m:M PV)(U:û):Ġ RV:= (m U).bind λp U1=>.ok (.sh p) U1
@[simp] def ä(m:M RV)(U:û):Ġ PV:= (m U).bind λr U1=>.ok r.val U1
section
variable{K:KK}{c:Ctx}{F H:Hp}{Z:ð}{U:û}
def Į{i:Nat}{x:V}(h:(Z[i]?).getD none=some x):Z[i]?=some (some x):=by
 cases q:Z[i]? with
 |none=>rw[q] at h;cases h
 |some y=>rw[q] at h;exact congrArg some h
theorem Ā.ow(r:Ā K c F H Z U){i:Nat}{ps:List PV}(e:U[i]?=some (.ow ps)):∃a vs,Z[i]?=some (some (.ref a))/\H a=some (.lst vs)/\F a=none/\c.B a=none/\Õ K F ps vs/\Ė F Z U i a:=by obtain⟨a,vs,h1,h2,h3,h4,h5⟩:=r.slot i _ e;exact⟨a,vs,Į h1,h2,h3,h4,h5,⟨_,_,e,Į h1,rfl⟩⟩
def Ā.move(r:Ā K c F H Z U){i:Nat}{a:À}(h:Ė F Z U i a):Ā K c F H Z (U.set i .no)/\dq F Z (U.set i .no) a:=by
 refine⟨r.BB rfl trivial,λj ⟨s,y,q1,q3,q2⟩=>?_⟩;rcases œ q1 with⟨_,rfl,_⟩|⟨hj,q⟩
 ·exact q2.elim
 ·exact hj (r.sep j i a ⟨s,y,q,q3,q2⟩ h)
def Ā.share(r:Ā K c F H Z U){i:Nat}{ps:List PV}(e:U[i]?=some (.ow ps)):∃a vs,Z[i]?=some (some (.ref a))/\F a=none/\ü K (upd F a (.lst vs)) (.lst ps) (.ref a)/\Ā K c (upd F a (.lst vs)) H Z (U.set i (.sh (.lst ps))):=by
 obtain⟨a,vs,h1,h2,h3,h4,h5,ho⟩:=r.ow e;obtain⟨m1,m2⟩:=r.move ho;have rp:ü K (upd F a (.lst vs)) (.lst ps) (.ref a):=by unfold ü;exact⟨a,vs,rfl,ϐ.of Ü,h5.same (Ò.upd h3) ps vs⟩
 have q:=(m1.freeze h2 h4 h3 m2).BB (i:=i) (s:=.sh (.lst ps)) rfl (show Ĵ K c _ H _ (.sh (.lst ps)) from⟨.ref a,by rw[h1];rfl,rp⟩);rw[List.set_set] at q;exact⟨a,vs,h1,h3,rp,q⟩
def ze.mono{F1 H1:Hp}{p:PV}{v:V}(h:ze K F H p v)(sF:Ò F F1)(sH:Ò H H1):ze K F1 H1 p v:=by
 cases p with
 |lst ps=>obtain⟨a,vs,h2,h3,h4⟩:=h;exact⟨a,vs,h2,sH _ _ h3,h4.same sF ps vs⟩
 |ins C ns ps=>obtain⟨a,dx,fs,h2,h3,h4,h5⟩:=h;exact⟨a,dx,fs,h2,sH _ _ h3,h4,h5.same sF ps _⟩
 |_=>exact h.elim
theorem rR.mono{c:Ctx}{Z:ð}{U U':û}{F1 H1:Hp}{p:PV}{v:V}(h:rR K c Z U F H p v)(sF:Ò F F1)(sH:Ò H H1):rR K c Z U' F1 H1 p v:=by
 rcases h with h|h
 ·exact .inl (h.same sF p v)
 ·exact .inr (h.mono sF sH)
def rR.of{c:Ctx}{Z:ð}{U:û}{p:PV}{v:V}(h:ü K F p v):rR K c Z U F H p v:=.inl h
theorem rR.lst{c:Ctx}{Z:ð}{U:û}{ps:List PV}{v:V}(s:Ò F H)(h:rR K c Z U F H (.lst ps) v):∃a vs,v=.ref a/\ϐ K.K H a vs/\Õ K F ps vs:=by
 rcases h with h|⟨a,vs,h2,h3,h4⟩
 ·unfold ü at h;obtain⟨a,xs,h1,h2,h3⟩:=h;exact⟨a,xs,h1,s.seq h2,h3⟩
 ·exact⟨a,vs,h2,ϐ.of h3,h4⟩
theorem rR.tup{c:Ctx}{Z:ð}{U:û}{ps:List PV}{v:V}(s:Ò F H)(h:rR K c Z U F H (.tup ps) v):∃a vs,v=.ref a/\dJ K.K H a vs/\Õ K F ps vs:=by
 rcases h with h|h
 ·unfold ü at h;obtain⟨a,xs,h1,h2,h3⟩:=h;exact⟨a,xs,h1,Ò.tup s h2,h3⟩
 ·exact h.elim
theorem rR.int{c:Ctx}{Z:ð}{U:û}{i:Int}{v:V}(h:rR K c Z U F H (.int i) v):v=.int i:=by
 rcases h with h|h
 ·unfold ü at h;exact h
 ·exact h.elim
theorem rR.str{c:Ctx}{Z:ð}{U:û}{i:Str}{v:V}(h:rR K c Z U F H (.str i) v):v=.str i:=by
 rcases h with h|h
 ·unfold ü at h;exact h
 ·exact h.elim
theorem rR.bl{c:Ctx}{Z:ð}{U:û}{i:Bool}{v:V}(h:rR K c Z U F H (.bl i) v):v=.bl i:=by
 rcases h with h|h
 ·unfold ü at h;exact h
 ·exact h.elim
theorem rR.non{c:Ctx}{Z:ð}{U:û}{v:V}(h:rR K c Z U F H .non v):v=.non:=by
 rcases h with h|h
 ·unfold ü at h;exact h
 ·exact h.elim
theorem ü.int{i:Int}:ü K F (.int i) (.int i):=by unfold ü;rfl
theorem ü.str{i:Str}:ü K F (.str i) (.str i):=by unfold ü;rfl
theorem ü.bl{i:Bool}:ü K F (.bl i) (.bl i):=by unfold ü;rfl
theorem ü.non:ü K F .non .non:=by unfold ü;rfl
end
section
variable{X:Cx}{cm:String->À}{E:ð->XK}{a b e:Å}{es:List Å}{pos:Pos}{m ma mb mc:M PV}{mo:M RV}
def PT.wk{t t':TT}(h:PT X e t)(i:∀Z H Q,t' Z H Q->t Z H Q):PT X e t':=λÃ s Z H Q I q=>h Ã s Z H Q I (i Z H Q q)
def PA.wk{t t':TA}(h:PA X es t)(i:∀Z H Q,t' Z H Q->t Z H Q):PA X es t':=λpos Ã s Z H Q I q=>h pos Ã s Z H Q I (i Z H Q q)
def PW.wk{t t':TT}(h:PW X e t)(i:∀Z H Q,t' Z H Q->t Z H Q):PW X e t':=λwh Ã s Z H Q I q=>h wh Ã s Z H Q I (i Z H Q q)
def Ϡ.wk{st:List Ï}{t t':TS}(h:Ϡ X st t)(i:∀D Z H,t' D Z H->t D Z H):Ϡ X st t':=λÃ s Z H D I q=>h Ã s Z H D I (i D Z H q)
def v_var(i:Nat){x:Str}{pos:Pos}(hN:X.N[i]?=some x:=by rfl)(hv:AU X.env.scope x:=by first|exact ą rfl|exact ÿ (ą rfl)|exact ÿ (ÿ rfl))(hd:(x== ("__debug__" :Str))=false:=by decide)
 (cZ:(x== ("__classdict__" :Str))=false:=by decide):PE X (.Name x pos) (tV (kk X cm) E (Ĉ i)):=PE.wk (fF hN hv hd cZ) λZ H Q ⟨c,F,U,rel,h⟩=>by
 unfold Ĉ at h;split at h
 ·rename_i p e;obtain⟨v,h1,h2⟩:=rel.slot i _ e;exact⟨v,Į h1,h v F H rel (Ò.refl F) (Ò.refl H) h2⟩
 ·rename_i ps e;obtain⟨a,vs,h1,h2,h3,h4⟩:=rel.share e;exact⟨.ref a,h1,h _ _ H h4 (Ò.upd h2) (Ò.refl H) h3⟩
 ·rename_i qs rows e;obtain⟨v,h1,h2⟩:=rel.slot i _ e;exact⟨v,Į h1,h v F H rel (Ò.refl F) (Ò.refl H) h2.rep⟩
 ·exact h.elim
def Ó(i:Nat){x:Str}{pos:Pos}(hN:X.N[i]?=some x:=by rfl)(hv:AU X.env.scope x:=by first|exact ą rfl|exact ÿ (ą rfl)|exact ÿ (ÿ rfl))(hd:(x== ("__debug__" :Str))=false:=by decide)
 (cZ:(x== ("__classdict__" :Str))=false:=by decide):PE X (.Name x pos) (tR (kk X cm) E (Ì i)):=PE.wk (fF hN hv hd cZ) λZ H Q ⟨c,F,U,rel,h⟩=>by
 unfold Ì at h;split at h
 ·rename_i p e;obtain⟨v,h1,h2⟩:=rel.slot i _ e;exact⟨v,Į h1,h v F H rel (Ò.refl F) (Ò.refl H) (.inl h2)⟩
 ·rename_i ps e;obtain⟨a,vs,h1,h2,h3,h4,h5,_⟩:=rel.ow e;exact⟨.ref a,h1,h _ F H rel (Ò.refl F) (Ò.refl H) (.inr ⟨a,vs,rfl,h2,h5⟩)⟩
 ·rename_i ps e;obtain⟨a,vs,h1,h2,h3⟩:=rel.slot i _ e;exact⟨.ref a,Į h1,h _ F H rel (Ò.refl F) (Ò.refl H) (.inr ⟨a,vs,rfl,(rel.lent a _ h2).1,h3⟩)⟩
 ·rename_i C ns ps e;obtain⟨a,dx,fs,h1,h2,h3,h4,h5,h6⟩:=rel.slot i _ e;exact⟨.ref a,Į h1,h _ F H rel (Ò.refl F) (Ò.refl H) (.inr ⟨a,dx,fs,rfl,h2,h5,h6.1⟩)⟩
 ·rename_i qs rows e;obtain⟨v,h1,h2⟩:=rel.slot i _ e;exact⟨v,Į h1,h v F H rel (Ò.refl F) (Ò.refl H) (.inl h2.rep)⟩
 ·rename_i ps e;obtain⟨a,vs,h1,h2,h3,h4,h5,h6⟩:=rel.slot i _ e;exact⟨.ref a,Į h1,h _ F H rel (Ò.refl F) (Ò.refl H) (.inr ⟨a,vs,rfl,h2,h5⟩)⟩
 ·exact h.elim
def pP(i:Nat){x:Str}{pos:Pos}(hN:X.N[i]?=some x:=by rfl)(hv:AU X.env.scope x:=by first|exact ą rfl|exact ÿ (ą rfl)|exact ÿ (ÿ rfl))(hd:(x== ("__debug__" :Str))=false:=by decide)
 (cZ:(x== ("__classdict__" :Str))=false:=by decide):PE X (.Name x pos) (tO (kk X cm) E (jp i)):=PE.wk (fF hN hv hd cZ) λZ H Q ⟨c,F,U,rel,h⟩=>by
 unfold jp at h;split at h
 ·rename_i p e;obtain⟨v,h1,h2⟩:=rel.slot i _ e;exact⟨v,Į h1,h v F H rel (Ò.refl F) (Ò.refl H) h2⟩
 ·rename_i ps e;obtain⟨a,vs,h1,h2,h3,h4,h5,h6⟩:=rel.ow e;obtain⟨m1,m2⟩:=rel.move h6;exact⟨.ref a,h1,h _ F H m1 (Ò.refl F) (Ò.refl H) ⟨a,vs,rfl,h2,h3,h4,m2,h5⟩⟩
 ·exact h.elim
def mQ{v:V}(p:PV)(h:PE X e (tC v))(hr:∀F,ü (kk X cm) F p v:=by intro _;unfold ü;rfl):PE X e (tV (kk X cm) E (mC p)):=PE.wk h λZ H Q ⟨c,F,U,rel,h⟩=>h v F H rel (Ò.refl F) (Ò.refl H) (hr F)
def Ŭ{i j pos}:PE X (.Constant (.int i) j pos) (tV (kk X cm) E (mC (.int i))):=mQ _ se
def Kh{i j pos}:PE X (.Constant (.bool i) j pos) (tV (kk X cm) E (mC (.bl i))):=mQ _ NC
def BC{j pos}:PE X (.Constant .none j pos) (tV (kk X cm) E (mC .non)):=mQ _ JD
def ĩ{x j pos}:PE X (.Constant (.str x) j pos) (tV (kk X cm) E (mC (.str x))):=mQ _ JE
def ó(h:PE X e (tV (kk X cm) E m)):PE X e (tR (kk X cm) E m):=PE.wk h λZ H Q ⟨c,F,U,rel,h⟩=>⟨c,F,U,rel,h.rel λ_ _ _ _ _ _ q=>.inl q⟩
def dr(h:PE X e (tV (kk X cm) E m)):PE X e (tO (kk X cm) E (Ϝ m)):=PE.wk h λZ H Q ⟨c,F,U,rel,h⟩=>⟨c,F,U,rel,h.bind λp U1 v F1 H1 Ð s1 s2 q h1=>h1 v F1 H1 Ð ċ ċ q⟩
def DO.share{K:KK}{c:Ctx}{F H:Hp}{Z:ð}{U:û}{ps:List PV}{v:V}(rel:Ā K c F H Z U)(h:DO K c Z U F H ps v):∃F1,Ò F F1/\Ā K c F1 H Z U/\ü K F1 (.lst ps) v:=by obtain⟨a,vs,rfl,h1,h2,h3,h4,h5⟩:=h;refine⟨_,Ò.upd h2,rel.freeze h1 h3 h2 h4,?_⟩;unfold ü;exact⟨a,vs,rfl,ϐ.of Ü,h5.same (Ò.upd h2) ps vs⟩
def zf.share{K:KK}{c:Ctx}{F H:Hp}{Z:ð}{U:û}{ps qs rs:List PV}{v:V}(rel:Ā K c F H Z U)(h:zf K c Z U F H ps qs rs v):∃F1,Ò F F1/\Ā K c F1 H Z U/\ü K F1 (.tup (ps ++ .lst qs::rs)) v:=by
 obtain⟨p,a,xs,vs,ys,rfl,h0,hx,h1,h2,h3,h4,h5,h6⟩:=h;refine⟨_,Ò.upd h2,rel.freeze h1 h3 h2 h4,?_⟩;have ra:ü K (upd F a (.lst vs)) (.lst qs) (.ref a):=by unfold ü;exact⟨a,vs,rfl,ϐ.of Ü,h5.same (Ò.upd h2) qs vs⟩
 unfold ü;exact⟨p,_,rfl,dJ.of (Ò.upd h2 _ _ h0),Õ.append (hx.same (Ò.upd h2) ps xs) (Õ.cons ra (h6.same (Ò.upd h2) rs ys))⟩
def ď(h:PE X e (tO (kk X cm) E mo)):PE X e (tV (kk X cm) E (ä mo)):=PE.wk h λZ H Q ⟨c,F,U,rel,h⟩=>⟨c,F,U,rel,h.bind λr U1 v F1 H1 Ð s1 s2 q h1=>by
 cases r with
 |sh p=>exact h1 v F1 H1 Ð ċ ċ q
 |ow ps=>obtain⟨F2,s3,đ,rp⟩:=DO.share Ð q;exact h1 v F2 H1 đ s3 ċ rp
 |ot ps qs rs=>obtain⟨F2,s3,đ,rp⟩:=zf.share Ð q;exact h1 v F2 H1 đ s3 ċ rp
 |bn t ps qs rows=>exact h1 v F1 H1 Ð ċ ċ (ij.rep q)⟩
@[simp] def Þ(f:PV->PV->Option PV)(ma mb:M PV)(U:û):Ġ PV:= (ma U).bind λp U1=>(mb U1).bind λq U2=>Ġ.zc (f p q) U2
@[simp] def Ě(f:PV->PV->Option RV)(ma mb:M PV)(U:û):Ġ RV:= (ma U).bind λp U1=>(mb U1).bind λq U2=>Ġ.zc (f p q) U2
def gP(K:KK)(r:R2)(f:PV->PV->Option PV):Prop:=∀{c:Ctx} {F H:Hp} {Z:ð} {U:û} {p q pv:PV} {v u:V} {Q:VK},Ā K c F H Z U->rR K c Z U F H p v->rR K c Z U F H q u->f p q=some pv->
 (∀z F' H',Ā K c F' H' Z U->Ò F F'->Ò H H'->ü K F' pv z->Q z H')->r v u H Q
def SI(K:KK)(r:R2)(f:PV->PV->Option RV):Prop:=∀{c:Ctx} {F H:Hp} {Z:ð} {U:û} {p q:PV} {pv:RV} {v u:V} {Q:VK},Ā K c F H Z U->rR K c Z U F H p v->rR K c Z U F H q u->f p q=some pv->
 (∀z F' H',Ā K c F' H' Z U->Ò F F'->Ò H H'->rO K c Z U F' H' pv z->Q z H')->r v u H Q
def uL{r:R2}{f:PV->PV->Option PV}(hf:gP (kk X cm) r f){Z:ð}{H:Hp}{Q:VK}(h:tV (kk X cm) E (Þ f ma mb) Z H Q):Ei r (tR (kk X cm) E ma) (tR (kk X cm) E mb) Z H Q:=by
 obtain⟨c,F,U,rel,h⟩:=h;refine⟨c,F,U,rel,h.bind λp U1 v F1 H1 Ð _ _ r1 h1=>⟨c,F1,U1,Ð,h1.bind λq U2 u F2 H2 đ sF sH r2 h2=>?_⟩⟩;cases e:f p q with
 |none=>rw[e] at h2;exact h2.elim
 |some pv=>rw[e] at h2;exact hf đ (r1.mono sF sH) r2 e λz F' H' ĵ s1 s2 q'=>h2 z F' H' ĵ s1 s2 q'
def Oc{r:R2}{f:PV->PV->Option RV}(hf:SI (kk X cm) r f){Z:ð}{H:Hp}{Q:VK}(h:tO (kk X cm) E (Ě f ma mb) Z H Q):Ei r (tR (kk X cm) E ma) (tR (kk X cm) E mb) Z H Q:=by
 obtain⟨c,F,U,rel,h⟩:=h;refine⟨c,F,U,rel,h.bind λp U1 v F1 H1 Ð _ _ r1 h1=>⟨c,F1,U1,Ð,h1.bind λq U2 u F2 H2 đ sF sH r2 h2=>?_⟩⟩;cases e:f p q with
 |none=>rw[e] at h2;exact h2.elim
 |some pv=>rw[e] at h2;exact hf đ (r1.mono sF sH) r2 e λz F' H' ĵ s1 s2 q'=>h2 z F' H' ĵ s1 s2 q'
def mR{op:Operator}{r:R2}{f:PV->PV->Option PV}(hf:gP (kk X cm) r f)(ho:Ϸ X (ŝ op) r)(ha:PE X a (tR (kk X cm) E ma))(hb:PE X b (tR (kk X cm) E mb)):PE X (.BinOp a op b pos) (tV (kk X cm) E (Þ f ma mb)):=PE.wk (Gc ho ha hb) λ_ _ _ h=>uL hf h
def Od{op:Operator}{r:R2}{f:PV->PV->Option RV}(hf:SI (kk X cm) r f)(ho:Ϸ X (ŝ op) r)(ha:PE X a (tR (kk X cm) E ma))(hb:PE X b (tR (kk X cm) E mb)):PE X (.BinOp a op b pos) (tO (kk X cm) E (Ě f ma mb)):=PE.wk (Gc ho ha hb) λ_ _ _ h=>Oc hf h
def ky{op:aj}{r:R2}{f:PV->PV->Option PV}(hf:gP (kk X cm) r f)(ho:Ϸ X (Ę op) r)(ha:PE X a (tR (kk X cm) E ma))(hb:PE X b (tR (kk X cm) E mb))(hm:cC op b=false):PE X (.Compare a [op] [b] pos) (tV (kk X cm) E (Þ f ma mb)):=
 PE.wk (yO ho ha hb hm) λ_ _ _ h=>uL hf h
def Oe{r:R2}{f:PV->PV->Option PV}(hf:gP (kk X cm) r f)(hr:wb X r)(ha:PE X a (tR (kk X cm) E ma))(hb:PE X b (tR (kk X cm) E mb))(hs:lR b):PE X (.Subscript a b pos) (tV (kk X cm) E (Þ f ma mb)):=
 PE.wk (Bf hr ha hb hs) λ_ _ _ h=>uL hf h
@[simp] def kX(f:PV->Option PV)(ma:M PV)(U:û):Ġ PV:= (ma U).bind λp U1=>Ġ.zc (f p) U1
def VG(K:KK)(r:V->Hp->VK->Prop)(f:PV->Option PV):Prop:=∀{c:Ctx} {F H:Hp} {Z:ð} {U:û} {p pv:PV} {v:V} {Q:VK},Ā K c F H Z U->rR K c Z U F H p v->f p=some pv->
 (∀z F' H',Ā K c F' H' Z U->Ò F F'->Ò H H'->ü K F' pv z->Q z H')->r v H Q
def SJ{op:UnaryOp}{r:V->Hp->VK->Prop}{f:PV->Option PV}(hf:VG (kk X cm) r f)(ho:Eh X (unaryOp op) r)(ha:PE X a (tR (kk X cm) E ma)):PE X (.UnaryOp op a pos) (tV (kk X cm) E (kX f ma)):=PE.wk (Gd ho ha) λZ H Q ⟨c,F,U,rel,h⟩=>
 ⟨c,F,U,rel,h.bind fun p U1 v F1 H1 Ð _ _ r1 h1=>by
   cases e:f p with
   |none=>rw[e] at h1;exact h1.elim
   |some pv=>rw[e] at h1;exact hf Ð r1 e λz F' H' ĵ s1 s2 q'=>h1 z F' H' ĵ s1 s2 q'⟩
noncomputable def Ki:PV->Option Bool
 | .bl b=>some b
 | .int i=>some (i != 0)
 | .non=>some false
 | .str y=>if y.length<=sizeLine then some ((y.length:Int) != 0) else none
 | .lst ps=>some (!ps.isEmpty)
 | .tup ps=>some (!ps.isEmpty)
 |_=>none
@[simp] def fN(m:M PV)(U:û):Ġ Bool:= (m U).bind λp U1=>Ġ.zc (Ki p) U1
def Gm{K:KK}{c:Ctx}{F H:Hp}{Z:ð}{U:û}{p:PV}{v:V}{k:Bool}(s:Ò F H)(r:rR K c Z U F H p v)(h:Ki p=some k):JQ K.K v H k:=by
 cases p with
 |bl b=>cases r.bl;cases h;rfl
 |int i=>cases r.int;cases h;rfl
 |non=>cases r.non;cases h;rfl
 |str y=>
  cases r.str;have h':(if y.length<=sizeLine then some ((y.length:Int) != 0) else none)=some k:=h;split at h'
  ·rename_i hy;cases h';exact⟨hy,rfl⟩
  ·cases h'
 |lst ps=>
  obtain⟨a,vs,rfl,h1,h2⟩:=r.lst s;cases h;have e:ps.isEmpty=vs.isEmpty:=by cases h2.pr<;>rfl
  exact .inl ⟨vs,h1,by rw[e]⟩
 |tup ps=>
  obtain⟨a,vs,rfl,h1,h2⟩:=r.tup s;cases h;have e:ps.isEmpty=vs.isEmpty:=by cases h2.pr<;>rfl
  exact .inr (.inl ⟨vs,h1,by rw[e]⟩)
 |ins C ns ps=>cases h
 |xc C ns ps=>cases h
 |ty n=>cases h
 |cls C=>cases h
def du(ha:PE X a (tR (kk X cm) E ma))(he:∀whole,isTrue a X.env whole=(do let v <-whole;cD a.pos;holding [v] (truthy v)):=by intro _;rfl):PT X a (tB (kk X cm) E (fN ma)):=PT.wk (uC ha he) λZ H Q ⟨c,F,U,rel,h⟩=>
 ⟨c,F,U,rel,h.bind fun p U1 v F1 H1 Ð _ _ r1 h1=>by
   cases e:Ki p with
   |none=>rw[e] at h1;exact h1.elim
   |some k=>rw[e] at h1;exact⟨k,Gm Ð.sub r1 e,h1 k F1 H1 Ð ċ ċ rfl⟩⟩
@[simp] def cn(m:M PV)(U:û):Ġ Bool:= (m U).bind fun p U1=>match p with
  | .bl b=>.ok b U1
  |_=>.bad
def Gn{Z:ð}{H:Hp}{Q:Bool->Hp->Prop}(h:tB (kk X cm) E (cn m) Z H Q):M2.Bl (tV (kk X cm) E m) Z H Q:=by
 obtain⟨c,F,U,rel,h⟩:=h;refine⟨c,F,U,rel,h.bind λp U1 v F1 H1 Ð _ _ r1 h1=>?_⟩;cases p with
 |bl b=>
  have e:v=.bl b:=by have dM:ü (kk X cm) F1 (.bl b) v:=r1;unfold ü at dM;exact dM
  subst e;exact h1 b F1 H1 Ð ċ ċ rfl
 |_=>exact h1.elim
def fg{op:aj}{r:R2}{f:PV->PV->Option PV}(hf:gP (kk X cm) r f)(ho:Ϸ X (Ę op) r)(ha:PE X a (tR (kk X cm) E ma))(hb:PE X b (tR (kk X cm) E mb))(hm:cC op b=false):PT X (.Compare a [op] [b] pos) (tB (kk X cm) E (cn (Þ f ma mb))):=
 PT.wk (Bm ho ha hb hm) fun Z H Q h=>by obtain⟨c,F,U,rel,h⟩:=Gn h;exact uL hf ⟨c,F,U,rel,h⟩
@[simp] def mS(f g:PV→PV→Option PV)(ma mb mc:M PV)(U:û):Ġ PV:= (ma U).bind fun p U1=>(mb U1).bind fun q U2=>(Ġ.zc (f p q) U2).bind fun z U3=>match z with
  | .bl true=>(mc U3).bind λw U4=>Ġ.zc (g q w) U4
  | .bl false=>.ok (.bl false) U3
  |_=>.bad
def Go{r r':R2}{f g:PV->PV->Option PV}(hf:gP (kk X cm) r f)(hg:gP (kk X cm) r' g){Z:ð}{H:Hp}{Q:VK}(h:tV (kk X cm) E (mS f g ma mb mc) Z H Q):M2.wB r r' (tR (kk X cm) E ma) (tR (kk X cm) E mb) (tR (kk X cm) E mc) Z H Q:=by
 obtain⟨c,F,U,rel,h⟩:=h;refine⟨c,F,U,rel,h.bind λp U1 v F1 H1 Ð _ _ r1 h1=>⟨c,F1,U1,Ð,h1.bind λq U2 u F2 H2 đ sF sH r2 h2=>?_⟩⟩;cases e:f p q with
 |none=>rw[e] at h2;exact h2.elim
 |some pv=>
  rw[e] at h2;refine hf đ (r1.mono sF sH) r2 e λz F' H' ĵ s1 s2 q'=>?_;cases pv with
  |bl k=>
   have ez:z=.bl k:=by unfold ü at q';exact q'
   subst ez;cases k with
   |false=>exact h2 _ F' H' ĵ s1 s2 q'
   |true=>
    refine⟨c,F',U2,ĵ,Ť.bind (Ť.mono h2 s1 s2) λw U4 x F4 H4 oP s3 s4 r4 h4=>?_⟩;cases e':g q w with
    |none=>rw[e'] at h4;exact h4.elim
    |some pv'=>rw[e'] at h4;exact hg oP (r2.mono (s1.trans s3) (s2.trans s4)) r4 e' λz F' H' ĵ s1 s2 q'=>h4 z F' H' ĵ s1 s2 q'
  |_=>exact h2.elim
def pQ{op xP:aj}{r r':R2}{f g:PV->PV->Option PV}{c:Å}(hf:gP (kk X cm) r f)(hg:gP (kk X cm) r' g)(ho:Ϸ X (Ę op) r)(xN:Ϸ X (Ę xP) r')(ha:PE X a (tR (kk X cm) E ma))(hb:PE X b (tR (kk X cm) E mb))(hc:PE X c (tR (kk X cm) E mc))
 (hm:lastMarks [op,xP] [b,c]=false:=by with_unfolding_all rfl):PE X (.Compare a [op,xP] [b,c] pos) (tV (kk X cm) E (mS f g ma mb mc)):=PE.wk (Bn ho xN ha hb hc hm) λ_ _ _ h=>Go hf hg h
def Gp{op xP:aj}{r r':R2}{f g:PV->PV->Option PV}{c:Å}(hf:gP (kk X cm) r f)(hg:gP (kk X cm) r' g)(ho:Ϸ X (Ę op) r)(xN:Ϸ X (Ę xP) r')(ha:PE X a (tR (kk X cm) E ma))(hb:PE X b (tR (kk X cm) E mb))(hc:PE X c (tR (kk X cm) E mc))
 (hm:lastMarks [op,xP] [b,c]=false:=by with_unfolding_all rfl):PT X (.Compare a [op,xP] [b,c] pos) (tB (kk X cm) E (cn (mS f g ma mb mc))):=PT.wk (Bo ho xN ha hb hc hm) λZ H Q h=>by
 obtain⟨c,F,U,rel,h⟩:=Gn h;exact Go hf hg ⟨c,F,U,rel,h⟩
@[simp] def jq(m:M Bool)(U:û):Ġ Bool:= (m U).bind λb U1=>.ok (!b) U1
def pR{m:M Bool}(h:PT X a (tB (kk X cm) E m)):PT X (.UnaryOp .Not a pos) (tB (kk X cm) E (jq m)):=PT.wk (AZ h) λZ H Q ⟨c,F,U,rel,h⟩=>
 ⟨c,F,U,rel,h.bind λp U1 v F1 H1 Ð _ _ r1 h1=>h1 _ F1 H1 Ð ċ ċ (by have e:p=v:=r1;rw[e];rfl)⟩
@[simp] def pS(ma mb:M Bool)(U:û):Ġ Bool:= (ma U).bind λb U1=>if b=true then mb U1 else .ok false U1
@[simp] def uM(ma mb:M Bool)(U:û):Ġ Bool:= (ma U).bind λb U1=>if b=true then .ok true U1 else mb U1
variable{ta tb:M Bool}{rest:List Å}
def mT(h:PT X a (tB (kk X cm) E ta)):PW X (.BoolOp .And [a] pos) (tB (kk X cm) E ta):=Ee h
def mV(h:PT X a (tB (kk X cm) E ta)):PW X (.BoolOp .Or [a] pos) (tB (kk X cm) E ta):=JF h
def w_and(ha:PT X a (tB (kk X cm) E ta))(hb:PW X (.BoolOp .And (b::rest) pos) (tB (kk X cm) E tb)):PW X (.BoolOp .And (a::b::rest) pos) (tB (kk X cm) E (pS ta tb)):=PW.wk (JG ha hb) λZ H Q ⟨c,F,U,rel,h⟩=>
 ⟨c,F,U,rel,h.bind fun p U1 v F1 H1 Ð _ _ r1 h1=>by
   have e:p=v:=r1;subst e;cases p with
   |true=>exact⟨c,F1,U1,Ð,h1⟩
   |false=>exact h1 false F1 H1 Ð ċ ċ rfl⟩
def w_or(ha:PT X a (tB (kk X cm) E ta))(hb:PW X (.BoolOp .Or (b::rest) pos) (tB (kk X cm) E tb)):PW X (.BoolOp .Or (a::b::rest) pos) (tB (kk X cm) E (uM ta tb)):=PW.wk (ND ha hb) λZ H Q ⟨c,F,U,rel,h⟩=>
 ⟨c,F,U,rel,h.bind fun p U1 v F1 H1 Ð _ _ r1 h1=>by
   have e:p=v:=r1;subst e;cases p with
   |false=>exact⟨c,F1,U1,Ð,h1⟩
   |true=>exact h1 true F1 H1 Ð ċ ċ rfl⟩
def fw(ma mb:M PV):M PV:=λU=>(ma U).bind λp U1=>match p with
 | .bl true=>mb U1
 | .bl false=>.ok (.bl false) U1
 |_=>.bad
def QJ(ma mb:M PV):M PV:=λU=>(ma U).bind λp U1=>match p with
 | .bl true=>.ok (.bl true) U1
 | .bl false=>mb U1
 |_=>.bad
@[simp] def Of(ma:M PV)(U:û):Ġ PV:= (ma U).bind fun p U1=>match p with
  | .bl b=>.ok (.bl (!b)) U1
  |_=>.bad
def mW{K:KK}{F:Hp}{b:Bool}{v:V}(h:ü K F (.bl b) v):v=.bl b:=by unfold ü at h;exact h
def gX{op}(h:PE X a (tV (kk X cm) E ma)):PE X (.BoolOp op [a] pos) (tV (kk X cm) E ma):=JH h
def v_and(ha:PE X a (tV (kk X cm) E ma))(hb:PE X (.BoolOp .And (b::rest) pos) (tV (kk X cm) E mb)):PE X (.BoolOp .And (a::b::rest) pos) (tV (kk X cm) E (fw ma mb)):=PE.wk (J0 ha hb) λZ H Q ⟨c,F,U,rel,h⟩=>
 ⟨c,F,U,rel,h.bind fun p U1 v F1 H1 Ð _ _ r1 h1=>by
   cases p with
   |bl k=>
    cases mW r1;cases k with
    |true=>exact⟨c,F1,U1,Ð,h1⟩
    |false=>exact h1 _ F1 H1 Ð ċ ċ r1
   |_=>exact h1.elim⟩
def v_or(ha:PE X a (tV (kk X cm) E ma))(hb:PE X (.BoolOp .Or (b::rest) pos) (tV (kk X cm) E mb)):PE X (.BoolOp .Or (a::b::rest) pos) (tV (kk X cm) E (QJ ma mb)):=PE.wk (NZ ha hb) λZ H Q ⟨c,F,U,rel,h⟩=>
 ⟨c,F,U,rel,h.bind fun p U1 v F1 H1 Ð _ _ r1 h1=>by
   cases p with
   |bl k=>
    cases mW r1;cases k with
    |false=>exact⟨c,F1,U1,Ð,h1⟩
    |true=>exact h1 _ F1 H1 Ð ċ ċ r1
   |_=>exact h1.elim⟩
def v_not(ha:PE X a (tV (kk X cm) E ma)):PE X (.UnaryOp .Not a pos) (tV (kk X cm) E (Of ma)):=PE.wk (J1 ha) λZ H Q ⟨c,F,U,rel,h⟩=>
 ⟨c,F,U,rel,h.bind fun p U1 v F1 H1 Ð _ _ r1 h1=>by
   cases p with
   |bl k=>cases mW r1;exact h1 _ F1 H1 Ð ċ ċ ü.bl
   |_=>exact h1.elim⟩
@[simp] def dL{α:Type}(t:M Bool)(ma mb:M α)(U:û):Ġ α:= (t U).bind λb U1=>if b=true then ma U1 else mb U1
def SK{α:Type}{R:RR α V}{c':Å}{ma mb:M α}(hc:PT X c' (tB (kk X cm) E ta))(ha:PE X a (tG (kk X cm) E R ma))(hb:PE X b (tG (kk X cm) E R mb)):PE X (.IfExp c' a b pos) (tG (kk X cm) E R (dL ta ma mb)):=PE.wk (A_ hc ha hb) λZ H Q ⟨c,F,U,rel,h⟩=>
 ⟨c,F,U,rel,h.bind fun p U1 v F1 H1 Ð _ _ r1 h1=>by
   have e:p=v:=r1;subst e;cases p with
   |true=>exact⟨c,F1,U1,Ð,h1⟩
   |false=>exact⟨c,F1,U1,Ð,h1⟩⟩
@[simp] def å(U:û):Ġ (List PV):= .ok [] U
@[simp] def Í(ma:M PV)(mr:M (List PV))(U:û):Ġ (List PV):= (ma U).bind λp U1=>(mr U1).bind λps U2=>.ok (p::ps) U2
variable{mr:M (List PV)}
def Ċ:PA X [] (tL (kk X cm) E å):=PA.wk aI λZ H Q ⟨c,F,U,rel,h⟩=>h [] F H rel ċ ċ Õ.nil
def Û(ha:PE X e (tV (kk X cm) E ma))(hr:PA X es (tL (kk X cm) E mr))(hs:È (e::es) X.env=(false,eval e X.env)::È es X.env:=by exact į rfl):PA X (e::es) (tL (kk X cm) E (Í ma mr)):=PA.wk (Š ha hr hs) λZ H Q ⟨c,F,U,rel,h⟩=>
 ⟨c,F,U,rel,h.bind λp U1 v F1 H1 Ð _ _ r1 h1=>⟨c,F1,U1,Ð,h1.bind λps U2 vs F2 H2 đ sF sH r2 h2=>h2 _ F2 H2 đ ċ ċ (Õ.cons (ü.same sF p v r1) r2)⟩⟩
def î:PA X [] (DZ (kk X cm) E å):=PA.wk aI λZ H Q ⟨c,F,U,rel,h⟩=>h [] F H rel ċ ċ .nil
def ß(ha:PE X e (tR (kk X cm) E ma))(hr:PA X es (DZ (kk X cm) E mr))(hs:È (e::es) X.env=(false,eval e X.env)::È es X.env:=by exact į rfl):PA X (e::es) (DZ (kk X cm) E (Í ma mr)):=PA.wk (Š ha hr hs) λZ H Q ⟨c,F,U,rel,h⟩=>
 ⟨c,F,U,rel,h.bind λp U1 v F1 H1 Ð _ _ r1 h1=>⟨c,F1,U1,Ð,h1.bind λps U2 vs F2 H2 đ sF sH r2 h2=>h2 _ F2 H2 đ ċ ċ (.cons (rR.mono r1 sF sH) r2)⟩⟩
@[simp] def ý(U:û):Ġ (List Slot):= .ok [] U
@[simp] def Č(ma:M PV)(mr:M (List Slot))(U:û):Ġ (List Slot):= (ma U).bind λp U1=>(mr U1).bind λas U2=>.ok (.sh p::as) U2
noncomputable def bg:Slot->Option Slot
 | .sh p=>some (.sh p)
 | .ow ps=>some (.bw ps)
 | .bw ps=>some (.bw ps)
 | .bn qs rows=>some (.sh (.lst (.lst qs::rows)))
 | .dw cO=>some (.dw cO)
 |_=>none
@[simp] def é(i:Nat)(mr:M (List Slot))(U:û):Ġ (List Slot):= match(U[i]?).bind bg with
  |none=>.bad
  |some _=>(mr U).bind λas U2=>match(U2[i]?).bind bg with
   |some s=>.ok (s::as) U2
   |none=>.bad
variable{ms:M (List Slot)}
def ö:PA X [] (tA (kk X cm) E ý):=PA.wk aI λZ H Q ⟨c,F,U,rel,h⟩=>h [] F H rel ċ ċ .nil
def þ(ha:PE X e (tV (kk X cm) E ma))(hr:PA X es (tA (kk X cm) E ms))(hs:È (e::es) X.env=(false,eval e X.env)::È es X.env:=by exact į rfl):PA X (e::es) (tA (kk X cm) E (Č ma ms)):=PA.wk (Š ha hr hs) λZ H Q ⟨c,F,U,rel,h⟩=>
 ⟨c,F,U,rel,h.bind λp U1 v F1 H1 Ð _ _ r1 h1=>⟨c,F1,U1,Ð,h1.bind λas U2 vs F2 H2 đ sF sH r2 h2=>h2 _ F2 H2 đ ċ ċ (.cons (show au _ _ _ (.sh p) v from ü.same sF p v r1) r2)⟩⟩
def lU{K:KK}{c:Ctx}{F H:Hp}{Z:ð}{U:û}{i:Nat}{s:Slot}(rel:Ā K c F H Z U)(h:(U[i]?).bind bg=some s):∃v,Z[i]?=some (some v)/\au K F H s v:=by
 cases e:U[i]? with
 |none=>rw[e] at h;cases h
 |some sl=>
  rw[e] at h;have h':bg sl=some s:=h;cases sl with
  |sh p=>cases h';obtain⟨v,h1,h2⟩:=rel.slot i _ e;exact⟨v,Į h1,h2⟩
  |ow ps=>cases h';obtain⟨a,vs,h1,h2,h3,h4,h5,_⟩:=rel.ow e;exact⟨.ref a,h1,a,vs,rfl,h2,h3,h5⟩
  |bw ps=>cases h';obtain⟨a,vs,h1,h2,h3⟩:=rel.slot i _ e;exact⟨.ref a,Į h1,a,vs,rfl,(rel.lent a _ h2).1,(rel.lent a _ h2).2,h3⟩
  |no=>cases h'
  |rc C ns ps=>cases h'
  |ot ps qs rs=>cases h'
  |ol kW=>cases h'
  |fr kW=>cases h'
  |pw ps=>cases h'
  |bn qs rows=>cases h';obtain⟨v,h1,h2⟩:=rel.slot i _ e;exact⟨v,Į h1,h2.rep⟩
  |dw cO=>cases h';obtain⟨a,ts,h1,h2,h3⟩:=rel.slot i _ e;exact⟨.ref a,Į h1,a,ts,rfl,(rel.lent a _ h2).1,(rel.lent a _ h2).2,cP h3 λt d _ ⟨xs,b,vs,k1,k2,k3,k4⟩=>⟨xs,b,vs,k1,k2,rel.lent b _ k3,k4⟩⟩
def EL(i:Nat){x:Str}{px:Pos}(hN:X.N[i]?=some x:=by rfl)(hv:AU X.env.scope x:=by first|exact ą rfl|exact ÿ (ą rfl)|exact ÿ (ÿ rfl))(hd:(x== ("__debug__" :Str))=false:=by decide)
 (cZ:(x== ("__classdict__" :Str))=false:=by decide)(hr:PA X es (tA (kk X cm) E ms))(hs:È (.Name x px::es) X.env=(false,eval (.Name x px) X.env)::È es X.env:=by exact į rfl):PA X (.Name x px::es) (tA (kk X cm) E (é i ms)):=
 PA.wk (Š (fF hN hv hd cZ) hr hs) fun Z H Q ⟨c,F,U,rel,h⟩=>by
   unfold é at h;cases e:(U[i]?).bind bg with
   |none=>rw[e] at h;exact h.elim
   |some s0=>
    rw[e] at h;obtain⟨v,hv,_⟩:=lU rel e;refine⟨v,hv,c,F,U,rel,Ť.bind h λas U2 vs F2 H2 đ sF sH r2 h2=>?_⟩;cases e2:(U2[i]?).bind bg with
    |none=>simp only[e2] at h2;exact h2.elim
    |some s=>simp only[e2] at h2;obtain⟨v',FQ,r1⟩:=lU đ e2;rw[hv] at FQ;cases FQ;exact h2 _ F2 H2 đ ċ ċ (.cons r1 r2)
@[simp] def gQ(mr:M (List PV))(U:û):Ġ PV:= (mr U).bind λps U1=>if ps.length<=16777216 then .ok (.tup ps) U1 else .bad
@[simp] def fO(mr:M (List PV))(U:û):Ġ RV:= (mr U).bind λps U1=>if ps.length<=16777216 then .ok (.ow ps) U1 else .bad
def ă:sizeLine=16777216:=Ϯ
def fP{x1}(h:PA X es (tL (kk X cm) E mr)):PE X (.Tuple es x1 pos) (tV (kk X cm) E (gQ mr)):=PE.wk (Bc h) λZ H Q ⟨c,F,U,rel,h⟩=>
 ⟨c,F,U,rel,h.bind fun ps U1 vs F1 H1 Ð _ _ r1 h1=>by
   split at h1
   ·rename_i hz;refine⟨by rw[<-Õ.length r1,ă];exact hz,λp hp=>h1 _ _ _ (Ð.alloc hp) (Ò.upd (Ð.sub.free hp)) (Ò.upd hp) ?_⟩;show ü _ _ _ _;unfold ü;exact⟨p,vs,rfl,dJ.of Ü,Õ.same (Ò.upd (Ð.sub.free hp)) ps vs r1⟩
   ·exact h1.elim⟩
def dv{K:KK}{c:Ctx}{F H:Hp}{Z:ð}{U:û}{ps:List PV}{vs:List V}{a:À}(rel:Ā K c F H Z U)(ha:H a=none)(r:Õ K F ps vs):Ā K c F (upd H a (.lst vs)) Z U/\DO K c Z U F (upd H a (.lst vs)) ps (.ref a):=
 ⟨rel.made ha,a,vs,rfl,Ü,rel.sub.free ha,rel.base.free ha,rel.fresh ha,r⟩
def bC(h:PA X es (tL (kk X cm) E mr)):PE X (.List es pos) (tO (kk X cm) E (fO mr)):=PE.wk (wz h) λZ H Q ⟨c,F,U,rel,h⟩=>
 ⟨c,F,U,rel,h.bind fun ps U1 vs F1 H1 Ð _ _ r1 h1=>by
   split at h1
   ·rename_i hz;refine⟨by rw[<-Õ.length r1,ă];exact hz,λp hp=>?_⟩;obtain⟨q1,q2⟩:=dv Ð hp r1;exact h1 _ _ _ q1 ċ (Ò.upd hp) q2
   ·exact h1.elim⟩
@[simp] def bt(f:List PV->Option PV)(mr:M (List PV))(U:û):Ġ PV:= (mr U).bind λps U1=>Ġ.zc (f ps) U1
@[simp] def oQ(f:List PV->Option RV)(mr:M (List PV))(U:û):Ġ RV:= (mr U).bind λps U1=>Ġ.zc (f ps) U1
def fQ(K:KK)(r:List V->Hp->VK->Prop)(f:List PV->Option PV):Prop:=∀{c:Ctx} {F H:Hp} {Z:ð} {U:û} {ps:List PV} {pv:PV} {vs:List V} {Q:VK},Ā K c F H Z U->Nk K c Z U F H ps vs->f ps=some pv->
 (∀z F' H',Ā K c F' H' Z U->Ò F F'->Ò H H'->ü K F' pv z->Q z H')->r vs H Q
def BD(K:KK)(r:List V->Hp->VK->Prop)(f:List PV->Option RV):Prop:=∀{c:Ctx} {F H:Hp} {Z:ð} {U:û} {ps:List PV} {pv:RV} {vs:List V} {Q:VK},Ā K c F H Z U->Nk K c Z U F H ps vs->f ps=some pv->
 (∀z F' H',Ā K c F' H' Z U->Ò F F'->Ò H H'->rO K c Z U F' H' pv z->Q z H')->r vs H Q
def Og{r:List V->Hp->VK->Prop}{f:List PV->Option PV}(hf:fQ (kk X cm) r f){Z:ð}{H:Hp}{Q:VK}(h:tV (kk X cm) E (bt f mr) Z H Q):QG r (DZ (kk X cm) E mr) Z H Q:=by
 obtain⟨c,F,U,rel,h⟩:=h;refine⟨c,F,U,rel,h.bind λp U1 v F1 H1 Ð _ _ r1 h1=>?_⟩;cases e:f p with
 |none=>rw[e] at h1;exact h1.elim
 |some pv=>rw[e] at h1;exact hf Ð r1 e λz F' H' ĵ s1 s2 q'=>h1 z F' H' ĵ s1 s2 q'
def SM{r:List V->Hp->VK->Prop}{f:List PV->Option RV}(hf:BD (kk X cm) r f){Z:ð}{H:Hp}{Q:VK}(h:tO (kk X cm) E (oQ f mr) Z H Q):QG r (DZ (kk X cm) E mr) Z H Q:=by
 obtain⟨c,F,U,rel,h⟩:=h;refine⟨c,F,U,rel,h.bind λp U1 v F1 H1 Ð _ _ r1 h1=>?_⟩;cases e:f p with
 |none=>rw[e] at h1;exact h1.elim
 |some pv=>rw[e] at h1;exact hf Ð r1 e λz F' H' ĵ s1 s2 q'=>h1 z F' H' ĵ s1 s2 q'
end
open M3
@[simp] def fC(U:û):Ġ Fl:= .ok .nx U
@[simp] def Ē(a b:M Fl)(U:û):Ġ Fl:= (a U).bind fun f U1=>match f with
  | .nx=>b U1
  |f=>.ok f U1
@[simp] def Ř(i:Nat)(m:M RV)(U:û):Ġ Fl:= (m U).bind λr U1=>.ok .nx (U1.set i r.slot)
@[simp] def Ī(m:M RV)(U:û):Ġ Fl:= (m U).bind λr U1=>.ok (.rt r) U1
section
variable{X:Cx}{cm:String->À}{E:ð->XK}{a b e:Å}{st:Ï}{rest:List Ï}{es:List Å}{pos:Pos}{m1 m2:M Fl}{mo:M RV}{mv:M PV}
def ĝ:Ϡ X [] (tS (kk X cm) E fC):=Ϡ.wk si λD Z H ⟨c,F,U,rel,h⟩=>h Z F H rel (Ò.refl F)
def ā(h:PS X st (tS (kk X cm) E m1)):Ϡ X [st] (tS (kk X cm) E m1):=eK h
def EM{c:Ctx}{F:Hp}{D:Ends}{r:Ġ Fl}(h:Ņ (kk X cm) E c F D (r.bind λf U1=>match f with| .nx=>m2 U1|f=>.ok f U1)):Ņ (kk X cm) E c F {D with nx:=tS (kk X cm) E m2 D} r:=by
 cases r with
 |ok f U1=>
  cases f with
  |nx=>exact λZ' F' H' ĵ s=>⟨c,F',U1,ĵ,Ņ.mono h s⟩
  |bk=>exact h
  |ct=>exact h
  |rt v=>exact h
 |exc x U1=>exact h
 |bad=>exact h
def ã(h1:PS X st (tS (kk X cm) E m1))(h2:Ϡ X rest (tS (kk X cm) E m2)):Ϡ X (st::rest) (tS (kk X cm) E (Ē m1 m2)):=Ϡ.wk (be h1 h2) λD Z H ⟨c,F,U,rel,h⟩=>⟨c,F,U,rel,EM h⟩
def Ā.Kj{K:KK}{c:Ctx}{F H:Hp}{Z:ð}{U:û}{i:Nat}{t:Bool}{ps qs rows:List PV}{v:V}(r:Ā K c F H Z U)(q:ij K c.B F t ps qs rows v):Ā K c F H (Z.set i (some v)) (U.set i (RV.bn t ps qs rows).slot):=by
 cases t with
 |true=>exact r.put (s:=.sh (QI true ps qs rows)) rfl ⟨v,rfl,ij.rep q⟩
 |false=>
  have e:ps=[]:=by
   obtain⟨_,_,_,_,_,_,_,_,_,_,_,z⟩:=q;rcases z with⟨_,z,_⟩|⟨z,_⟩
   ·exact z
   ·cases z
  subst e;exact r.put (s:=.bn qs rows) rfl ⟨v,rfl,q⟩
def Oh{i:Nat}{x:Str}{aa:Pos}(hN:X.N.Nodup)(hi:X.N[i]?=some x)(hx:Loc X.env.scope x)(he:PE X e (tO (kk X cm) E mo))(hs:Ĳ e (some (.Name x aa)) pos.line X.env=pure false:=by rfl)(hf:X.fn x=true\/X.env.scope.names.lookup x=some .local:=by first|exact .inl rfl|exact .inr rfl|assumption) :
 PS X (.Assign [.Name x aa] e pos) (tS (kk X cm) E (Ř i mo)):=PS.wk (jU hN hi hx he hs hf) λD Z H ⟨c,F,U,rel,h⟩=>⟨c,F,U,rel,Ņ.bind h λr U1 v F1 H1 Ð s1 q h1=>by
 cases r with
 |sh p=>exact h1 _ F1 H1 (Ð.put rfl ⟨v,rfl,q⟩) ċ
 |ow ps=>obtain⟨a,vs,rfl,q1,q2,q3,q4,q5⟩:=q;exact h1 _ F1 H1 (Ð.wE ⟨a,vs,rfl,q1,q2,q3,q5⟩ λ_ z=>V.ref.inj z▸q4) ċ
 |ot ps qs rs=>obtain⟨p,a,xs,vs,ys,rfl,q0,qx,q1,q2,q3,q4,q5,q6⟩:=q;exact h1 _ F1 H1 (Ð.wE (s:=.ot ps qs rs) ⟨p,a,xs,vs,ys,rfl,q0,qx,q1,q2,q3,q5,q6⟩ λ_ z=>jo (ps:=ps) (qs:=qs) (rs:=rs) z ⟨p,xs,ys,rfl,q0,qx.length.symm⟩▸q4) ċ
 |bn t ps qs rows=>exact h1 _ F1 H1 (Ð.Kj q) ċ⟩
def Oi(he:PE X e (tO (kk X cm) E mo)):PS X (.Return (some e) pos) (tS (kk X cm) E (Ī mo)):=PS.wk (A0 he) λD Z H ⟨c,F,U,rel,h⟩=>⟨c,F,U,rel,Ņ.bind h λr U1 v F1 H1 Ð s1 q h1=>h1 v Z F1 H1 Ð ċ q⟩
def ϡ{t:M Bool}{ss Jq:List Ï}(hc:PT X a (tB (kk X cm) E t))(ha:Ϡ X ss (tS (kk X cm) E m1))(hb:Ϡ X Jq (tS (kk X cm) E m2)):PS X (.If a ss Jq pos) (tS (kk X cm) E (dL t m1 m2)):=PS.wk (yL hc ha hb) λD Z H ⟨c,F,U,rel,h⟩=>⟨c,F,U,rel,Ņ.bind h λr U1 v F1 H1 Ð s1 q h1=>by
 have e:r=v:=q;subst e;cases r with
 |true=>exact⟨c,F1,U1,Ð,h1⟩
 |false=>exact⟨c,F1,U1,Ð,h1⟩⟩
abbrev Tg:=PV->û->Option û
abbrev Gq:=List PV->û->Option û
def Kk(K:KK)(c:Ctx)(F H:Hp)(Q:ð->Hp->Prop):Option û->Prop
 |some U'=>∀Z',Ā K c F H Z' U'->Q Z' H
 |none=>False
def tT(K:KK)(g:Tg):TG:=λv Z H Q=>∃c F U p,Ā K c F H Z U/\ü K F p v/\Kk K c F H Q (g p U)
def QK(K:KK)(g:Gq):Ef:=λv Z H Q=>∃c F U p,Ā K c F H Z U/\Õ K F p v/\Kk K c F H Q (g p U)
def gN(i:Nat):Tg:=λp U=>some (U.set i (.sh p))
def kz:Gq:=λps U=>match ps with
 | []=>some U
 |_=>none
def ř(g:Tg)(gs:Gq):Gq:=λps U=>match ps with
 |p::ps=>(g p U).bind λU1=>gs ps U1
 | []=>none
def gT(n:Nat)(gs:Gq):Tg:=λp U=>match p with
 | .tup ps=>if ps.length=n then gs ps U else none
 |_=>none
def PG.SN{tg:Å}{t t':TG}(h:PG X tg t)(i:∀v Z H Q,t' v Z H Q->t v Z H Q):PG X tg t':=λÃ s Z H v u Q I r q=>h Ã s Z H v u Q I r (i v Z H Q q)
def yM.wk{tg:List Å}{t t':Ef}(h:yM X tg t)(i:∀v Z H Q,t' v Z H Q->t v Z H Q):yM X tg t':=λÃ s Z H v u Q I r q=>h Ã s Z H v u Q I r (i v Z H Q q)
def BE{i:Nat}{x:Str}(hN:X.N.Nodup)(hi:X.N[i]?=some x)(hx:Loc X.env.scope x)(hf:X.fn x=true\/X.env.scope.names.lookup x=some .local:=by first|exact .inl rfl|exact .inr rfl|assumption):PG X (.Name x pos) (tT (kk X cm) (gN i)):=
 PG.SN (gB hN hi hx hf) λv Z H Q ⟨c,F,U,p,rel,rp,h⟩=>h _ (rel.put rfl ⟨v,rfl,rp⟩)
def BF:yM X [] (QK (kk X cm) kz):=yM.wk sj λv Z H Q ⟨c,F,U,p,rel,rp,h⟩=>by
 cases p with
 |nil=>
  have e:v=[]:=by have:=rp;unfold Õ at this;exact this
  exact⟨e,h Z rel⟩
 |cons _ _=>exact h.elim
def gF{es:List Å}{g:Tg}{gs:Gq}(h1:PG X e (tT (kk X cm) g))(h2:yM X es (QK (kk X cm) gs))(hs:(bK (e::es) X.env).map (·.2)=dR e X.env::(bK es X.env).map (·.2):=by rfl):yM X (e::es) (QK (kk X cm) (ř g gs)):=
 yM.wk (dm h1 h2 hs) λv Z H Q ⟨c,F,U,p,rel,rp,h⟩=>by
  cases p with
  |nil=>exact h.elim
  |cons p ps=>
   unfold Õ at rp;obtain⟨x,r,rfl,r1,r2⟩:=rp;refine⟨x,r,rfl,c,F,U,p,rel,r1,?_⟩;unfold ř at h;dsimp only at h;cases eg:g p U with
   |none=>rw[eg] at h;exact h.elim
   |some U1=>rw[eg] at h;exact λZ' ĵ=>⟨c,F,U1,ps,ĵ,r2,h⟩
def Gs{es:List Å}{k:Nat}{gs:Gq}{n:Nat}(hc:X.calm=true)(h:yM X es (QK (kk X cm) gs))(hn:(bK es X.env).length=n:=by rfl)(mn:(bK es X.env).findIdx? (·.1)=none:=by rfl):PG X (.Tuple es k pos) (tT (kk X cm) (gT n gs)):=
 PG.SN (wl hc h hn mn) fun v Z H Q ⟨c,F,U,p,rel,rp,h⟩=>by
   cases p with
   |tup ps=>
    unfold ü at rp;obtain⟨a,xs,h1,h2,h3⟩:=rp;unfold gT at h;dsimp only at h;split at h
    ·rename_i hl;exact⟨a,xs,h1,Ò.tup rel.sub h2,by rw[<-h3.length];exact hl,c,F,U,ps,rel,h3,h⟩
    ·exact h.elim
   |_=>exact h.elim
@[simp] def Kl(i:Nat)(m:M PV)(U:û):Ġ Fl:= match U[i]? with
  |some (.ow _)=>(m U).bind λp U1=>match U1[i]? with
   |some (.ow ps)=>if ps.length<16777216 then .ok .nx (U1.set i (.ow (ps ++ [p]))) else .bad
   |_=>.bad
  |_=>.bad
def EN{i:Nat}{D:Ends}{Z:ð}{H:Hp}(h:tS (kk X cm) E (Kl i mv) D Z H):jh (Gf X.K "list" gE (bc i) (tL (kk X cm) E (Í mv å))) D Z H:=by
 obtain⟨c,F,U,rel,h⟩:=h;unfold Kl at h;cases e1:U[i]? with
 |none=>rw[e1] at h;exact h.elim
 |some sl=>
  rw[e1] at h;cases sl with
  |ow QL=>
   obtain⟨a,QM,z1,z2,z3,z4,z5,z6⟩:=rel.ow e1;refine⟨.ref a,z1,.inl ⟨rfl,_,ϐ.of z2⟩,c,F,U,rel,?_⟩;dsimp only at h;unfold Í;cases em:mv U with
   |bad=>rw[em] at h;exact h
   |exc x U1=>rw[em] at h;exact λC d F' H' ĵ s1 q=>h Z C d F' H' ĵ s1 q
   |ok p U1=>
    rw[em] at h;intro us F1 H1 Ð s1 s2 r1;have dM:Õ (kk X cm) F1 [p] us:=r1;cases dM.pr with
    |cons rp t=>
     rename_i v ac;cases t;cases e2:U1[i]? with
     |none=>simp only[Ġ.bW,e2] at h;exact h.elim
     |some D9=>
      simp only[Ġ.bW,e2] at h;cases D9 with
      |ow ps=>
       obtain⟨a2,vs,w1,w2,w3,w4,w5,w6⟩:=Ð.ow e2;rw[z1] at w1;cases w1;dsimp only at h;split at h
       ·rename_i hz;refine⟨a,vs,v,rfl,rfl,w2,by rw[<-w5.length,ă];exact hz,h Z F1 _ (Ð.write w6 z1 ⟨a,vs ++ [v],rfl,Ü,w3,w4,Õ.append w5 (Õ.cons rp Õ.nil)⟩ λ_ z=>(V.ref.inj z).symm) s1⟩
       ·exact h.elim
      |_=>exact h.elim
  |_=>exact h.elim
def wF(K:KK)(Lh F:Hp)(J:It)(items:List PV):Prop:=∀(c:Ctx) (i:Nat) (F2 H:Hp) (Z:ð) (U:û),Ā K c F2 H Z U->Ò F F2->Ò Lh H->
 (∀p,items[i]?=some p->J.go i H/\∀x H',J.NH i H x H'->∃F3,Ā K c F3 H' Z U/\Ò F2 F3/\Ò H H'/\ü K F3 p x)/\(i=items.length->J.stop i H)
def VH(K:KK):RR (List PV) It:=λc _ _ F _ items J=>wF K c.L F J items
abbrev tI(K:KK)(E:ð->XK)(m:M (List PV)):TI:=tG K E (VH K) m
noncomputable def gf(g:Tg)(mb:M Fl):List PV->M Fl
 | [],U=>.ok .nx U
 |p::ps,U=>match g p U with
  |none=>.bad
  |some U1=>(mb U1).bind λf U2=>match f with
   | .nx=>gf g mb ps U2
   | .ct=>gf g mb ps U2
   | .bk=>.ok .nx U2
   | .rt r=>.ok (.rt r) U2
@[simp] def Ao(mi:M (List PV))(g:Tg)(mb:M Fl)(U:û):Ġ Fl:= (mi U).bind λitems U1=>gf g mb items U1
def uN{iter tg:Å}{body:List Ï}{mi:M (List PV)}{g:Tg}{mb:M Fl}(hp:PassesOwn (É X.prog X.w) X.A X.env X.xe)(hc:X.calm=true)(hi:PI X tg iter (tI (kk X cm) E mi))(hg:PG X tg (tT (kk X cm) g))(hb:Ϡ X body (tS (kk X cm) E mb))
 (hs:∀x,aQ iter X.env x=pure x:=by intro _;rfl):PS X (.For tg iter body [] pos) (tS (kk X cm) E (Ao mi g mb)):=PS.wk (A4 hp hc hi hg hb hs) λD Z H ⟨c,F,U,rel,h⟩=>⟨c,F,U,rel,Ņ.bind h λitems U1 J F1 H1 Ð s1 M8 h1=>by
 refine⟨λi m Z' H'=>∃F2 U2,i<=items.length/\m=items.length-i/\Ā (kk X cm) c F2 H' Z' U2/\Ò F1 F2/\Ņ (kk X cm) E c F2 D (gf g mb (items.drop i) U2),⟨_,F1,U1,Ÿ _,rfl,Ð,Ò.refl _,h1⟩,?_⟩;rintro i m Z2 H2 ⟨F2,U2,Ea,rfl,đ,s2,h2⟩;obtain⟨go,stop⟩:=M8 c i F2 H2 Z2 U2 đ s2 λb u e=>(đ.lent b u e).1;by_cases ku:i<items.length
 ·obtain⟨g1,g2⟩:=go items[i] (Ϭ ku);rw[dQ ku] at h2;unfold gf at h2;refine .inr ⟨g1,_,λZ' H' z=>z,λx H3 hy=>?_⟩;obtain⟨F3,dz,s3,_,rp⟩:=g2 x H3 hy;refine⟨c,F3,U2,items[i],dz,rp,?_⟩;cases eg:g items[i] U2 with
  |none=>rw[eg] at h2;exact h2.elim
  |some U3=>
   rw[eg] at h2;dsimp only at h2;intro Z4 oP;refine⟨c,F3,U3,oP,?_⟩;have RS:∀{U4:û},Ņ (kk X cm) E c F2 D (gf g mb (items.drop (i+1)) U4)->∀Z' F' H',Ā (kk X cm) c F' H' Z' U4->Ò F3 F'->∃m',m'<items.length-i/\∃F2 U2,i+1<=items.length/\m'=items.length-(i+1)/\Ā (kk X cm) c F2 H' Z' U2/\Ò F1 F2/\Ņ (kk X cm) E c F2 D (gf g mb (items.drop (i+1)) U2):=
    fun{U4} h3 Z' F' H' ĵ s'=>⟨items.length-(i+1),by lia,F',U4,ku,rfl,ĵ,(s2.trans s3).trans s',Ņ.mono h3 (s3.trans s')⟩
   have M1:=Ņ.mono h2 s3;cases e2:mb U3 with
   |bad=>rw[e2] at h2;exact h2
   |exc x U4=>rw[e2] at M1;exact M1
   |ok f U4=>
    rw[e2] at h2 M1;cases f with
    |nx=>exact RS h2
    |ct=>exact RS h2
    |bk=>exact M1
    |rt r=>exact M1
 ·have e:i=items.length:=by lia
  refine .inl ⟨stop e,?_⟩;rw[cy (by lia)] at h2;unfold gf at h2;exact h2 Z2 F2 H2 đ ċ⟩
end
inductive FR where
 |ret (r:RV)|exc (x:PX)|bad
abbrev MF:=List Slot->FR
noncomputable def FR.of:Ġ Fl->FR
 | .ok (.rt r) _=>.ret r
 | .ok .nx _=>.ret (.sh .non)
 | .exc x _=>.exc x
 |_=>.bad
def Ţ(n k:Nat)(mb:M Fl):MF:=λas=>if as.length=n then FR.of (mb (ì k as)) else .bad
def rF(K:KK)(H F' H':Hp):RV->V->Prop
 | .sh p,v=>ü K F' p v
 | .ow ps,v=>∃a vs,v=.ref a/\H' a=some (.lst vs)/\F' a=none/\H a=none/\Õ K F' ps vs
 | .ot ps qs rs,v=>∃p a xs vs ys,v=.ref p/\F' p=some (.tup (xs ++ .ref a::ys))/\Õ K F' ps xs/\H' a=some (.lst vs)/\F' a=none/\H a=none/\Õ K F' qs vs/\Õ K F' rs ys
 | .bn t ps qs rows,v=>ij K H F' t ps qs rows v
def SO(K:KK)(E:XK)(F H:Hp)(Q:VK):FR->Prop
 | .ret r=>∀v F' H',Gr F H F' H'->rF K H F' H' r v->Q v H'
 | .exc x=>∀C d F' H',Gr F H F' H'->mO K F' x C d->E C d H'
 | .bad=>False
def bX(K:KK)(n:Nat)(mf:MF):Sp:=λvs H Q E=>∃F as,as.length=n/\Ò F H/\Paired (au K F H) as vs/\SO K E F H Q (mf as)
def Ľ(CX:dh)(X:Cx)(E:ð->XK):Prop:=∀(Ã:List (À×Obj)) (Z:ð) (H:Hp) (s:Â) (e:Á) (s':Â),Inv X Ã Z H s->CX X.stack H s (E Z) e s'->X.xe e s'
section
variable{P:Ù}{w:Ô}{K:Æ}{cm:String->À}{mg:Str->Option Á}{base:Ë}{CX:dh}
def XF{x ç:Str}{st:Ï}{f:À}{fd:ú}{N ps:List Str}{k:Nat}{mb:M Fl}(F:yU K x ç st f fd)(S:Ý N ps (Î st))
 (ϧ:∀(ğ:Á) (A:Ú) (outer:List Env) (s:Â) (H:Hp) (E:XK),Ń k (A.deeper (ê ç (Î st) s.heap.objs.size f ğ))→
   Ϡ (Ň CX P w K mg base N ç (Î st) f ğ A outer s H E) (ń st) (tS ⟨K,cm⟩ (λ_=>E) mb)):Ď P w K mg base CX (k+1) f fd ps (bX ⟨K,cm⟩ ps.length (Ţ ps.length N.length mb)):=by
 obtain⟨oc,od,kV,iu,pm,an,ğ,ct,oJ,rfl,lk,cZ⟩:=F.ex;refine uD lk cZ S (λvs H Q E ⟨F,cr,h1,_,h2,_⟩=>by rw[<-Paired.length h2];exact h1) λA outer s H vs Q E hr pq=>?_;obtain⟨F,cr,h1,h2,h3,h4⟩:=pq;refine⟨_,ϧ ğ A outer s H E hr,aC F H,F,ì N.length cr,Ā.start h2 h3,?_⟩;unfold Ţ at h4;rw[if_pos h1] at h4;cases e:mb (ì N.length cr) with
 |bad=>rw[e] at h4;exact h4
 |exc x U'=>rw[e] at h4;exact λZ' C d F' H' rel s1 q=>h4 C d F' H' rel.gr q
 |ok fl U'=>
  rw[e] at h4;cases fl with
  |nx=>exact λZ' F' H' rel s1=>h4 .non F' H' rel.gr (ü.non (K:=⟨K,cm⟩) (F:=F'))
  |bk=>exact h4.elim
  |ct=>exact h4.elim
  |rt r=>
   intro v Z' F' H' rel s1 q;refine h4 v F' H' rel.gr ?_;cases r with
   |sh p=>exact q
   |ow qs=>obtain⟨a,ac,e1,e2,e3,e4,_,e5⟩:=q;exact⟨a,ac,e1,e2,e3,e4,e5⟩
   |ot qs ts rs=>obtain⟨p,a,xs,ac,ys,e1,e0,ex,e2,e3,e4,_,e5⟩:=q;exact⟨p,a,xs,ac,ys,e1,e0,ex,e2,e3,e4,e5⟩
   |bn t ps qs rows=>exact q
def XG{x ç:Str}{st:Ï}{f:À}{fd:ú}{N ps:List Str}{k n j:Nat}{mb:M Fl}{mf:MF}(F:yU K x ç st f fd)(S:Ý N ps (Î st))(hn:ps.length=n)(hj:N.length=j)(hf:mf=Ţ n j mb)
 (ϧ:∀(ğ:Á) (A:Ú) (outer:List Env) (s:Â) (H:Hp) (E:XK),Ń k (A.deeper (ê ç (Î st) s.heap.objs.size f ğ))→
   Ϡ (Ň CX P w K mg base N ç (Î st) f ğ A outer s H E) (ń st) (tS ⟨K,cm⟩ (λ_=>E) mb)):Ď P w K mg base CX (k+1) f fd ps (bX ⟨K,cm⟩ n mf):=by
 subst hn hj hf;exact XF F S ϧ
end
@[simp] def Ĕ(mf:MF)(mr:M (List Slot))(U:û):Ġ RV:= (mr U).bind fun ps U1=>match mf ps with
  | .ret r=>.ok r U1
  | .exc x=>.exc x U1
  | .bad=>.bad
section
variable{X:Cx}{cm:String->À}{E:ð->XK}{CX:dh}{k n:Nat}{f:À}{fd:ú}{ps:List Str}{mf:MF}{mr:M (List Slot)}{x:Str}{p pos:Pos}{e:Å}{es:List Å}
def lV{sp:Sp}{Ã:List (À×Obj)}{Z:ð}{H:Hp}{s:Â}{Q:VK}{us:List Á}{vs:List V}(F:Ď X.prog X.w X.K X.mg X.base CX k f fd ps sp)(hr:Ń k X.A)(hb:Binds X.K fd ps [])(hx:Ľ CX X E)
 (I:Inv X Ã Z H s)(r:ġ vs us)(h:sp vs H Q (E Z)):Ç (É X.prog X.w) X.A (call (.ref f) us) (EP X Ã Z Q) X.xe s:=by
 have hl:(us ++ []).length=ps.length:=by rw[ϩ,<-r.length];exact F.len _ _ _ _ h
 have zY:=hb s us I.fv hl;rw[ϩ] at zY;refine dY (bN (F.run X.A X.stack s H ⟨us,[]⟩ us vs Q (E Z) hr I.env0 zY r h) λr s' hq=>?_);cases r with
 |error e=>exact hx Ã Z H s e s' I hq
 |ok fl=>
  cases fl with
  |ret u=>exact I.after hq
  |next=>exact ě hq
  |brk=>exact ě hq
  |cont=>exact ě hq
def mX{c:Ctx}{F1 H1:Hp}{Z:ð}{U1:û}{Q:VK}{ps:List Slot}{vs:List V}(hlen:(∃r,mf ps=r/\∀z,r=z->z≠ .bad)->ps.length=n)(Ð:Ā (kk X cm) c F1 H1 Z U1)(r1:Paired (au (kk X cm) F1 H1) ps vs)
 (h:Ť (kk X cm) E (rO (kk X cm)) c F1 H1 Z Q (match mf ps with| .ret r=>.ok r U1| .exc x=>.exc x U1| .bad=>.bad)):bX (kk X cm) n mf vs H1 Q (E Z):=by
 refine⟨F1,ps,?_,Ð.sub,r1,?_⟩
 ·refine hlen ⟨_,rfl,λz hz hb=>?_⟩;rw[hz,hb] at h;exact h
 ·cases em:mf ps with
  |bad=>rw[em] at h;exact h
  |exc x=>rw[em] at h;exact λC d F' H' g rx=>h C d F' H' (Ð.call g) g.f rx
  |ret r=>
   rw[em] at h;intro v F' H' g rf;refine h v F' H' (Ð.call g) g.f g.h ?_;cases r with
   |sh p=>exact rf
   |ow qs=>obtain⟨a,ac,e1,e2,e3,e4,e5⟩:=rf;exact⟨a,ac,e1,e2,e3,Ð.base.free e4,Ð.eO g.f (Ð.fresh e4),e5⟩
   |ot qs ts rs=>obtain⟨p,a,xs,ac,ys,e1,e0,ex,e2,e3,e4,e5⟩:=rf;exact⟨p,a,xs,ac,ys,e1,e0,ex,e2,e3,Ð.base.free e4,Ð.eO g.f (Ð.fresh e4),e5⟩
   |bn t ps qs rows=>exact ij.base rf Ð.base
def bh{n k:Nat}{mb:M Fl}{ps:List Slot}(h:∃r,Ţ n k mb ps=r/\∀z,r=z->z≠ .bad):ps.length=n:=by
 obtain⟨r,h1,h2⟩:=h;unfold Ţ at h1;by_cases hl:ps.length=n
 ·exact hl
 ·rw[if_neg hl] at h1;exact absurd h1.symm (λz=>h2 .bad (by rw[<-h1]) rfl)
def Km(F:Ď X.prog X.w X.K X.mg X.base CX k f fd ps (bX (kk X cm) n mf))(hlen:∀{ps:List Slot},(∃r,mf ps=r/\∀z,r=z->z≠ .bad)->ps.length=n)(hr:Ń k X.A)(hg:Gl X x)(hm:X.mg x=some (.ref f))(hk:Ō X.K (.ref f)=true)(hb:Binds X.K fd ps [])(hx:Ľ CX X E)
 (ha:PA X (e::es) (tA (kk X cm) E mr))(gc:(x== ("__debug__" :Str))=false:=by decide)(he:È (e::es) X.env=(false,eval e X.env)::È es X.env:=by exact į rfl)(hpl:(ñ pos (È es X.env)).any (·.1)=false:=by rfl) :
 PE X (.Call (.Name x p) (e::es) [] pos) (tO (kk X cm) E (Ĕ mf mr)):=by
 intro Ã s Z H Q I h;obtain⟨c,F,U,rel,h⟩:=h;refine bM (aW I hg hm ?_ gc);refine cK (h₀:= X.base) I.ok.mod.AT hk (ň (ha pos Ã s Z H (λvs H1=>bX (kk X cm) n mf vs H1 Q (E Z)) I ⟨c,F,U,rel,h.bind λcr U1 vs F1 H1 Ð _ _ r1 h1=>mX hlen Ð r1 h1⟩) λus s1 ⟨vs,H1,I1,r,q⟩=>⟨I1.fv,?_⟩) he hpl;exact lV (by assumption) hr hb hx I1 r q
end
@[simp] def ϸ(m:M PV)(U:û):Ġ (List PV):= (m U).bind fun p U1=>match p with
  | .lst ps=>.ok ps U1
  | .tup ps=>.ok ps U1
  | .str z=>.ok (z.cps.toList.map λc=>.str ⟨#[c]⟩) U1
  |_=>.bad
section
variable{X:Cx}{cm:String->À}{E:ð->XK}{tg:Å}
def SQ(K:Æ)(tl:TE):TI:=λZ H R=>tl Z H λx H1=>(∃a,x=.ref a/\(∃xs,ϐ K H1 a xs)/\R (NI K a) H1)\/(∃a,x=.ref a/\(∃xs,dJ K H1 a xs)/\R (Vx K a) H1)\/∃z,x=.str z/\R (W9 z) H1
def wG{l:Å}{tl:TE}(hl:PE X l tl):PI X tg l (SQ X.K tl):=by
 intro Ã s Z H R I h;refine ň (hl Ã s Z H _ I h) λv s1 ⟨x,H1,I1,r1,q1⟩=>?_;rcases q1 with⟨a,e,⟨xs,hq⟩,q⟩|⟨a,e,⟨xs,hq⟩,q⟩|⟨z,e,q⟩
 ·subst e;cases r1;obtain⟨Ğ,rv,p,hz⟩:=I1.list hq;refine iU p.isList ?_;refine⟨s1.heap.objs.size,[s1.heap.objs.size],_,_,H1,rfl,I1.kept (t':=s1.toks) λb o e=>ô _ e,Ac a _,⟨_,ļ _ rfl,rfl,rfl⟩,λb hb=>?_,q⟩;have e:b=s1.heap.objs.size:=by simpa using hb
  subst e;exact I1.A2 (â _) (I1.hok.fresh (â _))
 ·subst e;cases r1;obtain⟨Ğ,rv,p,hz⟩:=I1.tuple hq;refine wpAny_pyIter_tuple (show s1.heap.IsTuple a Ğ.toArray from p) ?_;refine⟨s1.heap.objs.size,[s1.heap.objs.size],_,_,H1,rfl,I1.kept (t':=s1.toks) λb o e=>ô _ e,wm a _,⟨_,ļ _ rfl,rfl,rfl⟩,λb hb=>?_,q⟩;have e:b=s1.heap.objs.size:=by simpa using hb
  subst e;exact I1.A2 (â _) (I1.hok.fresh (â _))
 ·subst e;obtain⟨t,rfl⟩:=r1;have gR:∀ty,(∀A:Ú,A.handled=none->Walks X.prog X.w A s1.heap.objs.size [s1.heap.objs.size] [s1.heap.objs.size] z.cps.size (SignAt z) (λi h=>h.IsStrIter s1.heap.objs.size ty z t i))->
   (∀(A:Ú) (i:Nat) (s:Â) (Q:Á->Â->Prop) (E:Á->Â->Prop),s.heap.IsStrIter s1.heap.objs.size ty z t i->Q (.ref s1.heap.objs.size) s->Ç (É X.prog X.w) A (pyIter (.ref s1.heap.objs.size)) Q E s)->
   (["enumerate","zip","dict_itemiterator","dict_reverseitemiterator","odict_iterator","itertools.zip_longest","itertools.pairwise"].contains ty=false)->
   RO X Ã Z tg R (.ref s1.heap.objs.size) {s1 with heap:=s1.heap.push {cls:=.type ty,data:=.fields #[.str z t,.int 0 0]}}:=λty hW hS gd=>by
   refine⟨s1.heap.objs.size,[s1.heap.objs.size],_,_,H1,rfl,I1.kept (t':=s1.toks) λb o e=>ô _ e,Am _ z t ty hW hS gd,⟨_,ļ _ rfl,rfl,rfl⟩,λb hb=>?_,q⟩;have e:b=s1.heap.objs.size:=by simpa using hb
   subst e;exact I1.A2 (â _) (I1.hok.fresh (â _))
  cases ha:z.cps.all (·< 128) with
  |true=>exact wpAny_pyIter_ascii ha (gR _ (λA hA=>Walks.strAscii hA _ z t) (λA i s Q E st q=>wpAny_pyIter_striter_ascii st q) (by decide))
  |false=>exact wpAny_pyIter_wide ha (gR _ (λA hA=>Walks.strWide hA _ z t) (λA i s Q E st q=>wpAny_pyIter_striter_wide st q) (by decide))
def gY{l:Å}{m:M PV}(hl:PE X l (tV (kk X cm) E m)):PI X tg l (tI (kk X cm) E (ϸ m)):=λÃ s Z H R I h=>wG hl Ã s Z H R I (by
 obtain⟨c,F,U,rel,h⟩:=h;refine⟨c,F,U,rel,h.bind λp U1 v F1 H1 Ð s1 s2 q h1=>?_⟩;cases p with
 |lst ps=>have q':ü (kk X cm) F1 (.lst ps) v:=q;unfold ü at q';obtain⟨a,vs,rfl,e1,e2⟩:=q';refine .inl ⟨a,rfl,⟨vs,Ð.sub.seq e1⟩,h1 _ F1 H1 Ð ċ ċ ?_⟩;intro c' i F2 H2 Z2 U2 đ sF _;have hq:ϐ X.K H2 a vs:=(sF.trans đ.sub).seq e1;refine⟨λp hp=>?_,λhi=>⟨vs,hq,by rw[hi,e2.length];exact â _⟩⟩;obtain⟨u,hu,ru⟩:=bu e2.pr hp;refine⟨⟨vs,u,hq,hu⟩,λx H' ⟨hH,hx⟩=>?_⟩;subst hH;have:vs[i]?=some x:=hx vs hq;rw[hu] at this;cases this;exact⟨F2,đ,Ò.refl _,Ò.refl _,ü.same sF p u ru⟩
 |tup ps=>have q':ü (kk X cm) F1 (.tup ps) v:=q;unfold ü at q';obtain⟨a,vs,rfl,e1,e2⟩:=q';refine .inr (.inl ⟨a,rfl,⟨vs,Ò.tup Ð.sub e1⟩,h1 _ F1 H1 Ð ċ ċ ?_⟩);intro c' i F2 H2 Z2 U2 đ sF _;have hq:dJ X.K H2 a vs:=Ò.tup (sF.trans đ.sub) e1;refine⟨λp hp=>?_,λhi=>⟨vs,hq,by rw[hi,e2.length];exact â _⟩⟩;obtain⟨u,hu,ru⟩:=bu e2.pr hp;refine⟨⟨vs,u,hq,hu⟩,λx H' ⟨hH,hx⟩=>?_⟩;subst hH;have:vs[i]?=some x:=hx vs hq;rw[hu] at this;cases this;exact⟨F2,đ,Ò.refl _,Ò.refl _,ü.same sF p u ru⟩
 |str z=>
  have q':v=.str z:=by have q':ü (kk X cm) F1 (.str z) v:=q;unfold ü at q';exact q'
  subst q';refine .inr (.inr ⟨z,rfl,h1 _ F1 H1 Ð ċ ċ ?_⟩);intro c' i F2 H2 Z2 U2 đ sF _;refine⟨λp hp=>?_,λhi=>by rw[hi,Ŏ];show _=_;simp⟩;rw[ķ] at hp;cases ez:z.cps.toList[i]? with
  |none=>rw[ez] at hp;cases hp
  |some cc=>rw[ez] at hp;cases hp;refine⟨by have:=(gi.mp ez).1;show i<z.cps.size;simpa using this,λx H' ⟨hH,c2,hc,hx⟩=>?_⟩;subst hH hx;rw[ez] at hc;cases hc;exact⟨F2,đ,Ò.refl _,Ò.refl _,ü.str⟩
 |_=>exact h1.elim)
noncomputable def av(i:Nat):M (List PV):=λU=>match U[i]? with
 |some (.bw ps)=>.ok ps U
 |some (.sh (.lst ps))=>.ok ps U
 |some (.sh (.tup ps))=>.ok ps U
 |some (.sh (.str z))=>.ok (z.cps.toList.map λc=>.str ⟨#[c]⟩) U
 |some (.ow ps)=>.ok ps (U.set i (.sh (.lst ps)))
 |_=>.bad
def eP(i:Nat){x:Str}{px:Pos}(hN:X.N[i]?=some x:=by rfl)(hv:AU X.env.scope x:=by first|exact ą rfl|exact ÿ (ą rfl)|exact ÿ (ÿ rfl))(hd:(x== ("__debug__" :Str))=false:=by decide)
 (cZ:(x== ("__classdict__" :Str))=false:=by decide):PI X tg (.Name x px) (tI (kk X cm) E (av i)):=λÃ s Z H R I h=>by
 obtain⟨c,F,U,rel,h⟩:=h;cases e:U[i]? with
 |none=>unfold av at h;rw[e] at h;exact h.elim
 |some sl=>
  have EO:Ť (kk X cm) E (VH (kk X cm)) c F H Z R (ϸ (Ĉ i) U)->Ç (É X.prog X.w) X.A (eval (.Name x px) X.env) (λv s1=>Ç (É X.prog X.w) X.A (pyIter v) (RO X Ã Z tg R) X.xe s1) X.xe s:=λh'=>
   gY (v_var i hN hv hd cZ) Ã s Z H R I ⟨c,F,U,rel,h'⟩
  unfold av at h;rw[e] at h;cases sl with
  |no=>exact h.elim
  |rc C ns ps=>exact h.elim
  |ot ps qs rs=>exact h.elim
  |ol kW=>exact h.elim
  |fr kW=>exact h.elim
  |pw ps=>exact h.elim
  |bn qs rows=>exact h.elim
  |dw cO=>exact h.elim
  |ow ps=>exact EO (by unfold ϸ Ĉ;rw[e];exact h)
  |sh p=>
   cases p with
   |lst ps=>exact EO (by unfold ϸ Ĉ;rw[e];exact h)
   |tup ps=>exact EO (by unfold ϸ Ĉ;rw[e];exact h)
   |str z=>exact EO (by unfold ϸ Ĉ;rw[e];exact h)
   |_=>exact h.elim
  |bw ps=>obtain⟨a,vs,h1,h2,h3⟩:=rel.slot i _ e;refine wG (fF hN hv hd cZ) Ã s Z H R I ⟨.ref a,Į h1,.inl ⟨a,rfl,⟨vs,ϐ.of (rel.lent a _ h2).1⟩,h _ F H rel ċ ċ ?_⟩⟩;intro c' j F2 H2 Z2 U2 đ sF sL;have hq:ϐ X.K H2 a vs:=ϐ.of (sL a _ h2);refine⟨λp hp=>?_,λhi=>⟨vs,hq,by rw[hi,h3.length];exact â _⟩⟩;obtain⟨u,hu,ru⟩:=bu h3.pr hp;refine⟨⟨vs,u,hq,hu⟩,λx H' ⟨hH,hx⟩=>?_⟩;subst hH;have:vs[j]?=some x:=hx vs hq;rw[hu] at this;cases this;exact⟨F2,đ,Ò.refl _,Ò.refl _,ü.same sF p u ru⟩
noncomputable def ik(lo:Int)(n:Nat)(c:Int):List PV:=(ϑ n).map λ(i:Nat)=>.int (lo+i*c)
def mY(i:Int):Bool:=decide (i.natAbs<1152921504606846976)
def pU:List PV->Option (List PV)
 | [.int j]=>if mY j=true then some (ik 0 j.toNat 1) else none
 |_=>none
@[simp] def wH(f:List PV->Option (List PV))(mr:M (List PV))(U:û):Ġ (List PV):= (mr U).bind λps U1=>Ġ.zc (f ps) U1
def wI{lo c:Int}{n i:Nat}{p:PV}(h:(ik lo n c)[i]?=some p):i<n/\p=.int (lo+i*c):=by
 unfold ik at h;by_cases hn:i<n
 ·rw[ķ,List.getElem?_range hn] at h;exact⟨hn,(Ŋ h).symm⟩
 ·rw[List.getElem?_eq_none (by simpa using hn)] at h;cases h
def wJ{lo c:Int}{n:Nat}:(ik lo n c).length=n:=by simp[ik]
def Kn{K:KK}{Lh F:Hp}(lo:Int)(n:Nat):wF K Lh F (QF lo n) (ik lo n 1):=λc i F2 H Z U rel sF _=>
 ⟨fun p hp=>by obtain⟨h1,rfl⟩:=wI hp;refine⟨h1,λx H' ⟨e1,e2⟩=>?_⟩;subst e1 e2;exact⟨F2,rel,Ò.refl _,Ò.refl _,by rw[Int.mul_one];exact ü.int⟩,λhi=>by rw[wJ] at hi;subst hi;exact â _⟩
def Ap{i:Int}(h:mY i=true): -(2 ^ 60)<=i/\i<2 ^ 60:=by unfold mY at h;rw[decide_eq_true_eq] at h;lia
variable{a:Å}{p pos:Pos}{mr:M (List PV)}
def BG{K:KK}{F:Hp}{ps:List PV}{vs:List V}(h:Õ K F ps vs):(∀i r,ps=.int i::r->∃r',vs=.int i::r'/\Õ K F r r')/\(ps=[]->vs=[]):=by
 refine⟨λi r e=>?_,λe=>?_⟩
 ·subst e;unfold Õ at h;obtain⟨x,r',h1,h2,h3⟩:=h;unfold ü at h2;exact⟨r',by rw[h1,h2],h3⟩
 ·subst e;unfold Õ at h;exact h
def uO(hg:Gl X "range")(hm:X.mg "range" =none)(ha:PA X [a] (tL (kk X cm) E mr))(hs:È [a] X.env=[(false,eval a X.env)]:=by exact į rfl):PI X tg (.Call (.Name "range" p) [a] [] pos) (tI (kk X cm) E (wH pU mr)):=
 λÃ s Z H R I h=>Ad hg hm ha hs Ã s Z H R I (by
  obtain⟨c,F,U,rel,h⟩:=h;refine⟨c,F,U,rel,h.bind λps U1 vs F1 H1 Ð s1 s2 q h1=>?_⟩;have q':Õ (kk X cm) F1 ps vs:=q;unfold pU at h1;split at h1
  ·rename_i j;split at h1
   ·rename_i hj;obtain⟨r',e1,e2⟩:=(BG q').1 _ _ rfl;cases(BG e2).2 rfl;obtain⟨k1,k2⟩:=Ap hj;exact⟨j,e1,by lia,by lia,h1 _ F1 H1 Ð ċ ċ (Kn 0 j.toNat)⟩
   ·exact h1.elim
  ·exact h1.elim)
end
noncomputable def uP:Slot->Slot
 | .sh p=>.sh p
 | .ow ps=>.bw ps
 | .bw ps=>.bw ps
 |_=>.no
def jZ(js:List Nat)(nl:Nat)(U:û):û:=js.map (λ(j:Nat)=>uP ((U[j]?).getD .no))++Ñ nl .no
noncomputable def ϊ(g:Tg)(mt:M Bool)(me:M PV):List PV->û->List PV->Option (List PV)
 | [],_,ag=>some ag
 |p::ps,U,ag=>match g p U with
  |none=>none
  |some U1=>match mt U1 with
   | .ok true U2=>match me U2 with
     | .ok q U3=>if ag.length<16777216 then ϊ g mt me ps U3 (ag ++ [q]) else none
     |_=>none
   | .ok false U2=>ϊ g mt me ps U2 ag
   |_=>none
@[simp] def Ϥ(js:List Nat)(nl:Nat)(mi:M (List PV))(g:Tg)(mt:M Bool)(me:M PV)(U:û):Ġ RV:= (mi U).bind fun items U1=>match ϊ g mt me items (jZ js nl U1) [] with
  |some ps=>.ok (.ow ps) U1
  |none=>.bad
abbrev EF:ð->XK:=λ_ _ _ _=>False
@[simp] def ś(U:û):Ġ Bool:= .ok true U
section
variable{K:KK}{c:Ctx}{F H:Hp}{Z:ð}{U:û}
def oR(F H H1:Hp):Ctx:=⟨H1,F,(aC F H).L,λ_ _ _=>True⟩
def Ā.cap(js:List Nat)(nl:Nat)(rel:Ā K c F H Z U){D:À}{o:HO}(hD:H D=none):Ā K (oR F H (upd H D o)) F (upd H D o) (fM js nl Z) (jZ js nl U) where
 sub:=rel.sub.trans (Ò.upd hD)
 base:=Ò.refl _
 f0:=Ò.refl _
 ba:=λ_ _ z=>z
 lent:=λa u e=>⟨Ò.upd hD a u (ű e).1,(ű e).2⟩
 lb:=fun a e=>by
   cases q:(oR F H (upd H D o)).L a with
   |none=>rfl
   |some u=>have e':upd H D o a=none:=e;rw[Ò.upd hD a u (ű q).1] at e';cases e'
 len:=by simp[fM,jZ]
 slot:= λi s e=>by
  unfold jZ at e;by_cases hi:i<js.length
  ·rw[Ϫ (by simpa using hi),ķ] at e;cases ej:js[i]? with
   |none=>rw[ej] at e;cases e
   |some j=>
    rw[ej] at e;have e':uP ((U[j]?).getD .no)=s:=Ŋ e;subst e';have hx:((fM js nl Z)[i]?).getD none=(Z[j]?).getD none:=by unfold fM;rw[Ϫ (by simpa using hi),ķ,ej];rfl
    rw[hx];cases er:U[j]? with
    |none=>trivial
    |some sl=>
     have q:=rel.slot j sl er;cases sl with
     |no=>trivial
     |sh p=>exact q
     |ow ps=>obtain⟨a,vs,h1,h2,h3,h4,h5⟩:=q;refine⟨a,vs,h1,?_,h5⟩;show(match F a with|none=>H a|some _=>none)=_;rw[h3];exact h2
     |bw ps=>obtain⟨a,vs,h1,h2,h3⟩:=q;obtain⟨l1,l2⟩:=rel.lent a _ h2;refine⟨a,vs,h1,?_,h3⟩;show(match F a with|none=>H a|some _=>none)=_;rw[l2];exact l1
     |rc C ns ps=>trivial
     |ot ps qs rs=>trivial
     |ol kW=>trivial
     |fr kW=>trivial
     |pw ps=>trivial
     |bn qs rows=>trivial
     |dw cO=>trivial
  ·rw[dP (by simpa using hi),cw] at e;split at e
   ·cases e;trivial
   ·cases e
 sep:=λi j a h1 _=>by
  exfalso;obtain⟨s,y,h1,_,h2⟩:=h1;have h2:=eN h2;unfold jZ at h1;by_cases hi:i<js.length
  ·rw[Ϫ (by simpa using hi),ķ] at h1;cases ej:js[i]? with
   |none=>rw[ej] at h1;cases h1
   |some j=>rw[ej] at h1;have e':uP ((U[j]?).getD .no)=s:=Ŋ h1;subst e';cases q:(U[j]?).getD .no<;>rw[q] at h2<;>cases h2
  ·rw[dP (by simpa using hi),cw] at h1;split at h1
   ·cases h1;cases h2
   ·cases h1
def Ā.rebase{H1 F1:Hp}{D:À}{ys zs:List V}(hD:H1 D=none)(hF:F1 D=none)(rel:Ā K (oR F1 H1 (upd H1 D (.lst ys))) F H Z U):Ā K (oR F1 H1 (upd H1 D (.lst zs))) F (upd H D (.lst zs)) Z U:= by
 have fD:F D=none:=rel.ba D (by show upd H1 D _ D≠none;rw[Ü];intro z;cases z) hF;have lD:∀b u,(oR F1 H1 (upd H1 D (.lst ys))).L b=some u->b≠D:=λb u e z=>by have q:=(ű (F:=F1) (H:=H1) (a:=b) (u:=u) e).1;rw[z,hD] at q;cases q
 have ne:∀b,(oR F1 H1 (upd H1 D (.lst ys))).B b=none->b≠D:=λb z q=>by subst q;have z':upd H1 b (.lst ys) b=none:=z;rw[Ü] at z';cases z'
 have back:∀b,b≠D->(oR F1 H1 (upd H1 D (.lst ys))).B b=none->(oR F1 H1 (upd H1 D (.lst zs))).B b=none:=λb hb z=>by have z':upd H1 D (.lst ys) b=none:=z;show upd H1 D (.lst zs) b=none;rw[Ö hb] at z' ⊢;exact z'
 refine⟨λb u e=>?_,λb u e=>?_,rel.f0,λb h1 h2=>?_,λb u e=>?_,λb e=>?_,rel.len,λi s e=>?_,rel.sep⟩
 ·have hb:b≠D:=λz=>by rw[z,fD] at e;cases e
  rw[Ö hb];exact rel.sub b u e
 ·by_cases hb:b=D
  ·subst hb;have e':upd H1 b (.lst zs) b=some u:=e;rw[Ü] at e' ⊢;exact e'
  ·have e':upd H1 D (.lst zs) b=some u:=e;rw[Ö hb] at e' ⊢;exact rel.base b u (by show upd H1 D _ b=some u;rw[Ö hb];exact e')
 ·refine rel.ba b (λz=>h1 ?_) h2;exact back b (ne b z) z
 ·rw[Ö (lD b u e)];exact rel.lent b u e
 ·refine rel.lb b ?_;have z':upd H1 D (.lst zs) b=none:=e;have hb:b≠D:=λq=>by rw[q,Ü] at z';cases z'
  show upd H1 D (.lst ys) b=none;rw[Ö hb] at z' ⊢;exact z'
 ·have q:=rel.slot i s e;cases s with
  |no=>trivial
  |sh p=>exact q
  |bw ps=>exact q
  |ow ps=>obtain⟨a,vs,q1,q2,q3,q4,q5⟩:=q;have hb:=ne a q4;exact⟨a,vs,q1,by rw[Ö hb];exact q2,q3,back a hb q4,q5⟩
  |rc C ns ps=>obtain⟨a,dx,fs,q1,q2,q3,q4,q5⟩:=q;have hb:=ne a q4;exact⟨a,dx,fs,q1,by rw[Ö hb];exact q2,q3,back a hb q4,q5⟩
  |ot ps qs rs=>obtain⟨p,a,xs,vs,ys,q1,q0,qx,q2,q3,q4,q5⟩:=q;have hb:=ne a q4;exact⟨p,a,xs,vs,ys,q1,q0,qx,by rw[Ö hb];exact q2,q3,back a hb q4,q5⟩
  |ol kW=>obtain⟨p,as,q1,q0,qn,qp⟩:=q;refine⟨p,as,q1,q0,qn,cP qp λa ps _ ⟨vs,q2,q3,q4,q5⟩=>?_⟩;have hb:=ne a q4;exact⟨vs,by rw[Ö hb];exact q2,q3,back a hb q4,q5⟩
  |fr kW=>obtain⟨p,as,q1,q2,q3,q4,qn,qp⟩:=q;have hb:=ne p q4;exact⟨p,as,q1,by rw[Ö hb];exact q2,q3,back p hb q4,qn,cP qp λa ps _ ⟨vs,k1,k2,k3⟩=>⟨vs,k1,back a (ne a k2) k2,k3⟩⟩
  |dw cO=>exact q
  |pw ps=>obtain⟨a,vs,q1,q2,q3,q4,q5⟩:=q;have hb:=ne a q4;exact⟨a,vs,q1,by rw[Ö hb];exact q2,q3,back a hb q4,q5⟩
  |bn qs rows=>obtain⟨v,q1,a,b,ys,vs,h1,h2,h3,h4,h5⟩:=q;exact⟨v,q1,a,b,ys,vs,h1,h2,back a (ne a h3) h3,back b (ne b h4) h4,h5⟩
end
section
variable{X:Cx}{cm:String->À}{E:ð->XK}{elt tg iter:Å}{ifs:List Å}{scope:ë}{pos:Pos}{mi:M (List PV)}{g:Tg}{mt:M Bool}{me:M PV}
def ϋ:Bt X [] (tB (kk X cm) E ś):=λÃ s Z H Q I h=>ED Ã s Z H Q I (by
 obtain⟨c,F,U,rel,h⟩:=h;exact h true F H rel ċ ċ rfl)
def BH(K:KK):RR (List PV) It:=λ_ _ _ F H items J=>wF K (aC F H).L F J items
def BI{K:KK}{c:Ctx}{F H:Hp}{Z:ð}{U:û}(rel:Ā K c F H Z U){b:À}{u:HO}(e:c.L b=some u):(aC F H).L b=some u:=by obtain⟨l1,l2⟩:=rel.lent b u e;show(match F b with|none=>H b|some _=>none)=some u;rw[l2];exact l1
def Gu(h:PI X tg iter (tI (kk X cm) E mi)):PI X tg iter (tG (kk X cm) E (BH (kk X cm)) mi):=λÃ s Z H R I ⟨c,F,U,rel,q⟩=>h Ã s Z H R I ⟨c,F,U,rel,Ť.bind (R':=BH (kk X cm)) (f:=λp U=>.ok p U) (by revert q;cases mi U <;> exact id) λp U1 v F1 H1 Ð s1 s2 q h1=>h1 v F1 H1 Ð ċ ċ λc' i F2 H2 Z2 U2 đ sF sL=>q c' i F2 H2 Z2 U2 đ sF λb u e=>sL b u (BI Ð e)⟩
def uQ{js:List Nat}{nl:Nat}{Z:ð}{H:Hp}{Q:VK}(h:tO (kk X cm) E (Ϥ js nl mi g mt me) Z H Q):yW js nl (tG (kk X cm) E (BH (kk X cm)) mi) (tT (kk X cm) g) (tB (kk X cm) EF mt) (tV (kk X cm) EF me) Z H Q:=by
 obtain⟨c,F,U,rel,h⟩:=h;refine⟨c,F,U,rel,h.bind λitems U1 J F1 H1 Ð s1 s2 M8 h1=>?_⟩;intro D hD;have hF:F1 D=none:=Ð.sub.free hD;cases ec:ϊ g mt me items (jZ js nl U1) [] with
 |none=>rw[ec] at h1;exact h1.elim
 |some res=>
  rw[ec] at h1;refine⟨λi m Z' H'=>∃F' U' ys ag,i<=items.length/\m=items.length-i/\Ā (kk X cm) (oR F1 H1 (upd H1 D (.lst ys))) F' H' Z' U'/\Õ (kk X cm) F' ag ys/\ϊ g mt me (items.drop i) U' ag=some res,
   ⟨_,F1,_,[],[],Ÿ _,rfl,?_,Õ.nil,ec⟩,?_⟩
  ·exact Ð.cap js nl hD
  ·rintro i m Z2 H2 ⟨F2,U2,ys,ag,Ea,rfl,đ,ra,h2⟩;have M9:Ò F1 F2:=đ.f0;obtain⟨go,stop⟩:=M8 _ i F2 H2 Z2 U2 đ M9 λb u e=>(đ.lent b u e).1;have U_:H2 D=some (.lst ys):=đ.base D _ (show upd H1 D _ D=_ from Ü);have fD:F2 D=none:=đ.ba D (by show upd H1 D _ D≠none;rw[Ü];intro z;cases z) hF;by_cases ku:i<items.length
   ·obtain⟨g1,g2⟩:=go items[i] (Ϭ ku);rw[dQ ku] at h2;unfold ϊ at h2;refine .inr ⟨g1,_,λZ' H' z=>z,λx H3 hy=>?_⟩;obtain⟨F3,dz,s3,SR,rp⟩:=g2 x H3 hy;refine⟨_,F3,U2,items[i],dz,rp,?_⟩;cases eg:g items[i] U2 with
    |none=>rw[eg] at h2;cases h2
    |some U3=>
     rw[eg] at h2;dsimp only at h2;intro Z4 oP;refine⟨_,F3,U3,oP,?_⟩;cases em:mt U3 with
     |bad=>rw[em] at h2;cases h2
     |exc x U4=>rw[em] at h2;cases h2
     |ok b U4=>
      rw[em] at h2;intro b' F5 H5 oS s5 XH eb;have Qqq0:b=b':=eb;subst Qqq0;cases b with
      |false=>rw[if_neg bI];dsimp only at h2;exact⟨items.length-(i+1),by lia,F5,U4,ys,ag,ku,rfl,oS,Õ.same (s3.trans s5) ag ys ra,h2⟩
      |true=>
       rw[if_pos rfl];dsimp only at h2;refine⟨_,F5,U4,oS,?_⟩;cases ee:me U4 with
       |bad=>rw[ee] at h2;cases h2
       |exc x U5=>rw[ee] at h2;cases h2
       |ok q U5=>
        rw[ee] at h2;dsimp only at h2;intro y F6 H6 wK s6 XI rq;split at h2
        ·rename_i hz;have Oj:=Õ.same ((s3.trans s5).trans s6) ag ys ra;refine⟨ys,wK.base D _ (show upd H1 D _ D=_ from Ü),by rw[<-Oj.length,ă];exact hz,?_⟩;exact⟨items.length-(i+1),by lia,F6,U5,ys ++ [y],ag ++ [q],ku,rfl,wK.rebase hD hF,Õ.append Oj (Õ.cons rq Õ.nil),h2⟩
        ·cases h2
   ·have e:i=items.length:=by lia
    refine .inl ⟨stop e,?_⟩;rw[cy (by lia)] at h2;unfold ϊ at h2;cases h2;have gr:Gr F1 H1 F2 H2:=⟨λb u e=>đ.base b u (by show upd H1 D _ b=_;rw[Ö (æ e hD)];exact e),M9,đ.sub,λb hb hf=>đ.ba b (by
     show upd H1 D _ b≠none;by_cases Qj:b=D
     ·rw[Qj,Ü];intro z;cases z
     ·rw[Ö Qj];exact hb) hf⟩
    have Ko:=Ð.call gr;exact h1 _ F2 H2 Ko M9 gr.h ⟨D,ys,rfl,U_,fD,Ð.base.free hD,Ð.eO gr.f (Ð.fresh hD),ra⟩
def EQ(N':List Str)(js:List Nat)(nl:Nat)(sc:ë)(zX:X.env.scope=sc)(hcalm:X.calm=true)
 (hi:PI X.ŗ tg iter (tG (kk X cm) E (BH (kk X cm)) mi))(hg:∀cl C s H fp,PG (ck X.ŗ N' scope cl C s H fp) tg (tT (kk X cm) g))(ht:∀cl C s H fp,Bt (ck X.ŗ N' scope cl C s H fp) ifs (tB (kk X cm) EF mt))(he:∀cl C s H fp,PE (ck X.ŗ N' scope cl C s H fp) elt (tV (kk X cm) EF me))
 (hcap:gU X.ŗ sc scope N' js)(hlen:js.length+nl=N'.length:=by rfl)
 (hk:scope.kind=.function:=by rfl)(hcell:∀y∈scope.names,y.2=.cell->scope.names.lookup y.1=some .cell:=by decide +kernel)(hnames:∀y∈scope.names,y.2=.local->scope.names.lookup y.1=some .local:=by decide +kernel)
 (hfree:∀y∈scope.names,y.2=.free->(sc.names.lookup y.1=some .cell\/sc.names.lookup y.1=some .free):=by decide +kernel)
 (hs:∀x,aQ iter X.env x=pure x:=by intro _;rfl) :
 PE X (.ListComp elt [⟨tg,iter,ifs,0⟩] scope pos) (tO (kk X cm) E (Ϥ js nl mi g mt me)):=
 PE.wk (PE.ŗ (yX N' js nl sc zX hcalm hi hg ht he hcap hlen hk hcell hnames hfree hs)) λ_ _ _ h=>uQ h
end
open M4
noncomputable abbrev bits(x:Int):Nat:=yk x
section
variable{X:Cx}{cm:String->À}{K:KK}
def Gv(K:Æ):R2:=λx y H Q=>∃l b xs zs,x=.ref l/\y=.ref b/\ϐ K H l xs/\ϐ K H b zs/\xs.length+zs.length<=sizeLine/\∀p,H p=none->Q (.ref p) (upd H p (.lst (xs++zs)))
def ER:Ϸ X (ŝ .Add) (Gv X.K):=by
 intro Ã s Z H x y v u Q I rx ry h;obtain⟨l,b,xs,zs,rfl,rfl,hH,hB,hz,q⟩:=h;cases rx;cases ry;obtain⟨Ğ,r,pl,z⟩:=I.list hH;obtain⟨jQ,r2,SS,z2⟩:=I.list hB;obtain⟨⟨c1,d1,t1,Ol⟩,n,e,hc,hd,hs⟩:=pl;obtain⟨⟨c2,d2,t2,D9⟩,n2,e2,Qk,Ql,DK⟩:=SS;simp only at hc hd hs Qk Ql DK;subst hc hd hs Qk Ql DK;have hl:=r.length;have iw:=r2.length;have ea:Ğ.toArray++jQ.toArray=(Ğ++jQ).toArray:=by simp
 refine concat_meets ⟨_,e,rfl⟩ ⟨_,e2,rfl⟩ noFill_list_add seq_list_add PySem.F.slot_list_add PySem.F.entry_list_add (PySem.F.args_list_add_2 _ _) (list_addW l b Ğ.toArray jQ.toArray n n2 none none Ol D9 (by simp only[ħ];lia)) ⟨e,e2,?_⟩;rw[ea];exact⟨.ref _,_,I.Sn (t':=s.toks) (r.append r2) (by rw[ϫ];lia),rfl,q _ I.fresh⟩
def Gw(K:Æ):R2:=λx y H Q=>∃l b xs zs,x=.ref l/\y=.ref b/\dJ K H l xs/\dJ K H b zs/\xs≠[]/\zs≠[]/\xs.length+zs.length<=sizeLine/\∀p,H p=none->Q (.ref p) (upd H p (.tup (xs++zs)))
def ES:Ϸ X (ŝ .Add) (Gw X.K):=by
 intro Ã s Z H x y v u Q I rx ry h;obtain⟨l,b,xs,zs,rfl,rfl,hH,hB,nx,nz,hz,q⟩:=h;cases rx;cases ry;obtain⟨Ğ,r,pl,z⟩:=I.tuple hH;obtain⟨jQ,r2,SS,z2⟩:=I.tuple hB;obtain⟨⟨c1,d1,t1,Ol⟩,e,hc,n,hd⟩:=pl;obtain⟨⟨c2,d2,t2,D9⟩,e2,Qk,n2,Ql⟩:=SS;simp only at hc hd Qk Ql;subst hc hd Qk Ql;have hl:=r.length;have iw:=r2.length;have ne1:Ğ≠[]:=λz=>by rw[z] at hl;exact nx (lA.mp hl)
 have ne2:jQ≠[]:=λz=>by rw[z] at iw;exact nz (lA.mp iw)
 have ea:Ğ.toArray++jQ.toArray=(Ğ++jQ).toArray:=by simp
 refine concat_meets ⟨_,e,rfl⟩ ⟨_,e2,rfl⟩ noFill_tuple_add seq_tuple_add PySem.F.slot_tuple_add PySem.F.entry_tuple_add (PySem.F.args_tuple_add_2 _ _) (tuple_addW2 l b Ğ.toArray jQ.toArray n n2 d1 d2 Ol D9 (by simpa using ne1) (by simpa using ne2) (by simp only[ħ];lia)) ⟨e,e2,?_⟩;rw[ea];exact⟨.ref _,_,I.laid (o:=.tup (xs++zs)) (t':=s.toks) (λ_ _ q=>ô _ q) (â _) ⟨by rw[ϫ];lia,(Ğ++jQ),r.append r2,⟨_,ļ _ rfl,rfl,_,rfl⟩⟩,rfl,q _ I.fresh⟩
noncomputable def ø:PV->PV->Option RV
 | .int i,.int j=>some (.sh (.int (i+j)))
 | .str i,.str j=>if i.length+j.length<=16777216 then some (.sh (.str (i++j))) else none
 | .lst ps,.lst qs=>if ps.length+qs.length<=16777216 then some (.ow (ps++qs)) else none
 | .tup (p::ps),.tup (q::qs)=>if(p::ps).length+(q::qs).length<=16777216 then some (.sh (.tup ((p::ps)++(q::qs)))) else none
 |_,_=>none
def Gx(K:Æ):R2:=λx y H Q=>N_ x y H Q\/(Gv K x y H Q\/Gw K x y H Q)
def Kp:Ϸ X (ŝ .Add) (Gx X.K):=J2.or (ER.or ES)
def Kq:SI K (Gx K.K) ø:=by
 intro c F H Z U p q pv v u Q rel r1 r2 e k;unfold ø at e;split at e
 ·cases e;cases r1.int;cases r2.int;exact .inl (k _ F H rel ċ ċ (ü.int (K:=K) (F:=F)))
 ·split at e
  ·rename_i hz;cases e;cases r1.str;cases r2.str;exact .inl ⟨by rw[ă];exact hz,k _ F H rel ċ ċ (ü.str (K:=K) (F:=F))⟩
  ·cases e
 ·split at e
  ·rename_i hz;cases e;obtain⟨a,xs,rfl,h1,h2⟩:=r1.lst rel.sub;obtain⟨b,ys,rfl,h3,h4⟩:=r2.lst rel.sub;refine .inr (.inl ⟨a,b,xs,ys,rfl,rfl,h1,h3,by rw[<-h2.length,<-h4.length,ă];exact hz,λd hd=>?_⟩);obtain⟨q1,q2⟩:=dv rel hd (Õ.append h2 h4);exact k _ F _ q1 ċ (Ò.upd hd) q2
  ·cases e
 ·split at e
  ·rename_i hz;cases e;obtain⟨a,xs,rfl,h1,h2⟩:=r1.tup rel.sub;obtain⟨b,ys,rfl,h3,h4⟩:=r2.tup rel.sub;have l1:=h2.length;have l2:=h4.length;refine .inr (.inr ⟨a,b,xs,ys,rfl,rfl,h1,h3,(λz=>by rw[z] at l1;cases l1),(λz=>by rw[z] at l2;cases l2),by rw[<-l1,<-l2,ă];exact hz,λl hl=>k _ _ _ (rel.alloc hl) (Ò.upd (rel.sub.free hl)) (Ò.upd hl) ?_⟩);show ü K _ _ _;unfold ü;exact⟨l,xs++ys,rfl,dJ.of Ü,Õ.same (Ò.upd (rel.sub.free hl)) _ _ (Õ.append h2 h4)⟩
  ·cases e
 ·cases e
noncomputable def Af(g:Int->Int->Int):PV->PV->Option PV
 | .int i,.int j=>some (.int (g i j))
 |_,_=>none
noncomputable def Ek(C:Int->Int->Bool)(g:Int->Int->Int):PV->PV->Option PV
 | .int i,.int j=>if C i j=true then some (.int (g i j)) else none
 |_,_=>none
noncomputable def Nl(g:Int->Int->Bool):PV->PV->Option PV
 | .int i,.int j=>some (.bl (g i j))
 |_,_=>none
def Om{g:Int->Int->Int}:gP K (Ak λi j=>.int (g i j)) (Af g):=by
 intro c F H Z U p q pv v u Q rel r1 r2 e k;unfold Af at e;split at e
 ·cases e;cases r1.int;cases r2.int;exact k _ F H rel ċ ċ ü.int
 ·cases e
def ET{g:Int->Int->Bool}:gP K (Ak λi j=>.bl (g i j)) (Nl g):=by
 intro c F H Z U p q pv v u Q rel r1 r2 e k;unfold Nl at e;split at e
 ·cases e;cases r1.int;cases r2.int;exact k _ F H rel ċ ċ ü.bl
 ·cases e
def Kr{C:Int->Int->Bool}{C':Int->Int->Prop}{g:Int->Int->Int}(hC:∀i j,C i j=true->C' i j):gP K (mI C' λi j=>.int (g i j)) (Ek C g):=by
 intro c F H Z U p q pv v u Q rel r1 r2 e k;unfold Ek at e;split at e
 ·split at e
  ·rename_i hc;cases e;cases r1.int;cases r2.int;exact⟨hC _ _ hc,k _ F H rel ċ ċ ü.int⟩
  ·cases e
 ·cases e
def pV:=Af λi j=>i-j
def Ks:gP K (Ak λi j=>.int (i-j)) pV:=Om
def mZ(_ j:Int):Bool:=decide (j≠0) && decide (bits j<=8000)
def m_:=Ek mZ λi j=>i.fdiv j
def Kt:gP K (mI Al λi j=>.int (i.fdiv j)) m_:=Kr λi j h=>by unfold mZ at h;simpa[Al] using h
def zg(_ j:Int):Bool:=decide (j≠0)
def ae:=Ek zg λi j=>i.fmod j
def Ku:gP K (mI (λ_ j=>j≠0) λi j=>.int (i.fmod j)) ae:=Kr λi j h=>by unfold zg at h;simpa using h
def uR(i j:Int):Bool:=decide (0<=j) && decide (j.natAbs<=1000000) && decide (i.natAbs<18446744073709551616)
def pW:=Ek uR λi j=>i ^ j.toNat
def sG:gP K (mI JL λi j=>.int (i ^ j.toNat)) pW:=Kr λi j h=>by unfold uR at h;simp only[Ą,decide_eq_true_eq] at h;exact⟨h.1.1,by lia,by have:=h.2;simpa using this⟩
def wL:=Nl λi j=>decide (i<j)
def eQ:=Nl λi j=>decide (i<=j)
def EU:=Nl λi j=>decide (j<i)
def Kv:=Nl λi j=>decide (j<=i)
def uS:gP K (Ak λi j=>.bl (decide (i<j))) wL:=ET
def bi:gP K (Ak λi j=>.bl (decide (i<=j))) eQ:=ET
def Gy:gP K (Ak λi j=>.bl (decide (j<i))) EU:=ET
def On:gP K (Ak λi j=>.bl (decide (j<=i))) Kv:=ET
variable{E:ð->XK}{a b e:Å}{pos:Pos}{ma:M PV}
def zh:PV->Option PV
 | .int i=>some (.int (-i))
 |_=>none
def Kw:VG K (mU λi=>.int (-i)) zh:=by
 intro c F H Z U p pv v Q rel r1 e k;unfold zh at e;split at e
 ·cases e;cases r1.int;exact k _ F H rel ċ ċ ü.int
 ·cases e
mutual
def bH:PV->PV->Bool
 | .non,.non=>true
 | .bl a,.bl b=>a== b
 | .bl a,.int j=>(if a then 1 else 0)== j
 | .int i,.bl b=>i== (if b then 1 else 0)
 | .int i,.int j=>i== j
 | .str x,.str y=>x== y
 | .lst xs,.lst ys=>j_ xs ys
 | .tup xs,.tup ys=>j_ xs ys
 |_,_=>false
def j_:List PV->List PV->Bool
 | [],[]=>true
 |x::xs,y::ys=>bH x y && j_ xs ys
 |_,_=>false
end
mutual
def ť:PV->Bool
 | .non| .bl _| .int _=>true
 | .str x=>č x
 | .lst xs=>aB xs
 | .tup xs=>aB xs
 |_=>false
def aB:List PV->Bool
 | []=>true
 |x::xs=>ť x && aB xs
end
mutual
def kT:PV->Nat
 | .lst xs=>jr xs+1
 | .tup xs=>jr xs+1
 |_=>0
def jr:List PV->Nat
 | []=>0
 |x::xs=>max (kT x) (jr xs)
end
mutual
def dk:PV->Ż
 | .non=>.none
 | .bl b=>.bool b
 | .int i=>.int i
 | .str x=>.str x
 | .lst xs=>.list (dA xs)
 | .tup xs=>.tuple (dA xs)
 |_=>.none
def dA:List PV->List Ż
 | []=>[]
 |x::xs=>dk x::dA xs
end
mutual
theorem eR:∀p:PV,ť p=true->(dk p).canLay0=true
 | .non,_=>rfl
 | .bl _,_=>rfl
 | .int _,_=>rfl
 | .str x,h=>by unfold ť at h;unfold dk ro;exact h
 | .lst xs,h=>by unfold ť at h;unfold dk ro;exact fR xs h
 | .tup xs,h=>by unfold ť at h;unfold dk ro;exact fR xs h
 | .ins _ _ _,h=>by simp[ť] at h
 | .xc _ _ _,h=>by simp[ť] at h
 | .ty _,h=>by simp[ť] at h
 | .cls _,h=>by simp[ť] at h
theorem fR:∀ps:List PV,aB ps=true->d_ (dA ps)=true
 | [],_=>rfl
 |p::ps,h=>by unfold aB at h;rw[Ą] at h;unfold dA d_;rw[eR p h.1,fR ps h.2];rfl
end
mutual
theorem eS:∀p:PV,(dk p).depth=kT p
 | .non=>rfl
 | .bl _=>rfl
 | .int _=>rfl
 | .str x=>rfl
 | .lst xs=>by unfold dk PyData.depth kT;rw[nc xs]
 | .tup xs=>by unfold dk PyData.depth kT;rw[nc xs]
 | .ins _ _ _=>rfl
 | .xc _ _ _=>rfl
 | .ty _=>rfl
 | .cls _=>rfl
theorem nc:∀ps:List PV,PyData.depthAll (dA ps)=jr ps
 | []=>rfl
 |p::ps=>by unfold dA PyData.depthAll jr;rw[eS p,nc ps]
end
mutual
theorem sI:∀p q:PV,ť p=true->ť q=true->Ģ (dk p) (dk q)=bH p q
 | .lst xs,.lst ys,h1,h2=>by unfold ť at h1 h2;unfold dk bH Ģ;exact sJ xs ys h1 h2
 | .tup xs,.tup ys,h1,h2=>by unfold ť at h1 h2;unfold dk bH Ģ;exact sJ xs ys h1 h2
 | .ins _ _ _,_,h,_=>by simp[ť] at h
 | .xc _ _ _,_,h,_=>by simp[ť] at h
 | .ty _,_,h,_=>by simp[ť] at h
 | .cls _,_,h,_=>by simp[ť] at h
 | .non,q,_,h=>by cases q<;>first|rfl|(simp[ť] at h)|(simp[dk,bH,Ģ])
 | .bl _,q,_,h=>by cases q<;>first|rfl|(simp[ť] at h)|(simp[dk,bH,Ģ])
 | .int _,q,_,h=>by cases q<;>first|rfl|(simp[ť] at h)|(simp[dk,bH,Ģ])
 | .str _,q,_,h=>by cases q<;>first|rfl|(simp[ť] at h;done)|(simp[dk,bH,Ģ])
 | .lst _,.non,_,_=>by simp[dk,bH,Ģ]
 | .lst _,.bl _,_,_=>by simp[dk,bH,Ģ]
 | .lst _,.int _,_,_=>by simp[dk,bH,Ģ]
 | .lst _,.str _,_,_=>by simp[dk,bH,Ģ]
 | .lst _,.tup _,_,_=>by simp[dk,bH,Ģ]
 | .lst _,.ins _ _ _,_,h=>by simp[ť] at h
 | .lst _,.xc _ _ _,_,h=>by simp[ť] at h
 | .lst _,.ty _,_,h=>by simp[ť] at h
 | .lst _,.cls _,_,h=>by simp[ť] at h
 | .tup _,.non,_,_=>by simp[dk,bH,Ģ]
 | .tup _,.bl _,_,_=>by simp[dk,bH,Ģ]
 | .tup _,.int _,_,_=>by simp[dk,bH,Ģ]
 | .tup _,.str _,_,_=>by simp[dk,bH,Ģ]
 | .tup _,.lst _,_,_=>by simp[dk,bH,Ģ]
 | .tup _,.ins _ _ _,_,h=>by simp[ť] at h
 | .tup _,.xc _ _ _,_,h=>by simp[ť] at h
 | .tup _,.ty _,_,h=>by simp[ť] at h
 | .tup _,.cls _,_,h=>by simp[ť] at h
theorem sJ:∀ps qs:List PV,aB ps=true->aB qs=true->jb (dA ps) (dA qs)=j_ ps qs
 | [],[],_,_=>by simp[dA,j_,jb]
 | [],_::_,_,_=>by simp[dA,j_,jb]
 |_::_,[],_,_=>by simp[dA,j_,jb]
 |p::ps,q::qs,h1,h2=>by unfold aB at h1 h2;rw[Ą] at h1 h2;unfold dA j_ jb;rw[sI p q h1.1 h2.1,sJ ps qs h1.2 h2.2]
end
mutual
theorem BJ{F:Hp}:∀(p:PV) (v:V),ť p=true->ü K F p v->Rp K.K F (dk p) v
 | .non,_,_,r=>by unfold ü at r;unfold dk Rp;exact r
 | .bl _,_,_,r=>by unfold ü at r;unfold dk Rp;exact r
 | .int _,_,_,r=>by unfold ü at r;unfold dk Rp;exact r
 | .str _,_,_,r=>by unfold ü at r;unfold dk Rp;exact r
 | .lst xs,_,h,r=>by unfold ť at h;unfold ü at r;unfold dk Rp;obtain⟨a,vs,h1,h2,h3⟩:=r;exact⟨a,vs,h1,h2,gG xs vs h h3⟩
 | .tup xs,_,h,r=>by unfold ť at h;unfold ü at r;unfold dk Rp;obtain⟨a,vs,h1,h2,h3⟩:=r;exact⟨a,vs,h1,h2,gG xs vs h h3⟩
 | .ins _ _ _,_,h,_=>by simp[ť] at h
 | .xc _ _ _,_,h,_=>by simp[ť] at h
 | .ty _,_,h,_=>by simp[ť] at h
 | .cls _,_,h,_=>by simp[ť] at h
theorem gG{F:Hp}:∀(ps:List PV) (vs:List V),aB ps=true->Õ K F ps vs->jY K.K F (dA ps) vs
 | [],_,_,r=>by unfold Õ at r;unfold dA jY;exact r
 |p::ps,_,h,r=>by unfold aB at h;rw[Ą] at h;unfold Õ at r;unfold dA jY;obtain⟨x,t,h1,h2,h3⟩:=r;exact⟨x,t,h1,BJ p x h.1 h2,gG ps t h.2 h3⟩
end
def gH{c:Ctx}{F H:Hp}{Z:ð}{U:û}{p:PV}{v:V}(s:Ò F H)(h:ť p=true)(r:rR K c Z U F H p v):Rp K.K H (dk p) v:=by
 rcases r with r|r
 ·exact Rp.same s _ _ (BJ p v h r)
 ·cases p with
  |lst ps=>obtain⟨a,vs,rfl,h3,h4⟩:=r;unfold ť at h;unfold dk Rp;exact⟨a,vs,rfl,ϐ.of h3,jY.same s _ _ (gG ps vs h h4)⟩
  |ins C ns ps=>simp[ť] at h
  |_=>exact r.elim
noncomputable def ng(p q:PV):Bool:=ť p && ť q && decide (min (kT p) (kT q)<=60)
def Ŀ(p q:PV):Option PV:=if ng p q=true then some (.bl (bH p q)) else none
def da(p q:PV):Option PV:=if ng p q=true then some (.bl (!bH p q)) else none
def kA:gP K (EC K.K false) Ŀ:=by
 intro c F H Z U p q pv v u Q rel r1 r2 e k;unfold Ŀ at e;split at e
 ·rename_i hz;cases e;unfold ng at hz;simp only[Ą,decide_eq_true_eq] at hz;refine⟨dk p,dk q,gH rel.sub hz.1.1 r1,gH rel.sub hz.1.2 r2,eR p hz.1.1,eR q hz.1.2,by rw[eS,eS];exact hz.2,?_⟩;rw[sI p q hz.1.1 hz.1.2];exact k _ F H rel ċ ċ ü.bl
 ·cases e
def BK:gP K (EC K.K true) da:=by
 intro c F H Z U p q pv v u Q rel r1 r2 e k;unfold da at e;split at e
 ·rename_i hz;cases e;unfold ng at hz;simp only[Ą,decide_eq_true_eq] at hz;refine⟨dk p,dk q,gH rel.sub hz.1.1 r1,gH rel.sub hz.1.2 r2,eR p hz.1.1,eR q hz.1.2,by rw[eS,eS];exact hz.2,?_⟩;rw[sI p q hz.1.1 hz.1.2];exact k _ F H rel ċ ċ ü.bl
 ·cases e
def Kx:PV->Bool
 | .non=>true
 |_=>false
def Aq(p q:PV):Option PV:=match q with
 | .non=>some (.bl (Kx p))
 |_=>none
def EV{c:Ctx}{F H:Hp}{Z:ð}{U:û}{p:PV}{v:V}(r:rR K c Z U F H p v):decide (v=.non)=Kx p:=by
 rcases r with r|r
 ·cases p<;>unfold ü at r<;>first
   |(subst r;rfl)
   |(obtain⟨a,xs,rfl,_⟩:=r;rfl)
   |(obtain⟨a,xs,ys,rfl,_⟩:=r;rfl)
 ·cases p with
  |lst ps=>obtain⟨a,vs,rfl,_⟩:=r;rfl
  |ins C ns ps=>obtain⟨a,dx,fs,rfl,_⟩:=r;rfl
  |_=>exact r.elim
def BL:gP K (λx y H Q=>y=.non/\Q (.bl (decide (x=.non))) H) Aq:=by
 intro c F H Z U p q pv v u Q rel r1 r2 e k;unfold Aq at e;split at e
 ·cases e;refine⟨r2.non,?_⟩;rw[EV r1];exact k _ F H rel ċ ċ ü.bl
 ·cases e
def Ķ:PV->PV->Option PV
 | .lst ps,.int i=>mF ps i
 | .tup ps,.int i=>mF ps i
 | .str z,.int i=>if z.length<=16777216 then(mF z.cps.toList i).map λc=>.str ⟨#[c]⟩ else none
 |_,_=>none
def zi{F:Hp}{ps:List PV}{vs:List V}{i:Int}{p:PV}(r:Õ K F ps vs)(h:mF ps i=some p):∃v,mF vs i=some v/\ü K F p v:=by
 unfold mF at h ⊢;rw[r.length] at h;cases e:Ge vs.length i with
 |none=>rw[e] at h;cases h
 |some j=>rw[e] at h;obtain⟨v,h1,h2⟩:=bu r.pr h;exact⟨v,h1,h2⟩
def Gz:gP K (VF K.K) Ķ:=by
 intro c F H Z U p q pv v u Q rel r1 r2 e k;unfold Ķ at e;split at e
 ·obtain⟨a,vs,rfl,h1,h2⟩:=r1.lst rel.sub;cases r2.int;obtain⟨x,h3,h4⟩:=zi h2 e;exact⟨vs,x,.inl h1,h3,k _ F H rel ċ ċ h4⟩
 ·obtain⟨a,vs,rfl,h1,h2⟩:=r1.tup rel.sub;cases r2.int;obtain⟨x,h3,h4⟩:=zi h2 e;exact⟨vs,x,.inr h1,h3,k _ F H rel ċ ċ h4⟩
 ·split at e
  ·rename_i z i hz;cases r1.str;cases r2.int;cases ea:mF z.cps.toList i with
   |none=>rw[ea] at e;cases e
   |some cc=>rw[ea] at e;cases e;exact⟨cc,by rw[ă];exact hz,ea,k _ F H rel ċ ċ ü.str⟩
  ·cases e
 ·cases e
@[simp] def jt(U:û):Ġ (Option Int):= .ok none U
@[simp] def mP(m:M PV)(U:û):Ġ (Option Int):= (m U).bind fun p U1=>match p with
  | .int i=>.ok (some i) U1
  |_=>.bad
abbrev tP(K:KK)(E:ð->XK)(m:M (Option Int)):TO:=tG K E rI m
def bv:PO X none (tP (kk X cm) E jt):=λÃ s Z H Q I h=>Er Ã s Z H Q I (by
 obtain⟨c,F,U,rel,h⟩:=h;exact h none F H rel ċ ċ rfl)
def ō(ha:PE X e (tV (kk X cm) E ma)):PO X (some e) (tP (kk X cm) E (mP ma)):=λÃ s Z H Q I h=>Br ha Ã s Z H Q I (by
 obtain⟨c,F,U,rel,h⟩:=h;refine⟨c,F,U,rel,h.bind λp U1 v F1 H1 Ð _ _ r1 h1=>?_⟩;cases p with
 |int i=>
  have e:v=.int i:=by have dM:ü (kk X cm) F1 (.int i) v:=r1;unfold ü at dM;exact dM
  subst e;exact h1 (some i) F1 H1 Ð ċ ċ rfl
 |_=>exact h1.elim)
def bx{α:Type}(xs:List α)(lo hi:Option Int):List α:= (xs.drop (HT.gC xs.length 0 lo)).take (HT.gC xs.length xs.length hi-HT.gC xs.length 0 lo)
def QN(p:PV)(lo hi:Option Int):Option RV:=match p with
 | .lst ps=>some (.ow (bx ps lo hi))
 | .str z=>if z.length<=16777216 then some (.sh (.str (S (bx z.cps.toList lo hi)))) else none
 |_=>none
@[simp] def sK(ma:M PV)(ml mh:M (Option Int))(U:û):Ġ RV:= (ma U).bind λp U1=>(ml U1).bind λlo U2=>(mh U2).bind λhi U3=>Ġ.zc (QN p lo hi) U3
def Ŕ{ml mh:M (Option Int)}{lo hi:Option Å}{p2:Pos}(ha:PE X a (tR (kk X cm) E ma))(hl:PO X lo (tP (kk X cm) E ml))(hh:PO X hi (tP (kk X cm) E mh)):PE X (.Subscript a (.Slice lo hi none p2) pos) (tO (kk X cm) E (sK ma ml mh)):=
 PE.wk (Be XD ha hl hh) fun Z H Q ⟨c,F,U,rel,h⟩=>⟨c,F,U,rel,h.bind fun p U1 v F1 H1 Ð _ _ r1 h1=>⟨c,F1,U1,Ð,h1.bind fun lo U2 lo' F2 H2 đ sF sH r2 h2=>⟨c,F2,U2,đ,h2.bind fun hi U3 RT F3 H3 dz QO SR r3 h3=>by
   have e2:lo=lo':=r2;have e3:hi=RT:=r3;subst e2 e3;have dM:rR (kk X cm) c Z U3 F3 H3 p v:=r1.mono (sF.trans QO) (sH.trans SR);cases p with
   |lst ps=>
    obtain⟨a,vs,rfl,q1,q2⟩:=dM.lst dz.sub;refine⟨vs,q1,λd hd=>?_⟩;have e:Õ (kk X cm) F3 (bx ps lo hi) (uF vs lo hi):=by unfold bx uF;rw[q2.length];exact Õ.of (yZ _ (y_ _ q2.pr))
    obtain⟨z1,z2⟩:=dv dz hd e;exact h3 _ F3 _ z1 ċ (Ò.upd hd) z2
   |str z=>
    cases dM.str;unfold QN at h3;dsimp only at h3;split at h3
    ·rename_i hz;exact⟨by rw[ă];exact hz,h3 _ F3 H3 dz ċ ċ (ü.str (K:=kk X cm) (F:=F3))⟩
    ·exact h3.elim
   |_=>exact h3.elim⟩⟩⟩
def uT{c:Ctx}{F H:Hp}{Z:ð}{U:û}{p:PV}{vs:List V}(h:Nk K c Z U F H [p] vs):∃v,vs=[v]/\rR K c Z U F H p v:=by
 cases h with
 |cons r t=>cases t;exact⟨_,rfl,r⟩
noncomputable def bY:List PV->Option PV
 | [.lst ps]=>some (.int ps.length)
 | [.tup ps]=>some (.int ps.length)
 | [.str z]=>if z.length<=16777216 then some (.int z.length) else none
 |_=>none
def Ų:fQ K (J6 K.K) bY:=by
 intro c F H Z U ps pv vs Q rel r e k;unfold bY at e;split at e
 ·cases e;obtain⟨v,rfl,r1⟩:=uT r;obtain⟨a,xs,rfl,h1,h2⟩:=r1.lst rel.sub;refine⟨xs,.inl h1,?_⟩;rw[<-h2.length];exact k _ F H rel ċ ċ ü.int
 ·cases e;obtain⟨v,rfl,r1⟩:=uT r;obtain⟨a,xs,rfl,h1,h2⟩:=r1.tup rel.sub;refine⟨xs,.inr h1,?_⟩;rw[<-h2.length];exact k _ F H rel ċ ċ ü.int
 ·split at e
  ·rename_i hz;cases e;obtain⟨v,rfl,r1⟩:=uT r;cases r1.str;exact⟨by rw[ă];exact hz,k _ F H rel ċ ċ ü.int⟩
  ·cases e
 ·cases e
noncomputable def BM:List PV->Option PV
 | [.int i]=>some (.int (if i<0 then -i else i))
 |_=>none
def BO:fQ K M0 BM:=by
 intro c F H Z U ps pv vs Q rel r e k;unfold BM at e;split at e
 ·cases e;obtain⟨v,rfl,r1⟩:=uT r;cases r1.int;exact k _ F H rel ċ ċ ü.int
 ·cases e
noncomputable def fh:List PV->Option RV
 | [.lst ps]=>some (.ow ps)
 | [.tup ps]=>some (.ow ps)
 |_=>none
def zj(K:Æ):List V->Hp->VK->Prop:=λxs H Q=>∃p ys,xs=[.ref p]/\(ϐ K H p ys\/dJ K H p ys)/\∀l,H l=none->Q (.ref l) (upd H l (.lst ys))
def cQ:ū X (.type "list") (zj X.K):=su
def cR:BD K (zj K.K) fh:=by
 intro c F H Z U ps pv vs Q rel r e k;unfold fh at e;split at e
 ·cases e;obtain⟨v,rfl,r1⟩:=uT r;obtain⟨a,xs,rfl,h1,h2⟩:=r1.lst rel.sub;refine⟨a,xs,rfl,.inl h1,λl hl=>?_⟩;obtain⟨q1,q2⟩:=dv rel hl h2;exact k _ F _ q1 ċ (Ò.upd hl) q2
 ·cases e;obtain⟨v,rfl,r1⟩:=uT r;obtain⟨a,xs,rfl,h1,h2⟩:=r1.tup rel.sub;refine⟨a,xs,rfl,.inr h1,λl hl=>?_⟩;obtain⟨q1,q2⟩:=dv rel hl h2;exact k _ F _ q1 ċ (Ò.upd hl) q2
 ·cases e
end
theorem uU{K:KK}{F:Hp}:∀ns:List Int,Õ K F (ns.map .int) (ns.map V.int)
 | []=>Õ.nil
 |n::ns=>Õ.cons ü.int (uU ns)
def Oo(K:Æ):Sp:=λvs H Q _=>∃(sa:À) (ns:List Int),vs=[.ref sa]/\ϐ K H sa (ns.map V.int)/\ns.length<=63/\∀v H',v=.bl true->Q v H'
section
variable{X:Cx}{K:KK}
noncomputable def nh:List PV->Option PV
 | [.lst ps]=>some (.tup ps)
 | [.tup ps]=>some (.tup ps)
 |_=>none
def BP(K:Æ):List V->Hp->VK->Prop:=λxs H Q=>∃p ys,xs=[.ref p]/\((ϐ K H p ys/\∀l,H l=none->Q (.ref l) (upd H l (.tup ys)))\/(dJ K H p ys/\Q (.ref p) H))
def BQ:ū X (.type "tuple") (BP X.K):=oO
def BR:fQ K (BP K.K) nh:=by
 intro c F H Z U ps pv vs Q rel r e k;unfold nh at e;split at e
 ·cases e;obtain⟨v,rfl,r1⟩:=uT r;obtain⟨a,xs,rfl,h1,h2⟩:=r1.lst rel.sub;refine⟨a,xs,rfl,.inl ⟨h1,λl hl=>k _ _ _ (rel.alloc hl) (Ò.upd (rel.sub.free hl)) (Ò.upd hl) ?_⟩⟩;unfold ü;exact⟨l,xs,rfl,dJ.of Ü,Õ.same (Ò.upd (rel.sub.free hl)) _ _ h2⟩
 ·cases e;obtain⟨v,rfl,r1⟩:=uT r;have dM:=r1;obtain⟨a,xs,rfl,h1,h2⟩:=r1.tup rel.sub;refine⟨a,xs,rfl,.inr ⟨h1,k _ F H rel ċ ċ ?_⟩⟩;rcases dM with q|q
  ·exact q
  ·exact q.elim
 ·cases e
noncomputable def az:List PV->Option (List Bool)
 | []=>some []
 | .bl b::ps=>(az ps).map (b:: ·)
 |_::_=>none
theorem pX{F:Hp}:∀{ps:List PV} {vs:List V} {bs:List Bool},Õ K F ps vs->az ps=some bs->vs=bs.map V.bl
 | [],vs,bs,r,h=>by cases h;have r':=r.pr;cases r';rfl
 |p::ps,vs,bs,r,h=>by
  cases p with
  |bl b=>
   unfold az at h;cases eb:az ps with
   |none=>rw[eb] at h;cases h
   |some cs=>
    rw[eb] at h;cases h;have r':=r.pr;cases r' with
    |cons r1 t=>rw[mW r1,pX (Õ.of t) eb];rfl
  |_=>simp[az] at h
def nj:List PV->Option PV
 | [.lst ps]=>(az ps).map λbs=>.bl (bs.all id)
 |_=>none
def nk:fQ K (Kc K.K) nj:=by
 intro c F H Z U ps pv vs Q rel r e k;unfold nj at e;split at e
 ·rename_i ps;obtain⟨v,rfl,r1⟩:=uT r;obtain⟨a,xs,rfl,h1,h2⟩:=r1.lst rel.sub;cases eb:az ps with
  |none=>rw[eb] at e;cases e
  |some bs=>rw[eb] at e;cases e;refine⟨bs,by rw[<-pX h2 eb];exact h1,k _ F H rel ċ ċ ü.bl⟩
 ·cases e
end
section
variable{α:Type}{U:û}{i j n k:Nat}{p:PV}{ps:List PV}{ma mb:M PV}{b:M Fl}{g:Tg}{gs:Gq}
@[simp] theorem SU:(RV.sh p).val=p:=rfl
@[simp] theorem SV:(RV.ow ps).val=.lst ps:=rfl
@[simp] theorem SW:(RV.sh p).slot=.sh p:=rfl
@[simp] theorem SX:(RV.ow ps).slot=.ow ps:=rfl
@[simp] theorem SY:fw ma mb U=(ma U).bind fun p U1=>match p with| .bl b=>if b=true then mb U1 else .ok (.bl false) U1|_=>.bad:=by
  unfold fw;congr
  funext p U1
  cases p with
  |bl b=>cases b<;>rfl
  |_=>rfl
@[simp] theorem VI:QJ ma mb U=(ma U).bind fun p U1=>match p with| .bl b=>if b=true then .ok (.bl true) U1 else mb U1|_=>.bad:=by
  unfold QJ;congr
  funext p U1
  cases p with
  |bl b=>cases b<;>rfl
  |_=>rfl
@[simp] theorem Op:Ĉ i U=(match U[i]? with|some (.sh p)=>.ok p U|some (.ow ps)=>.ok (.lst ps) (U.set i (.sh (.lst ps)))|some (.bn qs rows)=>.ok (.lst (.lst qs::rows)) U|_=>.bad):=rfl
@[simp] theorem VJ:Ì i U=(match U[i]? with|some (.sh p)=>.ok p U|some (.ow ps)=>.ok (.lst ps) U|some (.bw ps)=>.ok (.lst ps) U|some (.rc C ns ps)=>.ok (.ins C ns ps) U|some (.bn qs rows)=>.ok (.lst (.lst qs::rows)) U|some (.pw ps)=>.ok (.lst ps) U|_=>.bad):=rfl
@[simp] theorem VL:jp i U=(match U[i]? with|some (.sh p)=>.ok (.sh p) U|some (.ow ps)=>.ok (.ow ps) (U.set i .no)|_=>.bad):=rfl
@[simp] theorem VM:gN i p U=some (U.set i (.sh p)):=rfl
@[simp] theorem Oq:kz [] U=some U:= rfl
@[simp] theorem Nn:ř g gs (p::ps) U=(g p U).bind λU1=>gs ps U1:=rfl
@[simp] theorem VN:gT n gs (.tup ps) U=if ps.length=n then gs ps U else none:=rfl
@[simp] theorem S_{lo hi:Option Int}:QN (.lst ps) lo hi=some (.ow (bx ps lo hi)):=rfl
@[simp] theorem S0{VO:M Fl}{as:List Slot}:Ţ n k VO as=if as.length=n then FR.of (VO (ì k as)) else .bad:=rfl
@[simp] theorem S1{r:RV}:FR.of (.ok (.rt r) U)=.ret r:=rfl
@[simp] theorem S2:FR.of (.ok .nx U)=.ret (.sh .non):=rfl
@[simp] theorem S3{x:PX}:FR.of (.exc x U)=.exc x:=rfl
@[simp] theorem S4:FR.of .bad=.bad:=rfl
@[simp] theorem Ot{as:List Slot}:ì k as=as++Ñ (k-as.length) .no:=rfl
@[simp] theorem S5:bg (.sh p)=some (.sh p):=rfl
@[simp] theorem S6:bg (.ow ps)=some (.bw ps):=rfl
@[simp] theorem S7{qs rows:List PV}:bg (.bn qs rows)=some (.sh (.lst (.lst qs::rows))):=rfl
@[simp] theorem S8:bg (.bw ps)=some (.bw ps):=rfl
@[simp] theorem S9:uP (.sh p)=.sh p:=rfl
@[simp] theorem Ta:uP (.ow ps)=.bw ps:=rfl
@[simp] theorem Tb:uP (.bw ps)=.bw ps:=rfl
@[simp] theorem Tc{js:List Nat}{nl:Nat}:jZ js nl U=js.map (λ(j:Nat)=>uP ((U[j]?).getD .no))++Ñ nl .no:=rfl
@[simp] theorem Ky:av i U=(match U[i]? with
  |some (.bw ps)=>.ok ps U
  |some (.sh (.lst ps))=>.ok ps U
  |some (.sh (.tup ps))=>.ok ps U
  |some (.sh (.str z))=>.ok (z.cps.toList.map λc=>.str ⟨#[c]⟩) U
  |some (.ow ps)=>.ok ps (U.set i (.sh (.lst ps)))
  |_=>.bad):=rfl
@[simp] theorem QP{x y:Int}:ø (.int x) (.int y)=some (.sh (.int (x+y))):=rfl
@[simp] theorem QQ{x y:Int}:pV (.int x) (.int y)=some (.int (x-y)):=rfl
@[simp] theorem QR{x y:Int}:m_ (.int x) (.int y)=if mZ x y=true then some (.int (x.fdiv y)) else none:=rfl
@[simp] theorem QS{x y:Int}:ae (.int x) (.int y)=if zg x y=true then some (.int (x.fmod y)) else none:=rfl
@[simp] theorem QT{x y:Int}:pW (.int x) (.int y)=if uR x y=true then some (.int (x ^ y.toNat)) else none:=rfl
@[simp] theorem QU{x:Int}:zh (.int x)=some (.int (-x)):=rfl
@[simp] theorem Td{x y:Int}:wL (.int x) (.int y)=some (.bl (decide (x<y))):=rfl
@[simp] theorem Te{x y:Int}:eQ (.int x) (.int y)=some (.bl (decide (x<=y))):=rfl
@[simp] theorem Tf{x y:Int}:EU (.int x) (.int y)=some (.bl (decide (y<x))):=rfl
@[simp] theorem Ti{x y:Int}:Kv (.int x) (.int y)=some (.bl (decide (y<=x))):=rfl
@[simp] theorem Tj{x y:Int}:Ŀ (.int x) (.int y)=some (.bl (decide (x=y))):=by
  have h:bH (.int x) (.int y)=decide (x=y):=by rw[bH.eq_def];rfl
  rw[<-h];rfl
@[simp] theorem Tk{x y:Int}:da (.int x) (.int y)=some (.bl (!decide (x=y))):=by
  have h:bH (.int x) (.int y)=decide (x=y):=by rw[bH.eq_def];rfl
  rw[<-h];rfl
@[simp] theorem Tl{x y:Bool}:Ŀ (.bl x) (.bl y)=some (.bl (x== y)):=rfl
@[simp] theorem Tn{x y:Bool}:da (.bl x) (.bl y)=some (.bl (!(x== y))):=rfl
@[simp] theorem To{p:PV}:Aq p .non=some (.bl (Kx p)):=rfl
@[simp] theorem Tp{x:Int}:Ķ (.lst ps) (.int x)=mF ps x:=rfl
@[simp] theorem Tq{x:Int}:Ķ (.tup ps) (.int x)=mF ps x:=rfl
@[simp] theorem QV:bY [.lst ps]=some (.int ps.length):=rfl
@[simp] theorem QW:bY [.tup ps]=some (.int ps.length):=rfl
@[simp] theorem Tr{x:Int}:BM [.int x]=some (.int (if x<0 then -x else x)):=rfl
@[simp] theorem Ou:fh [.lst ps]=some (.ow ps):=rfl
@[simp] theorem Ov:fh [.tup ps]=some (.ow ps):=rfl
@[simp] theorem QX:nh [.lst ps]=some (.tup ps):=rfl
@[simp] theorem QY:nh [.tup ps]=some (.tup ps):=rfl
@[simp] theorem QZ{x:Bool}:Ki (.bl x)=some x:=rfl
@[simp] theorem Q_{x:Int}:Ki (.int x)=some (x != 0):=rfl
@[simp] theorem Q0:Ki (.lst ps)=some (!ps.isEmpty):=rfl
@[simp] theorem BS(xs:List α)(n:Nat):mF xs (n:Int)=xs[n]?:= by
  unfold mF Ge;rw[if_pos (by lia)];by_cases h:n<xs.length
  ·rw[if_pos (by lia)];simp
  ·rw[if_neg (by lia)];simp;lia
@[simp] theorem Q1(xs:List α)(n:Nat):mF xs (no_index (ϭ n):Int)=xs[(no_index (ϭ n):Nat)]?:= BS xs n
@[simp] theorem No{x y:Int}:zg x y=decide (y≠0):=rfl
end
def Ow{x y:Int}(h1:y≠0)(h2:bits y<=8000):mZ x y=true:=by unfold mZ;simp[h1,h2]
section
variable{g:Tg}{mt:M Bool}{me:M PV}{U:û}
theorem Ű{α:Type}(c f:α->PV)(I:û->Prop):∀(xs:List α) (U:û) (ag:List PV),I U->ag.length+xs.length<=16777216->
 (∀x∈xs,∀U,I U->∃U1 U2 U3,g (c x) U=some U1/\mt U1=.ok true U2/\me U2=.ok (f x) U3/\I U3)->ϊ g mt me (xs.map c) U ag=some (ag++xs.map f)
 | [],U,ag,_,_,_=>by simp[ϊ]
 |x::xs,U,ag,h,hz,hs=>by obtain⟨U1,U2,U3,h1,h2,h3,h4⟩:=hs x ŧ U h;rw[á,ϊ,h1];dsimp only;rw[h2];dsimp only;rw[h3];dsimp only;rw[if_pos (by simp at hz;lia),Ű c f I xs U3 (ag ++ [f x]) h4 (by simp at hz ⊢;lia) λy hy=>hs y (ù _ hy)];simp
end
def bz(Q:String->Prop):List String->Prop
 | []=>True
 |c::cs=>Q c/\bz Q cs
theorem bz.get{Q:String->Prop}:∀{cs:List String} {C:String},bz Q cs->cs.contains C=true->Q C
 | [],_,_,h=>by simp at h
 |c::cs,C,⟨h1,h2⟩,h=>by
  by_cases e:C=c
  ·rw[e];exact h1
  ·refine h2.get ?_;rw[iG] at h;have:(C== c)=false:=by simpa using e
   rw[this,Bool.false_or] at h;exact h
section
variable{X:Cx}{cm:String->À}{K:KK}{E:ð->XK}{a b e o:Å}{pos fe:Pos}{m mb:M PV}{f:Str}
theorem nn{F:Hp}:∀{fs:List (Str×V)} {ps:List PV} {p:PV},Õ K F ps (fs.map (·.2))->((fs.map (·.1)).zip ps).lookup f=some p->∃v,fs.lookup f=some v/\ü K F p v
 | [],ps,p,_,h=>by simp at h
 |(g,v)::fs,ps,p,r,h=>by
  have r':=r.pr;rw[á] at r';cases r' with
  |cons r1 t=>
   rename_i q qs;rw[á,List.zip_cons_cons,İ] at h;rw[İ];cases hg:f== g with
   |true=>simp only[hg] at h;cases h;exact⟨v,rfl,r1⟩
   |false=>simp only[hg] at h;exact nn (Õ.of t) h
theorem rR.ins{c:Ctx}{F H:Hp}{Z:ð}{U:û}{C:String}{ns:List Str}{ps:List PV}{v:V}(s:Ò F H)(h:rR K c Z U F H (.ins C ns ps) v):∃a dx fs,v=.ref a/\H a=some (.ins (K.cm C) dx fs)/\fs.map (·.1)=ns/\Õ K F ps (fs.map (·.2)):=by
 rcases h with h|h
 ·unfold ü at h;obtain⟨a,dx,fs,h1,h2,h3,h4⟩:=h;exact⟨a,dx,fs,h1,s _ _ h2,h3,h4⟩
 ·exact h
noncomputable def ī(cs:List String)(f:Str):PV->Option PV
 | .ins C ns ps=>if cs.contains C=true then(ns.zip ps).lookup f else none
 |_=>none
def ϝ(cs:List String)(Qqq1:bz (λC=>jS X.K (cm C)/\ĉ X.K (cm C) f) cs)(he:PE X e (tR (kk X cm) E m))(hb:ϯ e f X.env (eval e X.env)=eval e X.env:=by rfl):PE X (.Attribute e f pos) (tV (kk X cm) E (kX (ī cs f) m)):=
 PE.wk (JS he hb) fun Z H Q ⟨c,F,U,rel,h⟩=>⟨c,F,U,rel,h.bind fun p U1 v F1 H1 Ð _ _ r1 h1=>by
   cases p with
   |ins C ns ps=>
    unfold ī at h1;dsimp only at h1;split at h1
    ·rename_i hc;obtain⟨a,dx,fs,rfl,q2,q3,q4⟩:=r1.ins Ð.sub;cases el:(ns.zip ps).lookup f with
     |none=>rw[el] at h1;exact h1.elim
     |some q=>rw[el] at h1;subst q3;obtain⟨v,e1,e2⟩:=nn q4 el;obtain⟨k1,k2⟩:=Qqq1.get hc;exact⟨a,_,dx,fs,v,rfl,q2,k1,k2,e1,h1 v F1 H1 Ð ċ ċ e2⟩
    ·exact h1.elim
   |_=>exact h1.elim⟩
def BU(X:Cx)(cm:String->À)(CX:dh)(k n:Nat)(m:Str)(C:String)(mf:MF):Prop:=jS X.K (cm C)/\∃f fd ps,ll X.K (cm C) m f/\Ď X.prog X.w X.K X.mg X.base CX k f fd ps (bX (kk X cm) n mf)/\Binds X.K fd ps []/\
 ∀{ps:List Slot},(∃r,mf ps=r/\∀z,r=z->z≠ .bad)->ps.length=n
def wM(Q:String->MF->Prop):List (String×MF)->Prop
 | []=>True
 |(c,mf)::cs=>Q c mf/\wM Q cs
theorem wM.get{Q:String->MF->Prop}:∀{cs:List (String×MF)} {C:String} {mf:MF},wM Q cs->cs.lookup C=some mf->Q C mf
 | [],_,_,_,h=>by simp at h
 |(c,g)::cs,C,mf,⟨h1,h2⟩,h=>by
  rw[İ] at h;cases hc:C== c with
  |true=>
   rw[hc] at h;cases h;have:C=c:=by simpa using hc
   rw[this];exact h1
  |false=>rw[hc] at h;exact h2.get h
@[simp] def uV(m:Str)(Ϗ:List (String×MF))(mo:M PV)(ms:M (List Slot))(U:û):Ġ RV:= (mo U).bind fun p U1=>match p with
  | .ins C ns ps=>match Ϗ.lookup C with
    |some mf=>if ns.contains m=true then .bad else(ms U1).bind λas U2=>match mf (.sh (.ins C ns ps)::as) with
     | .ret r=>.ok r U2
     | .exc x=>.exc x U2
     | .bad=>.bad
    |none=>.bad
  |_=>.bad
theorem gI{m:Str}:∀{fs:List (Str×V)},(fs.map (·.1)).contains m=false->fs.lookup m=none
 | [],_=>rfl
 |(g,v)::fs,h=>by rw[á,iG,Bool.or_eq_false_iff] at h;rw[İ,h.1];exact gI h.2
variable{CX:dh}{k n:Nat}{oU:Str}{Ϗ:List (String×MF)}{ms:M (List Slot)}
def BV{c:Ctx}{F H:Hp}{Z:ð}{U:û}{Q:VK}(rel:Ā (kk X cm) c F H Z U)(h:Ť (kk X cm) E (rO (kk X cm)) c F H Z Q (uV oU Ϗ m ms U))(wN:wM (λC mf=>BU X cm CX k n oU C mf) Ϗ) :
 Ť (kk X cm) E (rV (kk X cm)) c F H Z (λx H1=>∃a C dx fs g fd ps mf,x=.ref a/\H1 a=some (.ins C dx fs)/\jS X.K C/\ll X.K C oU g/\fs.lookup oU=none/\Ď X.prog X.w X.K X.mg X.base CX k g fd ps (bX (kk X cm) n mf)/\Binds X.K fd ps []/\
  tA (kk X cm) E ms Z H1 λvs H2=>bX (kk X cm) n mf (.ref a::vs) H2 Q (E Z)) (m U):=
 Ť.bind h λp U1 v F1 H1 Ð _ _ r1 h1=>by
  cases p with
  |ins C ns ps=>
   dsimp only at h1;cases el:Ϗ.lookup C with
   |none=>rw[el] at h1;exact h1.elim
   |some mf=>
    rw[el] at h1;dsimp only at h1;split at h1
    ·exact h1.elim
    ·rename_i hn;obtain⟨k1,f,fd,qs,k2,k3,k4,k5⟩:=wN.get el;have dM:ü (kk X cm) F1 (.ins C ns ps) v:=r1;have r2:=dM;unfold ü at r2;obtain⟨a,dx,fs,rfl,q2,q3,q4⟩:=r2;refine⟨a,_,dx,fs,f,fd,qs,mf,rfl,Ð.sub _ _ q2,k1,k2,gI (by rw[q3];simpa using hn),k3,k4,c,F1,U1,Ð,Ť.bind h1 λas U2 vs F2 H2 đ sF sH r3 h3=>?_⟩;exact mX (vs:=.ref a::vs) k5 đ (.cons (show au _ _ _ (.sh _) _ from ü.same sF _ _ dM) r3) h3
  |_=>exact h1.elim
def EW{pl:Sem Bool}(wN:wM (λC mf=>BU X cm CX k n oU C mf) Ϗ)(hr:Ń k X.A)(hx:Ľ CX X E)(he:PE X o (tV (kk X cm) E m))
 (ht:eval (.Call (.Attribute o oU fe) [] [] pos) X.env=(do
   let ov <-eval o X.env
   cD fe.atName
   let (f,first) <-holding [ov] (getMethod ov oU pl)
   iV pos f first (ñ pos (È [] X.env)) (ϱ pos (ϲ [] X.env))):=by rfl) :
 PE X (.Call (.Attribute o oU fe) [] [] pos) (tO (kk X cm) E (uV oU Ϗ m ý)):=by
 intro Ã s Z H Q I ⟨c,F,U,rel,h⟩;refine yF (pl:=pl) (ň (he Ã s Z H _ I ⟨c,F,U,rel,BV rel h wN⟩) λu s1 ⟨x,H1,I1,rx,a,C,dx,fs,g,fd,ps,mf,ex,ea,cl,k2,l,k3,k4,q⟩=>?_) ht;subst ex;obtain rfl:u=ć a:=rx;refine mD I1 ea cl k2 l ?_;obtain⟨c1,F1,U1,Ð,q⟩:=q;exact PySem.W.callWith_K0 (first:=[.ref a]) I1.fv k2.kp (lV (us:=[.ref a]) (vs:=[.ref a]) k3 hr k4 hx I1 (.cons rfl .nil) (q [] F1 H1 Ð ċ ċ .nil))
noncomputable def putN(f:Str):List Str->List Str
 | []=>[f]
 |g::r=>if g=f then g::r else g::putN f r
noncomputable def nq(f:Str)(p:PV):List Str->List PV->List PV
 | [],_=>[p]
 |g::r,q::qs=>if g=f then p::qs else q::nq f p r qs
 |_::_,[]=>[]
theorem sM{F:Hp}{p:PV}{y:V}(ry:ü K F p y):∀{fs:List (Str×V)} {ps:List PV},Õ K F ps (fs.map (·.2))->(ϣ f y fs).map (·.1)=putN f (fs.map (·.1))/\Õ K F (nq f p (fs.map (·.1)) ps) ((ϣ f y fs).map (·.2))
 | [],ps,r=>⟨rfl,Õ.cons ry Õ.nil⟩
 |(g,v)::fs,ps,r=>by
  have r':=r.pr;rw[á] at r';cases r' with
  |cons r1 t=>
   rename_i q qs;unfold ϣ;rw[á];unfold putN nq;by_cases hg:g=f
   ·rw[if_pos hg,if_pos hg,if_pos hg];exact⟨rfl,Õ.cons ry (Õ.of t)⟩
   ·rw[if_neg hg,if_neg hg,if_neg hg];obtain⟨h1,h2⟩:=sM ry (Õ.of t);exact⟨by rw[á,h1],Õ.cons r1 h2⟩
@[simp] def aD(i:Nat)(cs:List String)(f:Str)(mv:M PV)(U:û):Ġ Fl:= (mv U).bind fun p U1=>match U1[i]? with
  |some (.rc C ns ps)=>if cs.contains C=true/\ns.length<1000 then .ok .nx (U1.set i (.rc C (putN f ns) (nq f p ns ps))) else .bad
  |_=>.bad
def ό{i:Nat}{x:Str}{px aa:Pos}(cs:List String)(Qqq1:bz (λC=>jS X.K (cm C)/\ĉ X.K (cm C) f) cs)(ho:PE X (.Name x px) (bc i))(he:PE X e (tV (kk X cm) E m))(hs:Ĳ e (some (.Attribute (.Name x px) f aa)) pos.line X.env=pure false:=by rfl) :
 PS X (.Assign [.Attribute (.Name x px) f aa] e pos) (tS (kk X cm) E (aD i cs f m)):=PS.wk (JT ho he hs) λD Z H ⟨c,F,U,rel,h⟩=>⟨c,F,U,rel,Ņ.bind h λp U1 y F1 H1 Ð s1 ry h1=>by
 cases e1:U1[i]? with
 |none=>rw[e1] at h1;exact h1.elim
 |some sl=>
  rw[e1] at h1;cases sl with
  |rc C ns ps=>
   dsimp only at h1;split at h1
   ·rename_i hc;obtain⟨a,dx,fs,q1,q2,q3,q4,q5,q6,q7⟩:=Ð.slot i _ e1;subst q5;obtain⟨k1,k2⟩:=Qqq1.get hc.1;refine⟨.ref a,Į q1,a,_,dx,fs,rfl,q2,k1,k2,by simpa using hc.2,?_⟩;obtain⟨z1,z2⟩:=sM (f:=f) (p:=p) ry q6;exact h1 Z F1 _ (Ð.write ⟨_,_,e1,Į q1,rfl⟩ (Į q1) ⟨a,dx,_,rfl,Ü,q3,q4,z1,z2,q7⟩ λ_ z=>(V.ref.inj z).symm) ċ
   ·exact h1.elim
  |_=>exact h1.elim⟩
inductive IR where
 |ok (ns:List Str) (ps:List PV)|exc (x:PX)|bad
abbrev MI:=List Slot->IR
noncomputable def IR.of:Ġ Fl->IR
 | .ok .nx (.rc _ ns ps::_)=>.ok ns ps
 | .exc x _=>.exc x
 |_=>.bad
def bj(n k:Nat)(C:String)(mb:M Fl):MI:=λas=>if as.length+1=n then IR.of (mb (.rc C [] []::ì (k-1) as)) else .bad
structure Ox(a:À)(F H F' H':Hp):Prop where
 h:∀b u,b≠a->H b=some u->H' b=some u
 f:Ò F F'
 sub:Ò F' H'
 out:∀b,b≠a->H b≠none->F b=none->F' b=none
def Ts(K:KK)(E:XK)(F H:Hp)(Q:VK)(a dx:À)(C:String):IR->Prop
 | .ok ns ps=>∀F' H' fs,Ox a F H F' H'->H' a=some (.ins (K.cm C) dx fs)->F' a=none->fs.map (·.1)=ns->Õ K F' ps (fs.map (·.2))->Q .non H'
 | .exc x=>∀C' d F' H',Ox a F H F' H'->mO K F' x C' d->E C' d H'
 | .bad=>False
def wO(K:KK)(n:Nat)(C:String)(mi:MI):Sp:=λvs H Q E=>∃F a dx ac as,vs=.ref a::ac/\as.length+1=n/\H a=some (.ins (K.cm C) dx [])/\F a=none/\Ò F H/\Paired (au K F H) as ac/\Ts K E F H Q a dx C (mi as)
def EX(a dx:À)(C:String)(F H:Hp):Ctx:=⟨λb=>if b=a then none else H b,F,λb=>if b=a then none else(aC F H).L b,λa' Tt C'=>a'=a/\Tt=dx/\C'=C⟩
def Ā.VP{Z:ð}{U:û}{a dx:À}{C:String}{F H F' H':Hp}(r:Ā K (EX a dx C F H) F' H' Z U):Ox a F H F' H':=
 ⟨λb u hb e=>r.base b u (by show(if b=a then none else H b)=_;rw[if_neg hb];exact e),r.f0,r.sub,λb hb h1 h2=>r.ba b (by show(if b=a then none else H b)≠none;rw[if_neg hb];exact h1) h2⟩
def Ā.Kz{F H:Hp}{N:List Str}{as:List Slot}{vs:List V}{a dx:À}{C:String}(s:Ò F H)(ha:H a=some (.ins (K.cm C) dx []))(hF:F a=none)(h:Paired (au K F H) as vs) :
 Ā K (EX a dx C F H) F H (L2.start N (.ref a::vs)) (.rc C [] []::ì (N.length-1) as):=by
 have r0:=Ā.start (N:=N) (K:=K) s (as:=.sh (.int 0)::as) (vs:=.int 0::vs) (.cons (ü.int (K:=K) (F:=F) (i:=0)) h);have Qm:L2.start N (.ref a::vs)=some (.ref a)::(L2.start N (.int 0::vs)).tail:=by unfold L2.start;simp
 have Tu:(L2.start N (V.int 0::vs)).tail.length=(ì (N.length-1) as).length:=by unfold L2.start ì;simp[Paired.length h];lia
 have tl:∀i:Nat,(L2.start N (.int 0::vs)).tail[i]?=(L2.start N (.int 0::vs))[i+1]?:= λi=>by simp
 have sp:∀i:Nat,(ì (N.length-1) as)[i]?=(ì N.length (.sh (.int 0)::as))[i+1]?:= λi=>by unfold ì;simp only[cz,gj,Ĝ];rw[show N.length-1-as.length=N.length-(as.length+1) by lia]
 have nu:∀(i:Nat) (s':Slot),(ì (N.length-1) as)[i]?=some s'->s'.own=false:=λi s' e=>by
  unfold ì at e;by_cases hi:i<as.length
  ·rw[Ϫ hi] at e;obtain⟨v,_,h3⟩:=bu h e;exact(au.slot h3).2
  ·rw[dP (by lia),cw] at e;split at e
   ·cases e;rfl
   ·cases e
 rw[Qm];refine⟨s,λb u e=>?_,Ò.refl _,λ_ _ z=>z,λb u e=>?_,λb e=>?_,?_,λi s' e=>?_,λi j b h1 h2=>?_⟩
 ·have e':(if b=a then none else H b)=some u:=e;split at e'
  ·cases e'
  ·exact e'
 ·have e':(if b=a then none else(aC F H).L b)=some u:=e;split at e'
  ·cases e'
  ·exact ű e'
 ·show(if b=a then none else(aC F H).L b)=none;have e':(if b=a then none else H b)=none:=e;split
  ·rfl
  ·rename_i hb;rw[if_neg hb] at e';exact r0.lb b e'
 ·simp[Tu]
 ·cases i with
  |zero=>cases e;exact⟨a,dx,[],rfl,ha,hF,by show(if a=a then none else H a)=none;rw[if_pos rfl],rfl,Õ.nil,rfl,rfl,rfl⟩
  |succ i=>
   have e':(ì (N.length-1) as)[i]?=some s':=by simpa using e
   have q:=r0.slot (i+1) s' (by rw[<-sp];exact e');rw[<-tl] at q;show Ĵ K (EX a dx C F H) F H (((some (V.ref a)::(L2.start N (.int 0::vs)).tail)[i+1]?).getD none) s';rw[gj];cases s' with
   |no=>trivial
   |sh p=>exact q
   |bw ps=>obtain⟨b,ws,q1,q2,q3⟩:=q;refine⟨b,ws,q1,?_,q3⟩;show(if b=a then none else(aC F H).L b)=_;rw[if_neg (λz=>by have:=(ű q2).1;rw[z,ha] at this;cases this)];exact q2
   |ow ps=>have:=nu i _ e';cases this
   |rc C ns ps=>have:=nu i _ e';cases this
   |ot ps qs rs=>have:=nu i _ e';cases this
   |ol kW=>have:=nu i _ e';cases this
   |fr kW=>have:=nu i _ e';cases this
   |pw ps=>have:=nu i _ e';cases this
   |dw cO=>
    obtain⟨b,ts,q1,q2,q3⟩:=q;have lt:∀{x:À} {u:HO},(aC F H).L x=some u->(∀o,u=.ins (K.cm C) dx o->False)->(if x=a then none else(aC F H).L x)=some u:=fun{x u} e1 e2=>by rw[if_neg (λz=>by have:=(ű e1).1;rw[z,ha] at this;cases this;exact e2 _ rfl)];exact e1
    exact⟨b,ts,q1,lt q2 (λ_ z=>by cases z),cP q3 λt d _ ⟨xs,y,vs,k1,k2,k3,k4⟩=>⟨xs,y,vs,k1,k2,lt k3 (λ_ z=>by cases z),k4⟩⟩
   |bn qs rows=>
    obtain⟨v,q1,q2⟩:=q;refine⟨v,q1,q2.base λb u z=>?_⟩;have z':(if b=a then none else H b)=some u:=z;split at z'
    ·cases z'
    ·exact z'
 ·have Jr:∀{i},Ė F (some (.ref a)::(L2.start N (.int 0::vs)).tail) (Slot.rc C [] []::ì (N.length-1) as) i b→i=0:=fun{i} ⟨s',y,q1,_,q2⟩=>by
   have q2:=eN q2;cases i with
   |zero=>rfl
   |succ i=>have:=nu i s' (by simpa using q1);rw[this] at q2;cases q2
  rw[Jr h1,Jr h2]
end
section
variable{P:Ù}{w:Ô}{K:Æ}{cm:String->À}{mg:Str->Option Á}{base:Ë}{CX:dh}
def KA{x ç:Str}{st:Ï}{f:À}{fd:ú}{N ps:List Str}{k n j:Nat}{C:String}{mb:M Fl}{mi:MI}(F:yU K x ç st f fd)(S:Ý N ps (Î st))(hn:ps.length=n)(hj:N.length=j)(hf:mi=bj n j C mb)
 (ϧ:∀(ğ:Á) (A:Ú) (outer:List Env) (s:Â) (H:Hp) (E:XK),Ń k (A.deeper (ê ç (Î st) s.heap.objs.size f ğ))→
   Ϡ (Ň CX P w K mg base N ç (Î st) f ğ A outer s H E) (ń st) (tS ⟨K,cm⟩ (λ_=>E) mb)):Ď P w K mg base CX (k+1) f fd ps (wO ⟨K,cm⟩ n C mi):=by
 subst hn hj hf;obtain⟨oc,od,kV,iu,pm,an,ğ,ct,oJ,rfl,lk,cZ⟩:=F.ex;refine uD lk cZ S (λvs H Q E ⟨F,a,dx,ac,as,h1,h2,_,_,_,h3,_⟩=>by rw[h1,Ĝ,<-Paired.length h3];exact h2) λA outer s H vs Q E hr pq=>?_;obtain⟨F,a,dx,ac,as,rfl,h2,h3,h4,h5,h6,h7⟩:=pq;refine⟨_,ϧ ğ A outer s H E hr,EX a dx C F H,F,_,Ā.Kz h5 h3 h4 h6,?_⟩;unfold bj at h7;rw[if_pos h2] at h7;cases e:mb (.rc C [] []::ì (N.length-1) as) with
 |bad=>rw[e] at h7;exact h7
 |exc x U'=>rw[e] at h7;exact λZ' C' d F' H' rel s1 q=>h7 C' d F' H' rel.VP q
 |ok fl U'=>
  rw[e] at h7;cases fl with
  |nx=>
   cases U' with
   |nil=>exact h7.elim
   |cons sl U'=>
    cases sl with
    |rc C' ns qs=>intro Z' F' H' rel s1;obtain⟨b,dy,fs,q1,q2,q3,q4,q5,q6,rfl,rfl,rfl⟩:=rel.slot 0 _ rfl;exact h7 F' H' fs rel.VP q2 q3 q5 q6
    |_=>exact h7.elim
  |bk=>exact h7.elim
  |ct=>exact h7.elim
  |rt r=>exact h7.elim
end
@[simp] def bE(C:String)(mi:MI)(ms:M (List Slot))(U:û):Ġ PV:= (ms U).bind fun as U1=>match mi as with
  | .ok ns ps=>.ok (.ins C ns ps) U1
  | .exc x=>.exc x U1
  | .bad=>.bad
section
variable{X:Cx}{cm:String->À}{E:ð->XK}{e:Å}{es:List Å}{pos p:Pos}{CX:dh}{k n:Nat}{f:À}{fd:ú}{ps:List Str}{C:String}{mi:MI}{ms:M (List Slot)}{x:Str}
def BW{c:Ctx}{F1 H1:Hp}{Z:ð}{U1:û}{Q:VK}{as:List Slot}{vs:List V}(hlen:(∃r,mi as=r/\∀z,r=z->z≠ .bad)->as.length+1=n)(Ð:Ā (kk X cm) c F1 H1 Z U1)(r1:Paired (au (kk X cm) F1 H1) as vs)
 (h:Ť (kk X cm) E (rV (kk X cm)) c F1 H1 Z Q (match mi as with| .ok ns ps=>.ok (.ins C ns ps) U1| .exc x=>.exc x U1| .bad=>.bad)) :
 ∀x dx,H1 x=none->H1 dx=none->dx≠x->wO (kk X cm) n C mi (.ref x::vs) (upd (upd H1 dx (.own x)) x (.ins (cm C) dx [])) (λv H2=>v=.non/\Q (.ref x) H2) (E Z):=by
 intro x dx hx Qqq2 kv;have up:∀b u,H1 b=some u->upd (upd H1 dx (.own x)) x (.ins (cm C) dx []) b=some u:=λb u e=>by rw[Ö (æ e hx),Ö (æ e Qqq2)];exact e
 have wP:∀{F' H':Hp},Ox x F1 (upd (upd H1 dx (.own x)) x (.ins (cm C) dx [])) F' H'->Gr F1 H1 F' H':=fun{F' H'} g=>
  ⟨fun b u e=>g.h b u (æ e hx) (up b u e),g.f,g.sub,fun b hb hf=>by
    obtain⟨u,hu⟩:∃u,H1 b=some u:=by
     cases q:H1 b with
     |none=>exact absurd q hb
     |some u=>exact⟨u,rfl⟩
    exact g.out b (æ hu hx) (by rw[up b u hu];intro z;cases z) hf⟩
 refine⟨F1,x,dx,vs,as,rfl,?_,Ü,Ð.sub.free hx,λb u e=>up b u (Ð.sub b u e),?_,?_⟩
 ·refine hlen ⟨_,rfl,λz hz hb=>?_⟩;rw[hz,hb] at h;exact h
 ·refine Paired.mono (λs v hs=>?_) r1;cases s with
  |sh p=>exact hs
  |bw qs=>obtain⟨b,ws,q1,q2,q3,q4⟩:=hs;exact⟨b,ws,q1,up b _ q2,q3,q4⟩
  |dw cO=>obtain⟨b,ts,q1,q2,q3,q4⟩:=hs;exact⟨b,ts,q1,up b _ q2,q3,cP q4 λt d _ ⟨xs,y,ws,k1,k2,k3,k4⟩=>⟨xs,y,ws,k1,k2,⟨up y _ k3.1,k3.2⟩,k4⟩⟩
  |_=>exact hs.elim
 ·cases em:mi as with
  |bad=>rw[em] at h;exact h
  |exc y=>rw[em] at h;exact λC' d F' H' g rx=>h C' d F' H' (Ð.call (wP g)) g.f rx
  |ok ns qs=>rw[em] at h;intro F' H' fs g FV Qn hn hr;have r2:=Ð.call (wP g);have r3:=r2.freeze FV (Ð.base.free hx) Qn (Ð.eO (wP g).f (Ð.fresh hx));refine⟨rfl,h _ _ H' r3 (g.f.trans (Ò.upd Qn)) (wP g).h ?_⟩;show ü _ _ _ _;unfold ü;exact⟨x,dx,fs,rfl,Ü,hn,Õ.same (Ò.upd Qn) qs _ hr⟩
def pY{Ã:List (À×Obj)}{Z:ð}{H:Hp}{s:Â}{Q:VK}{us:List Á}{vs:List V}{sp:Sp}{C:À}(M:Mk X.K C f)(F:Ď X.prog X.w X.K X.mg X.base CX k f fd ps sp)(hr:Ń (k+1) X.A)(hb:Binds X.K fd ps [])
 (hx:Ľ CX X E)(I:Inv X Ã Z H s)(r:ġ vs us)
 (h:∀x dx,H x=none->H dx=none->dx≠x->sp (.ref x::vs) (upd (upd H dx (.own x)) x (.ins C dx [])) (λv H2=>v=.non/\Q (.ref x) H2) (E Z)) :
 Ç (É X.prog X.w) X.A (call (.ref C) us) (EP X Ã Z Q) X.xe s:=by
 have hq:=h (s.heap.objs.size+1) s.heap.objs.size (I.hok.fresh (iI _)) (I.hok.fresh (â _)) (Ĥ (qJ _));have I2:=Inv.made (C:=C) I;have r2:ġ (V.ref (s.heap.objs.size+1)::vs) (ć (s.heap.objs.size+1)::us):=.cons rfl r;have hl:(ć (s.heap.objs.size+1)::us ++ []).length=ps.length:=by have e:=r2.length;rw[F.len _ _ _ _ hq] at e;rw[ϩ];exact e.symm
 have zY:=hb {s with heap:=(s.heap.push aV).push (bS C s.heap.objs.size)} (ć (s.heap.objs.size+1)::us) I2.fv hl;rw[ϩ] at zY;refine dY (A9 (f:=f) I.fv M.makes M.init (beq_iff_eq.mp M.fn) (bN (F.run _ X.stack _ _ ⟨ć (s.heap.objs.size+1)::us,[]⟩ _ _ _ (E Z) (hr.make C us []) (I2.env0.make C us []) zY r2 hq) λr s' vX=>?_));cases r with
 |error e=>exact hx Ã Z _ _ e s' I2 vX
 |ok fl=>
  cases fl with
  |ret u=>obtain⟨v,H',I3,rv,ev,q3⟩:=I2.after vX;subst ev;exact⟨rv,⟨V.ref (s.heap.objs.size+1),H',I3,rfl,q3⟩⟩
  |next=>exact ě vX
  |brk=>exact ě vX
  |cont=>exact ě vX
def Ϛ{n k:Nat}{C:String}{mb:M Fl}{as:List Slot}(h:∃r,bj n k C mb as=r/\∀z,r=z->z≠ .bad):as.length+1=n:=by
 obtain⟨r,h1,h2⟩:=h;unfold bj at h1;by_cases hl:as.length+1=n
 ·exact hl
 ·rw[if_neg hl] at h1;exact absurd h1.symm (λz=>h2 .bad (by rw[<-h1]) rfl)
def fS(M:Mk X.K (cm C) f)(F:Ď X.prog X.w X.K X.mg X.base CX k f fd ps (wO (kk X cm) n C mi))(hlen:∀{as:List Slot},(∃r,mi as=r/\∀z,r=z->z≠ .bad)->as.length+1=n)(hr:Ń (k+1) X.A)(hg:Gl X x)(hm:X.mg x=some (.ref (cm C)))(hb:Binds X.K fd ps [])(hx:Ľ CX X E)
 (ha:PA X (e::es) (tA (kk X cm) E ms))(gc:(x== ("__debug__" :Str))=false:=by decide)(he:È (e::es) X.env=(false,eval e X.env)::È es X.env:=by exact į rfl)(hpl:(ñ pos (È es X.env)).any (·.1)=false:=by rfl) :
 PE X (.Call (.Name x p) (e::es) [] pos) (tV (kk X cm) E (bE C mi ms)):=by
 intro Ã s Z H Q I ⟨c,F',U,rel,h⟩;refine bM (aW I hg hm ?_ gc);refine cK (h₀:= X.base) I.ok.mod.AT M.kp (ň (ha pos Ã s Z H (λvs H1=>∀x dx,H1 x=none->H1 dx=none->dx≠x->wO (kk X cm) n C mi (.ref x::vs) (upd (upd H1 dx (.own x)) x (.ins (cm C) dx [])) (λv H2=>v=.non/\Q (.ref x) H2) (E Z)) I
  ⟨c,F',U,rel,Ť.bind h λas U1 vs F1 H1 Ð _ _ r1 h1=>BW hlen Ð r1 h1⟩) λus s1 ⟨vs,H1,I1,r,q⟩=>⟨I1.fv,?_⟩) he hpl
 exact pY M F hr hb hx I1 r q
end
def BX(B:Ë)(e:À)(C:Á)(d:Option À)(fl:Á)(h:Ë):Prop:=
 ∃oe vs T oT ts,h.get? e=some oe/\(oe.cls=C/\oe.dict=d)/\oe.data=.fields vs/\vs[1]?=some (.ref T)/\B.get? T=none/\T≠e/\h.get? T=some oT/\oT.data=.fields ts/\ts[3]?=some fl/\(d=none->vs[2]?=some .none)
structure Moved(h h':Ë):Prop where
 up:h.UpToSlots h'
 there:∀b o,h.get? b=some o->∃o',h'.get? b=some o'
theorem Moved.trans{h h1 h2:Ë}(a:Moved h h1)(b:Moved h1 h2):Moved h h2:=⟨a.up.trans b.up,λc o e=>let ⟨o1,e1⟩:=a.there c o e;b.there c o1 e1⟩
def Ar(o:Obj)(f:Array Á->Array Á):(o.mapFields f).dict=o.dict:=by obtain⟨c,d,dt,sl⟩:=o;cases dt<;>rfl
section
variable{M:ϔ}{A:Ú}{E:Á->Â->Prop}{s:Â}{B:Ë}{env:Env}{outer:List Env}{L e:À}{Q:Unit->Â->Prop}
def Oy{oe:Obj}{vs:Array Á}{Qo:Á}{RS:Bool}(xR:A.frames=some (env::outer))(hl:s.heap.FunFrames B (env::outer))(hf:env.frame=some L)
 (he:s.heap.get? e=some oe)(FX:B.StaysIn s.heap)(Qp:B.get? e=none)(hd:oe.data=.fields vs)(xO:1<vs.size)(h2:oe.dict=none->vs[2]?=some .none)
 (k:∀h',B.StaysIn h'->h'.FunFrames B (env::outer)->BX B e oe.cls oe.dict (Ĺ L) h'->Moved s.heap h'->Q () {s with heap:=h'}) :
 Ç M A (do
  let a <-frameOf env
  let pl <-entryPlaceOf L RS
  let b <-yr Qo a .none (Ĺ L) .none pl
  setField (.ref e) 1 b) Q E s:=by
 have out:e∉(env::outer).filterMap (·.frame):=λz=>by obtain⟨_,o,ho,hn⟩:=hl.mem z;rw[he] at ho;cases ho;exact hn vs hd
 refine Ê (wpAny_frameOf_fun xR hl hf λg1 so=>?_);refine Ê (wpAny_entryPlaceOf λpl hpl=>?_);unfold yr newFields;refine Ê (qS ?_ (hpl.sizeOk5 _ _ _ _ _));have e1:g1.get? e=some oe:=(so.2.1 e out).trans he;have b1:B.StaysIn g1:=λb o q=>(so.2.1 b λz=>by rw[(hl.mem z).1] at q;cases q).trans (FX b o q);generalize hnw:([Qo,ć L,.none,Ĺ L,.none]++(if pl.isEmpty then Ñ 6 Value.none else pl))=nw;have n3:nw.toArray[3]?=some (Ĺ L):=by rw[<-hnw];simp
 dsimp only;have e2:=ô (h:=g1) {cls:=.type "traceback",dict:=none,data:=.fields nw.toArray} e1;refine gp e2 hd xO ?_;have ne:g1.objs.size≠e:=ai (í e1);have d3:=ϗ hd (·.setIfInBounds 1 (ć g1.objs.size));have e3:=aU (Ž (·.setIfInBounds 1 (ć g1.objs.size))) e2 (bQ d3);have kp:∀b o,b≠e->g1.get? b=some o->((g1.push {cls:=.type "traceback",dict:=none,data:=.fields nw.toArray}).update e (Ž (·.setIfInBounds 1 (ć g1.objs.size)))).get? b=some o:=λb o hb q=>by rw[bP _ _ (Ć hb)];exact ô _ q
 have t3:((g1.push {cls:=.type "traceback",dict:=none,data:=.fields nw.toArray}).update e (Ž (·.setIfInBounds 1 (ć g1.objs.size)))).get? g1.objs.size=some {cls:=.type "traceback",dict:=none,data:=.fields nw.toArray}:=by rw[bP _ _ (Ć ne)];exact ļ g1 rfl
 have nr:∀b o,s.heap.get? b=some o->(∀ws,o.data≠ .fields ws)->b≠e:=λb o q hn z=>by rw[z,he] at q;cases q;exact hn vs hd
 refine k _ (λb o q=>kp b o (λz=>by rw[z,Qp] at q;cases q) (b1 b o q)) (hl.of_keeps λb o q hn=>?_) ?_ ⟨λb o q hn=>?_,λb o q=>?_⟩
 ·obtain⟨sl,z⟩:=so.2.2 b o q;exact⟨_,kp b _ (nr b o q hn) z,rfl⟩
 ·exact⟨_,_,g1.objs.size,_,_,e3,⟨Obj.cls_mapFields _ _,Ar _ _⟩,d3,by simp[xO],b1.fresh,ne,t3,rfl,n3,λz=>by rw[lm (by decide)];exact h2 z⟩
 ·obtain⟨sl,z⟩:=so.2.2 b o q;exact⟨sl,kp b _ (nr b o q hn) z⟩
 ·obtain⟨sl,z⟩:=so.2.2 b o q;by_cases hb:b=e
  ·rw[hb];exact⟨_,e3⟩
  ·exact⟨_,kp b _ hb z⟩
def zk{oe:Obj}{vs:Array Á}(xR:A.frames=some (env::outer))(hl:s.heap.FunFrames B (env::outer))(hf:env.frame=some L)(he:s.heap.get? e=some oe)(FX:B.StaysIn s.heap)(Qp:B.get? e=none)
 (hd:oe.data=.fields vs)(h1:vs[1]?=some .none)(h2:oe.dict=none->vs[2]?=some .none)(k:∀h',B.StaysIn h'->h'.FunFrames B (env::outer)->BX B e oe.cls oe.dict (Ĺ L) h'->Moved s.heap h'->Q () {s with heap:=h'}) :
 Ç M A (ak (.ref e) env) Q E s:=by
 unfold ak;simp only[hf];refine Ê (ŋ he hd h1 ?_);rw[if_neg (by decide)];exact Oy xR hl hf he FX Qp hd (iz.mp h1).1 h2 k
def BY{C:Á}{d:Option À}(xR:A.frames=some (env::outer))(hl:s.heap.FunFrames B (env::outer))(hf:env.frame=some L)(ht:BX B e C d .none s.heap)(FX:B.StaysIn s.heap)(Qp:B.get? e=none)
 (k:∀h',B.StaysIn h'->h'.FunFrames B (env::outer)->BX B e C d (Ĺ L) h'->Moved s.heap h'->Q () {s with heap:=h'}):Ç M A (ak (.ref e) env) Q E s:=by
 obtain⟨oe,vs,T,oT,ts,he,⟨rfl,rfl⟩,hd,h1,hT,Js,wg,ux,h3,h4⟩:=ht;unfold ak;simp only[hf];refine Ê (ŋ he hd h1 ?_);rw[if_pos (show(ć T != Value.none)=true by simp)];refine Ê (ŋ wg ux h3 ?_);rw[if_neg (show ¬((Value.none== Ĺ L)=true) by simp[Ĺ])];refine Ê (gp wg ux (iz.mp h3).1 ?_);have vY:∀b,b≠T->(s.heap.update T (Ž (·.setIfInBounds 3 Value.none))).get? b=s.heap.get? b:=λb hb=>bP _ _ (Ć hb);have nr:∀b o,s.heap.get? b=some o->(∀ws,o.data≠ .fields ws)->b≠T:=λb o q hn z=>by rw[z,wg] at q;cases q;exact hn ts ux
 refine Oy xR (hl.of_keeps λb o q hn=>⟨o,(vY b (nr b o q hn)).trans q,rfl⟩) hf ((vY e (Ć Js)).trans he) (λb o q=>(vY b λz=>by rw[z,hT] at q;cases q).trans (FX b o q)) Qp hd (iz.mp h1).1 h4
  λh' x1 x2 x3 x4=>k h' x1 x2 x3 (Moved.trans ⟨λb o q hn=>⟨o.slots,(vY b (nr b o q hn)).trans q⟩,λb o q=>?_⟩ x4)
 by_cases hb:b=T
 ·rw[hb];exact⟨_,aU _ wg (bQ (ϗ ux _))⟩
 ·exact⟨o,(vY b hb).trans q⟩
def gJ{C fl:Á}{d:Option À}{l:List Env}(FX:B.StaysIn s.heap)(hl:s.heap.FunFrames B l)(ht:BX B e C d fl s.heap)
 (k:∀h',B.StaysIn h'->h'.FunFrames B l->BX B e C d .none h'->Moved s.heap h'->Q () {s with heap:=h'}):Ç M A (iW (.ref e) none) Q E s:=by
 obtain⟨oe,vs,T,oT,ts,he,hc,hd,h1,hT,Js,wg,ux,h3,h4⟩:=ht;have z3:3<ts.size:=(iz.mp h3).1;have vY:∀b,b≠T->(s.heap.update T (Ž (·.setIfInBounds 3 ((none:Option À).elim Value.none λf=>Ĺ f)))).get? b=s.heap.get? b:=λb hb=>bP _ _ (Ć hb);have nr:∀b o,s.heap.get? b=some o->(∀ws,o.data≠ .fields ws)->b≠T:=λb o q hn z=>by rw[z,wg] at q;cases q;exact hn ts ux
 unfold iW;refine Ê (ŋ he hd h1 ?_);rw[if_pos (show(ć T != Value.none)=true by simp)];refine gp wg ux z3 (k _ (λb o q=>(vY b λz=>by rw[z,hT] at q;cases q).trans (FX b o q)) (hl.of_keeps λb o q hn=>⟨o,(vY b (nr b o q hn)).trans q,rfl⟩) ?_ ⟨λb o q hn=>⟨o.slots,(vY b (nr b o q hn)).trans q⟩,λb o q=>?_⟩)
 rotate_left
 ·by_cases hb:b=T
  ·rw[hb];exact⟨_,aU _ wg (bQ (ϗ ux _))⟩
  ·exact⟨o,(vY b hb).trans q⟩
 exact⟨oe,vs,T,_,_,(vY e (Ć Js)).trans he,hc,hd,h1,hT,Js,aU _ wg (bQ (ϗ ux _)),ϗ ux _,by simp[z3],h4⟩
def EY{C fl:Á}{d:Option À}{l:List Env}(FX:B.StaysIn s.heap)(hl:s.heap.FunFrames B l)(ht:BX B e C d fl s.heap)
 (k:∀h',B.StaysIn h'->h'.FunFrames B l->BX B e C d (Ĺ L) h'->Moved s.heap h'->Q () {s with heap:=h'}):Ç M A (iW (.ref e) (some L)) Q E s:=by
 obtain⟨oe,vs,T,oT,ts,he,hc,hd,h1,hT,Js,wg,ux,h3,h4⟩:=ht;have z3:3<ts.size:=(iz.mp h3).1;have vY:∀b,b≠T->(s.heap.update T (Ž (·.setIfInBounds 3 ((some L:Option À).elim Value.none λf=>Ĺ f)))).get? b=s.heap.get? b:=λb hb=>bP _ _ (Ć hb);have nr:∀b o,s.heap.get? b=some o->(∀ws,o.data≠ .fields ws)->b≠T:=λb o q hn z=>by rw[z,wg] at q;cases q;exact hn ts ux
 unfold iW;refine Ê (ŋ he hd h1 ?_);rw[if_pos (show(ć T != Value.none)=true by simp)];refine gp wg ux z3 (k _ (λb o q=>(vY b λz=>by rw[z,hT] at q;cases q).trans (FX b o q)) (hl.of_keeps λb o q hn=>⟨o,(vY b (nr b o q hn)).trans q,rfl⟩) ?_ ⟨λb o q hn=>⟨o.slots,(vY b (nr b o q hn)).trans q⟩,λb o q=>?_⟩)
 rotate_left
 ·by_cases hb:b=T
  ·rw[hb];exact⟨_,aU _ wg (bQ (ϗ ux _))⟩
  ·exact⟨o,(vY b hb).trans q⟩
 exact⟨oe,vs,T,_,_,(vY e (Ć Js)).trans he,hc,hd,h1,hT,Js,aU _ wg (bQ (ϗ ux _)),ϗ ux _,by simp[z3],h4⟩
def BZ{C:Á}{d:Option À}(hf:env.frame=some L)(ht:BX B e C d (Ĺ L) s.heap)(h:Q () s):Ç M A (ak (.ref e) env) Q E s:=by obtain⟨oe,vs,T,oT,ts,he,hc,hd,h1,hT,Js,wg,ux,h3,h4⟩:=ht;unfold ak;simp only[hf];refine Ê (ŋ he hd h1 ?_);rw[if_pos (show(ć T != Value.none)=true by simp)];refine Ê (ŋ wg ux h3 ?_);rw[if_pos (show(Ĺ L== Ĺ L)=true by simp)];exact è h
end
def B_{P:Ù}{w:Ô}{H:Hp}{h:Ë}{a:À}{o:HO}(x:Ϣ P w H h a o):∃ob,h.get? a=some ob:=by
 cases o with
 |lst xs=>obtain⟨_,_,_,_,e⟩:=x;exact⟨_,e⟩
 |tup xs=>obtain⟨_,_,_,ob,e,_⟩:=x;exact⟨_,e⟩
 |dK ia=>obtain⟨_,_,_,_,ob,_,_,e,_⟩:=x;exact⟨_,e⟩
 |dT ia=>obtain⟨_,_,_,_,ob,_,_,e,_⟩:=x;exact⟨_,e⟩
 |set S n=>obtain⟨ob,_,_,_,e,_⟩:=x;exact⟨_,e⟩
 |ins C dx fs=>obtain⟨_,_,_,e,_⟩:=x;exact⟨_,e⟩
 |own y=>exact x
 |xd fs=>obtain⟨_,⟨ob,_,_,e,_⟩,_⟩:=x;exact⟨_,e⟩
 |rng lo hi=>obtain⟨_,_,_,e⟩:=x;exact⟨_,e⟩
 |ba ob u=>obtain⟨e,_⟩:=x;exact⟨_,e⟩
 |Ϗ q=>obtain⟨_,e,_⟩:=x;exact⟨_,e⟩
 |F9 q=>obtain⟨c,o,_,_,z,e,_⟩:=x;cases z;exact⟨_,e⟩
 |met f y=>exact⟨_,(show h.get? a=some _ from x)⟩
 |ext φ=>obtain⟨_,e,_⟩:=x;exact e
def dg.sub{P:Ù}{w:Ô}{H:Hp}{h B:Ë}(x:dg P w H h)(k:∀b o u,H b=some u->h.get? b=some o->B.get? b=some o):dg P w H B:=λa o e=>
 (x a o e).stay (fun b u hb q=>by
   rcases hb with rfl|hb
   ·exact k _ _ _ e q
   ·exact k _ _ _ hb q) (λ_ q=>q) λ_ _ q=>q
structure Tv(fs:List À)(H H':Hp)(h B h':Ë):Prop where
 keep:∀b o,h.get? b=some o->H b=none->b∉fs->B.get? b=some o
 slot:∀b o,h.get? b=some o->H b=none->b∈fs->∃sl,h'.get? b=some {o with slots:=sl}
 free:∀b o,h.get? b=some o->H b=none->H' b=none
 there:∀b o,h.get? b=some o->∃o',h'.get? b=some o'
 tups:∀b xs,H b=some (.tup xs)->H' b=some (.tup xs)
 eI:∀b o u,H b=some (.ba o u)->H' b=some (.ba o u)
 c_:∀b q,H b=some (.Ϗ q)->H' b=some (.Ϗ q)
def Tv.un{fs:List À}{H H':Hp}{h B h':Ë}(u:Tv fs H H' h B h')(k:B.StaysIn h'):Un fs [] H H' h h':=
 ⟨λb o e n hb _=>k b o (u.keep b o e n hb),λb o e n hb _=>u.slot b o e n hb,λb o e n _=>u.free b o e n,λb o e _=>u.there b o e,u.tups,u.eI,u.c_⟩
structure vZ(P:Ù)(w:Ô)(outer:List Env)(H:Hp)(s:Â)(ea:À)(C:Á)(d:Option À)(fl:Á)(H':Hp)(B:Ë)(s':Â):Prop where
 os:s'.os=s.os
 bare:aO s'.gens
 st:B.StaysIn s'.heap
 en:B.get? ea=none
 fr:s'.heap.FunFrames B outer
 tr:BX B ea C d fl s'.heap
 hok:dg P w H' B
 un:Tv (fA outer) H H' s.heap B s'.heap
 no:H' ea=none
 new:s.heap.get? ea=none
def vZ.move{P:Ù}{w:Ô}{outer:List Env}{H:Hp}{s s':Â}{ea:À}{C fl VQ:Á}{d:Option À}{H':Hp}{B h':Ë}(l:vZ P w outer H s ea C d fl H' B s')(st:B.StaysIn h')(fr:h'.FunFrames B outer)(tr:BX B ea C d VQ h')(mv:Moved s'.heap h') :
 vZ P w outer H s ea C d VQ H' B {s' with heap:=h'}:=
 ⟨l.os,l.bare,st,l.en,fr,tr,l.hok,⟨l.un.keep,fun b o q n hb=>by
   obtain⟨sl,q2⟩:=l.un.slot b o q n hb;obtain⟨_,o',q3,hn⟩:=l.fr.mem hb;rw[q2] at q3;cases q3;obtain⟨KC,q3⟩:=mv.up b _ q2 hn;exact⟨KC,q3⟩,l.un.free,λb o q=>by
   obtain⟨o2,q2⟩:=l.un.there b o q;exact mv.there b o2 q2,l.un.tups,l.un.eI,l.un.c_⟩,l.no,l.new⟩
def Ϟ(P:Ù)(w:Ô):dh:=λouter H s E e s'=>∃ea C d H' B,e=.ref ea/\vZ P w outer H s ea C d .none H' B s'/\E C d H'
def pZ{P:Ù}{w:Ô}{outer:List Env}{H:Hp}{s s':Â}{e:Á}(h:Ϟ P w outer H s (λ_ _ _=>False) e s'):False:=by obtain⟨_,_,_,_,_,_,_,h⟩:=h;exact h
def ka{P:Ù}{w:Ô}{X:Cx}:Ľ (Ϟ P w) X EF:=λ_ _ _ _ _ _ _ h=>(pZ h).elim
section
variable{P:Ù}{w:Ô}{K:Æ}{mg:Str->Option Á}{base:Ë}{N:List Str}{ç:Str}{scope:ë}{f:À}{ğ:Á}{A:Ú}{outer:List Env}{s₀:Â}{H₀:Hp}{E:XK}
def õ:Ľ (Ϟ P w) (Ň (Ϟ P w) P w K mg base N ç scope f ğ A outer s₀ H₀ E) (λ_=>E):=by
 intro Ã Z H s e s' I h;obtain⟨ea,C,d,H',B,rfl,l,hE⟩:=h;have xR:(A.deeper (ê ç scope s₀.heap.objs.size f ğ)).frames=some (ê ç scope s₀.heap.objs.size f ğ::outer):=I.ok.frames;show Ç _ _ (dU _ _) _ _ s';unfold dU;refine Ê (BY xR l.fr rfl l.tr l.st l.en λh1 x1 x2 x3 x4=>?_);refine gJ (s:={s' with heap:=h1}) x1 x2 x3 λh2 y1 y2 y3 y4=>?_;obtain⟨_,_,Oz⟩:=y2;have mv:=x4.trans y4;have Ga:∀b o,s₀.heap.get? b=some o->b∉fA outer->b∉fA (ê ç scope s₀.heap.objs.size f ğ::outer):=λb o q hb z=>by
  rcases ė.mp (show b∈s₀.heap.objs.size::fA outer from z) with z|z
  ·exact absurd (í q) (by rw[z];exact ϓ _)
  ·exact hb z
 have VR:∀b,b∈fA outer->b∈fA (ê ç scope s₀.heap.objs.size f ğ::outer):=λb z=>ù _ z;refine⟨ea,C,d,H',B,rfl,⟨l.os.trans I.os,l.bare,y1,l.en,Oz,y3,l.hok,⟨λb o q n hb=>?_,λb o q n hb=>?_,λb o q n=>?_,λb o q=>?_,λb xs q=>l.un.tups b xs (I.base.tups b xs q),λb o u q=>l.un.eI b o u (I.base.eI b o u q),λb ps q=>?_⟩,l.no,?_⟩,hE⟩
 ·exact l.un.keep b o (I.base.keep b o q n hb (by simp[Ň])) (I.base.free b o q n (by simp[Ň])) (Ga b o q hb)
 ·obtain⟨sl,q1⟩:=I.base.slot b o q n hb (by simp[Ň]);obtain⟨D9,q2⟩:=l.un.slot b _ q1 (I.base.free b o q n (by simp[Ň])) (VR b hb);have nf:∀vs,o.data≠ .fields vs:=by
   obtain⟨_,o',q3,hn⟩:=l.fr.mem (VR b hb);rw[q2] at q3;cases q3;exact hn
  obtain⟨KC,q3⟩:=mv.up b _ q2 nf;exact⟨KC,q3⟩
 ·obtain⟨o1,q1⟩:=I.base.there b o q (by simp[Ň]);exact l.un.free b o1 q1 (I.base.free b o q n (by simp[Ň]))
 ·obtain⟨o1,q1⟩:=I.base.there b o q (by simp[Ň]);obtain⟨o2,q2⟩:=l.un.there b o1 q1;exact mv.there b o2 q2
 ·exact l.un.c_ b ps (I.base.c_ b ps q)
 ·cases q:s₀.heap.get? ea with
  |none=>rfl
  |some o=>obtain⟨o1,q1⟩:=I.base.there ea o q (by simp[Ň]);rw[l.new] at q1;cases q1
def KD{Ã:List (À×Obj)}{Z:ð}{H:Hp}{s:Â}{e:À}{oe:Obj}{vs:Array Á}(I:Inv (Ň (Ϟ P w) P w K mg base N ç scope f ğ A outer s₀ H₀ E) Ã Z H s)
 (he:s.heap.get? e=some oe)(hd:oe.data=.fields vs)(h1:vs[1]?=some .none)(h2:oe.dict=none->vs[2]?=some .none)(hn:H e=none)(kx:s₀.heap.get? e=none)(hE:E oe.cls oe.dict H) :
 (Ň (Ϟ P w) P w K mg base N ç scope f ğ A outer s₀ H₀ E).xe (.ref e) s:=by
 have xR:(A.deeper (ê ç scope s₀.heap.objs.size f ğ)).frames=some (ê ç scope s₀.heap.objs.size f ğ::outer):=I.ok.frames;have st:s.heap.FunFrames base (ê ç scope s₀.heap.objs.size f ğ::outer):=I.stack;have nof:e∉fA (ê ç scope s₀.heap.objs.size f ğ::outer):=λz=>by obtain⟨_,o,q,hn⟩:=st.mem z;rw[he] at q;cases q;exact hn vs hd
 have Qqq3:∀env∈(ê ç scope s₀.heap.objs.size f ğ::outer),∀a,env.frame=some a->a∈e::fA (ê ç scope s₀.heap.objs.size f ğ::outer):=λenv h1 a h2=>ù _ (lv.mpr ⟨env,h1,h2⟩);have hl:s.heap.FunFrames (bT s.heap (e::fA (ê ç scope s₀.heap.objs.size f ğ::outer))) (ê ç scope s₀.heap.objs.size f ğ::outer):=yG st Qqq3;have hB:∀b o,s.heap.get? b=some o->b≠e->b∉fA (ê ç scope s₀.heap.objs.size f ğ::outer)->(bT s.heap (e::fA (ê ç scope s₀.heap.objs.size f ğ::outer))).get? b=some o:=λb o q h1 h2=>
  rD _ q λz=>(ė.mp z).elim h1 h2
 have Ga:∀b o,s₀.heap.get? b=some o->b∉fA outer->b∉fA (ê ç scope s₀.heap.objs.size f ğ::outer):=λb o q hb z=>by
  rcases ė.mp (show b∈s₀.heap.objs.size::fA outer from z) with z|z
  ·exact absurd (í q) (by rw[z];exact ϓ _)
  ·exact hb z
 have Qqq4:∀b o,s₀.heap.get? b=some o->b≠e:=λb o q z=>by rw[z,kx] at q;cases q
 have kb:(bT s.heap (e::fA (ê ç scope s₀.heap.objs.size f ğ::outer))).StaysIn s.heap:=λb o q=>rE _ q;have en:(bT s.heap (e::fA (ê ç scope s₀.heap.objs.size f ğ::outer))).get? e=none:=rG _ ŧ;show Ç _ _ (dU _ _) _ _ s;unfold dU;refine Ê (zk xR hl rfl he kb en hd h1 h2 λg1 x1 x2 x3 x4=>?_);refine gJ (s:={s with heap:=g1}) x1 x2 x3 λg2 y1 y2 y3 y4=>?_;obtain⟨_,_,Oz⟩:=y2;have mv:=x4.trans y4;refine⟨e,oe.cls,oe.dict,H,_,rfl,⟨I.os,I.bare,y1,en,Oz,y3,?_,⟨λb o q n hb=>?_,λb o q n hb=>?_,λb o q n=>?_,λb o q=>?_,I.base.tups,I.base.eI,I.base.c_⟩,hn,kx⟩,hE⟩
 ·refine dg.sub I.hok λb o u hu q=>hB b o q (λz=>by rw[z,hn] at hu;cases hu) λz=>?_;have:=I.lQ b z;rw[hu] at this;cases this
 ·exact hB b o (I.base.keep b o q n hb (by simp[Ň])) (Qqq4 b o q) (Ga b o q hb)
 ·obtain⟨sl,q1⟩:=I.base.slot b o q n hb (by simp[Ň]);have nf:∀vs,o.data≠ .fields vs:=by
   obtain⟨_,o',q3,hn⟩:=st.mem (ù _ hb);rw[q1] at q3;cases q3;exact hn
  obtain⟨KC,q3⟩:=mv.up b _ q1 nf;exact⟨KC,q3⟩
 ·exact I.base.free b o q n (by simp[Ň])
 ·obtain⟨o1,q1⟩:=I.base.there b o q (by simp[Ň]);exact mv.there b o1 q1
end
noncomputable abbrev zl:List Á:=[.type "ValueError",.type "Exception",.type "BaseException",.type "object"]
abbrev KE:String:= "ValueError.__new__"
section
variable{K:Æ}{h:Ë}{C:À}{Na:List Á}{oH:String}
def KG(X:K.In h)(q:eD K C Na oH=true) :
 ∃bm N nm qn bs hd sn sub ab col dd k0 k1 k2 k3 k5 mN,h.get? C=some (excClassObj nm qn C N bs bm hd sn sub ab col dd k0 k1 k2 k3 k5 oH)/\h.Ns N mN/\mN "__init__" =none/\OwnTail h Na bm:=by
 unfold eD at q;split at q
 case h_2=>cases q
 rename_i dd cd sl ho;split at q
 case h_2=>cases q
 rename_i C1 bm k0 k1 k2 k3 n1 k5 e1 e2;simp only[Ą,beq_iff_eq,Bool.not_eq_true'] at q;obtain⟨⟨⟨⟨⟨z1,z2⟩,z3⟩,z4⟩,z5⟩,z6⟩:=q;subst z1 z2;obtain⟨nm,bs,mro,ns,qn,hd,sn,sub,ab,col,del⟩:=cd;dsimp only at e1 z3 z5 z6;subst e1 z3;obtain⟨XJ⟩:=sl;dsimp only at e2;subst e2;exact⟨bm,ns,nm,qn,bs,hd,sn,sub,ab,col,dd,k0,k1,k2,k3,k5,_,X _ _ ho,.of_isNs (PySem.W.isNs_of_in X z5),PySem.W.nsMap_none_of_in X z5 z6,yH X z4⟩
end
def sN(X:Cx)(E:ð->XK):Prop:=∀(Ã:List (À×Obj)) (Z:ð) (H:Hp) (s:Â) (e:À) (oe:Obj) (vs:Array Á),Inv X Ã Z H s->s.heap.get? e=some oe->oe.data=.fields vs->vs[1]?=some .none->(oe.dict=none->vs[2]?=some .none)->H e=none->
 X.s₀.heap.get? e=none->E Z oe.cls oe.dict H->X.xe (.ref e) s
def ĳ{P:Ù}{w:Ô}{K:Æ}{mg:Str->Option Á}{base:Ë}{N:List Str}{ç:Str}{scope:ë}{f:À}{ğ:Á}{A:Ú}{outer:List Env}{s₀:Â}{H₀:Hp}{E:XK} :
 sN (Ň (Ϟ P w) P w K mg base N ç scope f ğ A outer s₀ H₀ E) (λ_=>E):=λ_ _ _ _ _ _ _ I he hd h1 h2 hn kx hE=>KD I he hd h1 h2 hn kx hE
@[simp] def Ϲ(C:String)(U:û):Ġ Fl:= .exc ⟨C,[],[]⟩ U
section
variable{X:Cx}{cm:String->À}{E:ð->XK}{x:Str}{C:String}{np Ϩ pos:Pos}
def lW{P:Ù}{w:Ô}{H:Hp}{h:Ë}{e:À}(k:dg P w H h)(q:h.get? e=none):H e=none:=by
 cases z:H e with
 |none=>rfl
 |some u=>obtain⟨o,ho⟩:=B_ (k e u z);rw[q] at ho;cases ho
def Inv.KH{Ã:List (À×Obj)}{Z:ð}{H:Hp}{s:Â}{e:À}(I:Inv X Ã Z H s)(hex:X.ex=[])(q:s.heap.get? e=none):X.s₀.heap.get? e=none:=by
 cases z:X.s₀.heap.get? e with
 |none=>rfl
 |some o=>obtain⟨o1,q1⟩:=I.base.there e o z (by rw[hex];simp);rw[q] at q1;cases q1
def bo(hc:X.calm=true)(hex:X.ex=[])(hr:sN X E)(hg:Gl X x)(hm:X.mg x=some (.ref (cm C)))(q:eD X.K (cm C) zl KE=true)(gc:(x== ("__debug__" :Str))=false:=by decide) :
 PS X (.Raise (some (.Call (.Name x np) [] [] Ϩ)) none pos) (tS (kk X cm) E (Ϲ C)):=by
 intro Ã s Z H D I ⟨c,F,U,rel,h⟩;obtain⟨bm,N,nm,qn,bs,hd,sn,sub,ab,col,dd,k0,k1,k2,k3,k5,mN,hC,hN,hni,T⟩:=KG I.fv q;refine wpAny_Raise_call_subT (C:=cm C) (nm:=nm) (q:=qn) (N:=N) (bs:=bs) (bm:=bm) (hdct:=hd) (sn:=sn) (sub:=sub) (ab:=ab) (col:=col) (dd:=dd) (k0:=k0) (k1:=k1) (k2:=k2) (k3:=k3) (k5:=k5)
  yt (mN:=mN) (T.hasType (by decide)) (I.ok.hd hc) rfl hni (aW I hg hm ⟨rfl,?_⟩ gc)
 refine evalArgs_empty ⟨rfl,Ÿ _,hC,hN,T,λh' e hx=>?_⟩;obtain⟨t,he,_,_⟩:=hx.there;have I2:Inv X Ã Z H {s with heap:=h'}:=I.kept (t':=s.toks) hx.keeps;exact hr Ã Z H _ e _ _ I2 he rfl rfl (λ_=>rfl) (lW I.hok hx.new) (Inv.KH I hex hx.new) (h Z _ _ F H rel ċ ⟨rfl,[],.inl ⟨rfl,rfl⟩,rfl,Õ.nil,λ_=>rfl⟩)
end
section
variable{M:ϔ}{A:Ú}{E:Á->Â->Prop}{s:Â}{K:Æ}{e C D:À}{oe:Obj}{b:Bool}{Q:Bool->Â->Prop}
def gK(X:K.In s.heap)(hk:aq K (.ref C) (.ref D)=some b)(hx:ar K D (.type "BaseException")=some true)(he:s.heap.get? e=some oe)(hc:oe.cls=.ref C)(hq:Q b s):Ç M A (excMatches (.ref e) (.ref D)) Q E s:=by
 obtain⟨l1,l2,l3⟩:=PySem.W.kit_cls (M:=M) X hk;have l4:=lP (M:=M) X hx;have f:=tc_notTuple;unfold excMatches isInstance;refine Ê (Ê (l1.here ?_));rw[f];refine è ?_;simp only[iA,if_false];refine Ê (è ?_);simp only[ly,List.forIn_nil];unfold isExcClass;refine Ê (Ê (Ê (Ê (l2.here ?_))));rw[if_pos rfl];refine l4.here ?_;rw[if_neg (by decide)];refine è (è ?_);refine Ê (wpAny_typeOf_ref he ?_);rw[hc];refine Ê (Ê (Ê (l3.here ?_)));cases b with
 |true=>exact è (è (è hq))
 |false=>exact è (è (è hq))
end
noncomputable def uW(X:Cx)(xe:Á->Â->Prop)(Ã:List (À×Obj)):Cx:={X with xe:=xe,pn:=X.pn++Ã}
noncomputable def markX(X:Cx)(e:Á):Cx:={X with A:=X.A.mark (some e),calm:=false,xe:=λ_ _=>False}
section
variable{X:Cx}{Ã:List (À×Obj)}{Z:ð}{H:Hp}{s:Â}{xe:Á->Â->Prop}
def Inv.OA(I:Inv X Ã Z H s):Inv (uW X xe Ã) [] Z H s:=
 ⟨⟨I.ok.mod,I.ok.kind,I.ok.glob,I.ok.blt,I.ok.above,I.ok.inj,I.ok.has,I.ok.cab,I.ok.hd,I.ok.frames,I.ok.stk,I.ok.Nh,I.ok.bs,I.ok.yJ,I.ok.r_,I.ok.uy,I.ok.fE,I.ok.AV,I.ok.tb⟩,
   I.os,I.bare,I.base,I.loc,I.cell,I.free,I.ca,λp hp=>I.pin p (by simpa[uW] using hp),I.hok,I.len⟩
def Inv.nv{mx:List (À×Obj)}(I:Inv (uW X xe Ã) mx Z H s):Inv X Ã Z H s:=
 ⟨⟨I.ok.mod,I.ok.kind,I.ok.glob,I.ok.blt,I.ok.above,I.ok.inj,I.ok.has,I.ok.cab,I.ok.hd,I.ok.frames,I.ok.stk,I.ok.Nh,I.ok.bs,I.ok.yJ,I.ok.r_,I.ok.uy,I.ok.fE,I.ok.AV,I.ok.tb⟩,
   I.os,I.bare,I.base,I.loc,I.cell,I.free,I.ca,λp hp=>I.pin p (iB _ hp),I.hok,I.len⟩
theorem SP.nv{mx:List (À×Obj)}{D:Ends}{f:Flow}(h:SP (uW X xe Ã) mx D f s):SP X Ã D f s:=by
 cases f with
 |next=>obtain⟨Z',H',I,q⟩:=h;exact⟨Z',H',Inv.nv I,q⟩
 |brk=>obtain⟨Z',H',I,q⟩:=h;exact⟨Z',H',Inv.nv I,q⟩
 |cont=>obtain⟨Z',H',I,q⟩:=h;exact⟨Z',H',Inv.nv I,q⟩
 |ret u=>obtain⟨v,Z',H',I,r,q⟩:=h;exact⟨v,Z',H',Inv.nv I,r,q⟩
def Inv.mark(I:Inv X Ã Z H s)(e:Á):Inv (markX X e) Ã Z H s:=
 ⟨⟨I.ok.mod,I.ok.kind,I.ok.glob,I.ok.blt,I.ok.above,I.ok.inj,I.ok.has,I.ok.cab,(fun z=>nomatch z),I.ok.frames,I.ok.stk,I.ok.Nh,I.ok.bs,I.ok.yJ,I.ok.r_,I.ok.uy,I.ok.fE,I.ok.AV,I.ok.tb⟩,
   I.os,I.bare,I.base,I.loc,I.cell,I.free,I.ca,I.pin,I.hok,I.len⟩
def Inv.unmark{e:Á}(I:Inv (markX X e) Ã Z H s)(hd:X.calm=true->X.A.handled=none):Inv X Ã Z H s:=
 ⟨⟨I.ok.mod,I.ok.kind,I.ok.glob,I.ok.blt,I.ok.above,I.ok.inj,I.ok.has,I.ok.cab,hd,I.ok.frames,I.ok.stk,I.ok.Nh,I.ok.bs,I.ok.yJ,I.ok.r_,I.ok.uy,I.ok.fE,I.ok.AV,I.ok.tb⟩,
   I.os,I.bare,I.base,I.loc,I.cell,I.free,I.ca,I.pin,I.hok,I.len⟩
end
abbrev MH:=PX->û->Ġ Fl
def ny:MH:=λ_ _=>.bad
noncomputable def nA(wj no:List String)(mh:M Fl)(rest:MH):MH:=λx U=>if wj.contains x.C=true then(match mh U with
 | .ok f U2=>.ok f U2
 |_=>.bad) else if no.contains x.C=true then rest x U else .bad
@[simp] def wQ(mb:M Fl)(mh:MH)(U:û):Ġ Fl:= match mb U with
  | .exc x U1=>mh x U1
  |r=>r
def PH(X:Cx)(cm:String->À)(E:ð->XK)(hs:List gq)(mh:MH):Prop:=∀(Ã:List (À×Obj)) (Z:ð) (H Hc:Hp) (s sc:Â) (ea:À) (C:Á) (d:Option À) (B:Ë) (D:Ends) (c:Ctx) (F:Hp) (U:û) (x:PX),
 Inv X Ã Z Hc sc->vZ X.prog X.w X.stack Hc sc ea C d .none H B s->Ā (kk X cm) c F H Z U->mO (kk X cm) F x C d->Ņ (kk X cm) E c F D (mh x U)->Ç (É X.prog X.w) X.A (handleBy (.ref ea) X.env hs) (SP X Ã D) X.xe s
section
variable{X:Cx}{cm:String->À}{E:ð->XK}{Ã:List (À×Obj)}{Z:ð}{H Hc:Hp}{s sc:Â}{ea:À}{C:Á}{d:Option À}{B:Ë}
def sO(I:Inv X Ã Z Hc sc){fl:Á}(l:vZ X.prog X.w X.stack Hc sc ea C d fl H B s):Inv X Ã Z H s:=I.call' l.os (l.un.un l.st) (l.hok.kept l.st) l.bare λb z=>absurd z (by simp)
def GA:PH X cm E [] ny:=λ_ _ _ _ _ _ _ _ _ _ _ _ _ _ _ _ _ _ _ h=>h.elim
variable{mh:M Fl}
def GB{body:List Ï}{h0:gq}{hs:List gq}{pos:Pos}{mb:M Fl}{mh:MH}(mn:∃env outer,X.stack=env::outer/\X.env=env/\env.frame=some env.locals)
 (hb:∀(xe:Á->Â->Prop) (Ã:List (À×Obj)) (Et:ð->XK),Ľ (Ϟ X.prog X.w) (uW X xe Ã) Et->Ϡ (uW X xe Ã) body (tS (kk X cm) Et mb))
 (hh:PH X cm E (h0::hs) mh):PS X (.Try body (h0::hs) [] [] pos) (tS (kk X cm) E (wQ mb mh)):=by
 intro Ã s Z H D I ⟨c,F,U,rel,h⟩;refine wpAny_Try_except ?_;obtain⟨env,outer,KI,rfl,xR⟩:=mn;have FZ:X.A.frames=some (X.env::outer):=by rw[<-KI];exact I.ok.frames
 have J:Inv (uW X (λe s₁=>Ç (É X.prog X.w) X.A (ak e X.env) (λ_ s₂=>Ç (É X.prog X.w) X.A (iW e none) (λ_ s₃=>Ç (É X.prog X.w) X.A (handleBy e X.env (h0::hs)) (SP X Ã D) X.xe s₃) X.xe s₂) X.xe s₁) Ã) [] Z H s:=Inv.OA I;refine ň (hb _ Ã (λZ1 C d H'=>∃c F U x,Ā (kk X cm) c F H' Z1 U/\mO (kk X cm) F x C d/\Ņ (kk X cm) E c F D (mh x U)) ?_ [] s Z H D J ⟨c,F,U,rel,?_⟩) λf s1 q=>?_
 ·intro mx Z1 H1 s1 e s2 I1 hx;obtain⟨ea,C,d,H',B,rfl,l,c1,F1,U1,x,Ð,rx,h1⟩:=hx;have I2:=Inv.nv I1;have XM:s2.heap.FunFrames B (X.env::outer):=by
   have:=l.fr;rw[show(uW X _ Ã).stack=X.env::outer from KI] at this;exact this
  show Ç (É X.prog X.w) X.A (ak (.ref ea) X.env) _ X.xe s2;refine BY FZ XM xR l.tr l.st l.en λg1 x1 x2 x3 x4=>?_;refine gJ (s:={s2 with heap:=g1}) x1 x2 x3 λg2 y1 y2 y3 y4=>?_;have l':vZ X.prog X.w X.stack H1 s1 ea C d .none H' B s2:=l;have l2:=l'.move y1 (by rw[KI];exact y2) y3 (x4.trans y4);exact hh Ã Z1 H' H1 _ s1 ea C d B D c1 F1 U1 x I2 l2 Ð rx h1
 ·unfold wQ at h;cases em:mb U with
  |bad=>rw[em] at h;exact h
  |ok f U1=>rw[em] at h;cases f<;>exact h
  |exc x U1=>rw[em] at h;exact λZ' C d F' H' r s1 rx=>⟨c,F',U1,x,r,rx,Ņ.mono h s1⟩
 ·have q':=SP.nv q;cases f with
  |next=>exact iO q'
  |brk=>exact q'
  |cont=>exact q'
  |ret u=>exact q'
end
open Builtin Builtin.ObjectAttr
def ax(K:Æ)(C:À):Bool:=match K.lookup C with
 |some ⟨.type "type",_,.cls cd,sl⟩=>(match cd.mro,sl.toList with
  | .ref C'::bm,[_,_,_,_,some (.builtin n),_]=>C'== C && n== KE && !cd.hasDel && cd.hasDict && gA K zl bm && Ĩ K (.ref C) "__setattr__" == some (some (.builtin "object.__setattr__")) &&
      Ĩ K (.ref C) "__getattribute__" == some (some (.builtin "BaseException.__getattribute__")) && Ĩ K (.ref C) "__getattr__" == some none
  |_,_=>false)
 |_=>false
structure kY(K:Æ)(C:À)(cd:ClassData)(bm:List Á):Prop where
 at_:∃dd k0 k1 k2 k3 k5,K.lookup C=some ⟨.type "type",dd,.cls cd,#[k0,k1,k2,k3,some (.builtin KE),k5]⟩
 mro:cd.mro=.ref C::bm
 del:cd.hasDel=false
 dict:cd.hasDict=true
 tail:gA K zl bm=true
 sa:Ĩ K (.ref C) "__setattr__" =some (some (.builtin "object.__setattr__"))
 ga:Ĩ K (.ref C) "__getattribute__" =some (some (.builtin "BaseException.__getattribute__"))
 gg:Ĩ K (.ref C) "__getattr__" =some none
def ju{K:Æ}{C:À}(q:ax K C=true):∃cd bm,kY K C cd bm:=by
 unfold ax at q;split at q
 case h_2=>cases q
 rename_i dd cd sl ho;split at q
 case h_2=>cases q
 rename_i C1 bm k0 k1 k2 k3 n1 k5 e1 e2;simp only[Ą,beq_iff_eq,Bool.not_eq_true'] at q;obtain⟨⟨⟨⟨⟨⟨⟨z1,z2⟩,z3⟩,z4⟩,z5⟩,z6⟩,z7⟩,z8⟩:=q;subst z1 z2;obtain⟨XJ⟩:=sl;dsimp only at e2;subst e2;exact⟨cd,bm,⟨dd,k0,k1,k2,k3,k5,ho⟩,e1,z3,z4,z5,z6,z7,z8⟩
section
variable{K:Æ}{h:Ë}{C:À}{cd:ClassData}{bm:List Á}
def kY.own(x:kY K C cd bm)(X:K.In h):OwnTail h zl bm:=yH X x.tail
def kY.cls(x:kY K C cd bm):PySem.W.clsIn K C=some cd:=by obtain⟨_,_,_,_,_,_,e⟩:=x.at_;unfold PySem.W.clsIn;rw[e]
theorem uX{T:String}(hT:zl.contains (.type T)=true):∀{l:List Á},gA K zl l=true->l.contains (.type T)=true
 | [],e=>by cases(show(zl== [])=true from e)
 |v::r,e=>by
  unfold gA at e;rcases xT.mp e with q|q
  ·rw[beq_iff_eq.mp q];exact hT
  ·split at q
   ·split at q
    ·simp only[Ą,beq_iff_eq] at q;rw[iG,uX hT q.2,Bool.or_true]
    ·cases q
   ·cases q
theorem kB(self:Á):∀{l:List Á},gA K zl l=true->refuseLoop self "__setattr__" l=pure ()
 | [],e=>by cases(show(zl== [])=true from e)
 |v::r,e=>by
  unfold gA at e;rcases xT.mp e with q|q
  ·rw[beq_iff_eq.mp q];exact PySem.F.store_ValueError.passes self
  ·split at q
   ·split at q
    ·simp only[Ą,beq_iff_eq] at q;rw[refuseLoop_ref];exact kB self q.2
    ·cases q
   ·cases q
def kY.mroIs(x:kY K C cd bm){T:String}(hT:zl.contains (.type T)=true):ar K C (.type T)=some true:=by unfold ar;rw[x.cls,Option.bind_some,if_neg (by rw[x.mro];simp),x.mro,iG,uX hT x.tail,Bool.or_true]
end
section
variable{prog:Ù}{w:Ô}{A:Ú}{E:Á->Â->Prop}{h:Ë}{g:Array GenState}{d:Drawn}{t:Nat}{os:OsState}
variable{nm q:Str}{C N:À}{bs bm Na:List Á}{hdct:Bool}{sn:List Str}{sub:List Á}{ab:Bool}{col:Option Bool}{dd:Option À}{k0 k1 k2 k3 k5:Option Á}{B oH DQ:String}
def kZ(F:ExcBaseFacts B oH DQ Na)(T:OwnTail h Na bm){rest:List Á}{fI:À}{oI:Obj}{Q:Fin->Â->Prop}
 (hC:h.get? C=some (excClassObj nm q C N bs bm hdct sn sub ab col dd k0 k1 k2 k3 k5 oH))(hi:jg (É prog w) h (iR (.ref C) "__init__") (some (.ref fI)))
 (Qqq5:h.get? fI=some oI)(Qq:oI.cls=.type "function")
 (hq:∀h' e,rm h h' e (.ref C) rest→
   Ç (É prog w) A (call (.ref fI) (.ref e::rest)) (λr s'=>r=.none/\Q (.done (.ret (.ref e))) s') E ⟨h',g,d,t,os⟩)(hrest:rest.length<=sizeLine) :
 Ç (É prog w) A (gt.«type.__call__» ⟨.ref C::rest,[]⟩) Q E ⟨h,g,d,t,os⟩:=by
 repeat (first|with_reducible refine bO hC ?_|with_reducible refine wpAny_madeBy_exc hC ?_|wp_step)
 refine codeAny_call_builtin_code (qZ _ F.quiet) (wpAny_check_new_subT F T hC ?_);refine codeAny_exc_new_subT F T hC ?_ hrest;show Ç _ _ _ _ _ _;have Zad:= ô {cls:=.ref C,data:=.fields #[.ref h.objs.size,.none,.none,.none,.bool false,.none]}
  (ô {cls:=.type "tuple",data:=.seq rest.toArray} hC)
 have Qqq6:= ô {cls:=.ref C,data:=.fields #[.ref h.objs.size,.none,.none,.none,.bool false,.none]}
  (ô {cls:=.type "tuple",data:=.seq rest.toArray} Qqq5)
 have Zae:= hi.keeps (h':=(h.push {cls:=.type "tuple",data:=.seq rest.toArray}).push {cls:=.ref C,data:=.fields #[.ref h.objs.size,.none,.none,.none,.bool false,.none]}) λb o e=>ô _ (ô _ e);have Qr:((h.push {cls:=.type "tuple",data:=.seq rest.toArray}).push
  {cls:=.ref C,data:=.fields #[.ref h.objs.size,.none,.none,.none,.bool false,.none]}).get? (h.objs.size+1)=some
  {cls:=.ref C,data:=.fields #[.ref h.objs.size,.none,.none,.none,.bool false,.none]}:=by heap_get
 have RU:(ć C::bm).contains (.ref C)=true:=by simp
 unfold isInstance
 repeat (first|with_reducible refine bO Qr ?_|(with_reducible refine wpAny_isSubtype_exc Zad ?_;rw[RU])|wp_step)
 show Ç _ _ (iR (.ref C) _) _ _ _;refine Zae.at ?_;refine iX (Ê ?_);unfold bindSpecial;refine Ê (wpAny_typeOf (T:= "function") ⟨_,Qqq6,Qq⟩ ?_);rw[if_pos (by decide)];refine è (Ê (ı (hq _ (h.objs.size+1) ⟨λb o hb=>ô _ (ô _ hb),rk (iI _),h.objs.size,Qr,rk (â _),?_⟩) (λr s' hr=>?_) λ_ _ x=>x))
 ·exact ô _ (rn rfl rfl)
 ·obtain⟨rfl,hQ⟩:=hr
  wp_walk
  exact hQ
def wR(F:ExcBaseFacts B oH DQ Na)(T:OwnTail h Na bm){rest:List Á}{fI:À}{oI:Obj}{Q:Á->Â->Prop}
 (hC:h.get? C=some (excClassObj nm q C N bs bm hdct sn sub ab col dd k0 k1 k2 k3 k5 oH))(hi:jg (É prog w) h (iR (.ref C) "__init__") (some (.ref fI)))
 (Qqq5:h.get? fI=some oI)(Qq:oI.cls=.type "function")
 (hq:∀h' e,rm h h' e (.ref C) rest→
   Ç (É prog w) (A.under (.builtin "type.__call__" ⟨.ref C::rest,[]⟩)) (call (.ref fI) (.ref e::rest)) (λr s'=>r=.none/\Q (.ref e) s') E ⟨h',g,d,t,os⟩)(hrest:rest.length<=sizeLine) :
 Ç (É prog w) A (call (.ref C) rest) Q E ⟨h,g,d,t,os⟩:=by
 have f1:=tc_lookup;have f2:=tc_bind (.ref C);have hT:(⟨h,g,d,t,os⟩:Â).TypeIs (.ref C) "type" := ⟨_,hC,rfl⟩;refine dY (codeAny_of_tree ?_);show Ç _ _ (callAny (.ref C) _) _ _ _
 repeat (any_goals (first|assumption|with_reducible refine bO hC ?_|wp_step))
 refine⟨rfl,?_⟩;refine codeAny_call_builtin_at (qZ _ (by decide +kernel)) entry_typeCall (wpAny_check_type_call_sub hC (kZ (hrest:=hrest) F T hC hi Qqq5 Qq λh' e hm=>?_));exact hq h' e hm
end
section
variable{prog:Ù}{w:Ô}{A:Ú}{E:Á->Â->Prop}{s:Â}{K:Æ}{x C:À}{cd:ClassData}{bm:List Á}{ox:Obj}{od:Option Obj}{name:Str}{v:Á}
def GC{rest:List Á}{fI:À}{Q:Á->Â->Prop}(X:K.In s.heap)(c:kY K C cd bm)(hi:Ĩ K (.ref C) "__init__" =some (some (.ref fI)))(hf:lM K (.ref fI)=some (.type "function"))(hrest:rest.length<=sizeLine)
 (hq:∀h' e,rm s.heap h' e (.ref C) rest->Ç (É prog w) (A.under (.builtin "type.__call__" ⟨.ref C::rest,[]⟩)) (call (.ref fI) (.ref e::rest)) (λr s'=>r=.none/\Q (.ref e) s') E {s with heap:=h'}) :
 Ç (É prog w) A (call (.ref C) rest) Q E s:=by
 obtain⟨dd,k0,k1,k2,k3,k5,e⟩:=c.at_;obtain⟨oI,hoI,Qq⟩:=iJ.mp hf;have hC:=X _ _ e;have T:=c.own X;obtain⟨nm,bs,mro,ns,qn,hd,sn,sub,ab,col,del⟩:=cd;obtain rfl:mro=.ref C::bm:=c.mro;obtain rfl:del=false:=c.del;obtain⟨hh,g,d,t,os⟩:=s;exact wR (C:=C) (nm:=nm) (q:=qn) (N:=ns) (bs:=bs) (bm:=bm) (hdct:=hd) (sn:=sn) (sub:=sub) (ab:=ab) (col:=col) (dd:=dd) (k0:=k0) (k1:=k1) (k2:=k2) (k3:=k3) (k5:=k5) yt T hC (rQ X hi) (X _ _ hoI) Qq hq hrest
def uY{tk:Tok}{R:Result->Â->Prop}(X:K.In s.heap)(I:lJ s.heap x ox C od)(c:kY K C cd bm)(ht:ĉ K C name)
 (h:∀b,Ç (É prog w) A.in1 (storeInOwnDict (.ref x) (.ref C) (.str name tk) name v b)
   (λgR s'=>match gR with| .done f=>R (.ok f) s'| .again c'=>c'.quiet=true/\ϕ (É prog w) A c' R s') (λe s'=>R (.error e) s') s) :
 ϕ (É prog w) A (.call (.builtin "object.__setattr__") ⟨[.ref x,.str name tk,v],[]⟩) R s:=by
 have SF:=PySem.F.store_object;have sub:jg (É prog w) s.heap (isInstance (.ref x) (.type "object")) true:=I.type.andThen (lP X (c.mroIs (by decide)));refine qT SF.slot.plain SF.entry (@PySem.W.check_slot (É prog w) _ _ s "object.__setattr__" "object" "__setattr__" (.ref x) [.str name tk,v] [] _ SF.kind SF.split sub (SF.args (.ref x) (.str name tk) v) ?_);have hm:jg (É prog w) s.heap (mroOf (.ref C)) cd.mro:=(lL X c.cls).andThen .now;have L3:jg (É prog w) s.heap (iR (.ref C) name) none:=rQ X ht;rw[PySem.W.osa_eq,refuse_eq];refine Ê (Ê (I.type.here (Ê (hm.here ?_))));rw[c.mro,refuseLoop_ref,kB _ c.tail];refine è (Ê (I.type.here (Ê (L3.here (Ê (è ?_))))));exact h _
def B0{sl:Array (Option Á)}{vs:Array Á}{Q:Unit->Â->Prop}(X:K.In s.heap)(hx:s.heap.get? x=some ⟨.ref C,none,.fields vs,sl⟩)(c:kY K C cd bm)(ht:ĉ K C name)
 (h:∀h',h'.get? x=some ⟨.ref C,some s.heap.objs.size,.fields vs,sl⟩->h'.Ns1 s.heap.objs.size (λy=>if y=name then some v else none)->(∀b o,b≠x->s.heap.get? b=some o->h'.get? b=some o)->Q () {s with heap:=h',toks:=s.toks+2}) :
 Ç (É prog w) A (setAttr (.ref x) name v) Q E s:=by
 have J:lJ s.heap x ⟨.ref C,none,.fields vs,sl⟩ C none:=⟨hx,rfl,rfl,trivial⟩;refine rN X J c.sa (uY (s:={s with toks:=s.toks+1}) X J c ht λb=>?_);refine Ê (è (Ê (Ê (qM hx (Ê (rW (s:={s with toks:=s.toks+1}) (lL X c.cls) ?_))))));rw[c.dict];have Xa:x≠s.heap.objs.size:=Ĥ (í hx);have Xb:(s.heap.push {cls:=.type "dict",data:=.dict #[]}).get? x=some ⟨.ref C,none,.fields vs,sl⟩:=ô _ hx;refine Ê (wpAny_alloc ?_);refine Ê (wpAny_update Xb ?_);refine è (a:=some s.heap.objs.size) (Ê (è (Ê ?_)));have hgd:((s.heap.push {cls:=.type "dict",data:=.dict #[]}).update x λo=> {cls:=o.cls,dict:=some s.heap.objs.size,data:=o.data,slots:=o.slots}).get? s.heap.objs.size
  = some {cls:=.type "dict",data:=.dict #[]}:=(yA _ _ _ _ Xa.symm).trans (rn rfl rfl)
 have Nx:((s.heap.push {cls:=.type "dict",data:=.dict #[]}).update x λo=> {cls:=o.cls,dict:=some s.heap.objs.size,data:=o.data,slots:=o.slots}).Ns s.heap.objs.size (λ_=>none):=
  ⟨_,#[],_,hgd,rfl,λe he=>absurd he (by simp),λ_=>rfl⟩
 refine wpAny_nsSet1 (yC Nx) λh' RN hs=>?_;obtain⟨oD,W4,W5,Qa,Qb,Qc⟩:=RN.count (rX name v PySem.Within.nil);refine Ê (qN Qa (by rw[Qb];exact qO (Ő Qc (by rw[Ĝ,List.length_nil,Ϯ];lia))) ?_);refine è (h h' ?_ RN λb o hb q=>?_)
 ·exact(hs.2 x Xa).trans (aU _ Xb rfl)
 ·exact(hs.2 b (Ĥ (í q))).trans ((yA _ _ _ _ hb).trans (ô _ q))
def As{sl:Array (Option Á)}{vs:Array Á}{dx:À}{mA:Str->Option Á}{ns:List Str}{Q:Unit->Â->Prop}(X:K.In s.heap)(hx:s.heap.get? x=some ⟨.ref C,some dx,.fields vs,sl⟩)(hn:s.heap.Ns1 dx mA)(hw:iM mA ns)(xO:ns.length<sizeLine)(c:kY K C cd bm)(ht:ĉ K C name)
 (h:∀h',h'.Ns1 dx (λy=>if y=name then some v else mA y)->am dx s.heap h'->Q () {s with heap:=h',toks:=s.toks+2}) :
 Ç (É prog w) A (setAttr (.ref x) name v) Q E s:=by
 obtain⟨od,hod,_⟩:=pB hn;have J:lJ s.heap x ⟨.ref C,some dx,.fields vs,sl⟩ C (some od):=⟨hx,rfl,rfl,hod⟩;refine rN X J c.sa (uY (s:={s with toks:=s.toks+1}) X J c ht λb=>?_);refine Ê (è (Ê (Ê (qM hx (Ê (rW (s:={s with toks:=s.toks+1}) (lL X c.cls) ?_))))));rw[c.dict];refine è (a:=some dx) (Ê (è (Ê ?_)));refine wpAny_nsSet1 (s:={s with toks:=s.toks+1}) hn λh' D7 DK=>?_;obtain⟨oD,W4,W5,Qa,Qb,Qc⟩:=D7.count (rX name v hw);refine Ê (qN Qa (by rw[Qb];exact qO (Ő Qc (by rw[Ĝ];lia))) ?_);exact è (h _ D7 DK)
end
def xn(a C:À)(d:Option À):HO:=.ext λh=>∃o vs,h.get? a=some o/\o.cls=.ref C/\o.dict=d/\o.data=.fields vs/\(vs[1]?=some .none/\vs[2]?=some .none/\4<vs.size)
def GD(H:Hp)(a:À)(d:Option À)(fs:List (Str×V)):Prop:=(d=none/\fs=[])\/∃d0,d=some d0/\H d0=some (.xd fs)/\d0≠a/\fs≠[]
def VS(H:Hp)(a:À)(d:Option À)(d':À):Prop:=d=some d'\/(d=none/\H d'=none/\d'≠a)
def uZ(H:Hp)(a C:À)(d:Option À)(d':À)(fs:List (Str×V)):Hp:=match d with
 |some _=>upd H d' (.xd fs)
 |none=>upd (upd H d' (.xd fs)) a (xn a C (some d'))
def u_{f g:Str}{y:V}{u:Á}{fs:List (Str×V)}{mA:Str->Option Á}(ry:RelV y u)(r:∀g,jT (fs.lookup g) (mA g)):jT ((ϣ f y fs).lookup g) (if g=f then some u else mA g):=by
 rw[fH];split
 ·exact ry
 ·exact r g
section
variable{X:Cx}{Ã:List (À×Obj)}{Z:ð}{H:Hp}{s:Â}{a C:À}{cd:ClassData}{bm:List Á}{d:Option À}{fs:List (Str×V)}{f:Str}{y:V}{u:Á}{A:Ú}{E:Á->Â->Prop}
def EZ{Q:Unit->Â->Prop}(I:Inv X Ã Z H s)(c:kY X.K C cd bm)(ha:H a=some (xn a C d))(hD:GD H a d fs)(n:ĉ X.K C f)(hl:fs.length<1000)(ry:RelV y u)
 (h:∀s' d',VS H a d d'->Inv X Ã Z (uZ H a C d d' (ϣ f y fs)) s'->Q () s'):Ç (É X.prog X.w) A (setAttr (.ref a) f u) Q E s:=by
 obtain⟨⟨o,vs,ho,F_,DR,DT,Jt⟩,_,_⟩:=(show Ϣ X.prog X.w H s.heap a (xn a C d) from I.hok a _ ha);obtain⟨Qs,DU,Ju,oJ⟩:=o;dsimp only at F_ DR DT;subst F_ DR DT;rcases hD with⟨rfl,rfl⟩|⟨d0,rfl,Xc,kv,_⟩
 ·refine B0 I.fv ho c n λh' FV wf k=>h _ s.heap.objs.size (.inr ⟨rfl,I.hok.fresh (â _),λz=>?_⟩) ?_
  ·have:=í ho;rw[z] at this;exact ϓ _ this
  ·obtain⟨od,es,ep,e1,e2⟩:=id wf;have xR:=(Heap.get?_some_iff.mp e1).2;have g1:(s.heap.push od).get? s.heap.objs.size=some od:=rn rfl xR;have ne:s.heap.objs.size≠a:=λz=>by
    have:=í ho;rw[<-z] at this;exact ϓ _ this
   have I1:Inv X Ã Z (upd H s.heap.objs.size (.xd (ϣ f y []))) {s with heap:=s.heap.push od,toks:=s.toks}:=
    I.laid (λb o q=>ô _ q) (â _) ⟨_,wf.at λo q=>by rw[e1] at q;cases q;exact g1,λg=>u_ (fs:=[]) (mA:=λ_=>none) ry λ_=>trivial⟩
   refine I1.write (x:=a) (e:=a) (h':=h') (by rw[Ö (Ć ne),ha];exact trivial) (.inl rfl) (λb o hb q=>?_) ⟨_,FV⟩ ?_
   ·rcases yB q with⟨rfl,rfl⟩|q
    ·exact e1
    ·exact k b o hb q
   ·refine⟨⟨_,vs,FV,rfl,rfl,rfl,Jt⟩,⟨_,FV⟩,?_⟩;rintro h1 h2 ⟨o,ws,q1,q2⟩ kk;exact⟨o,ws,kk o q1,q2⟩
 ·obtain⟨mA,wf,r⟩:=(show Ϣ X.prog X.w H s.heap d0 (.xd fs) from I.hok d0 _ Xc);have wi:iM mA (fs.map (·.1)):=λg hg=>by
   refine xU λhn=>hg (jT.none_of ?_);rw[<-gI (m:=g) (fs:=fs) (by simpa using hn)];exact r g
  refine As I.fv ho wf wi (by rw[Ŏ,Ϯ];lia) c n λh' D7 sb=>h _ d0 (.inl rfl) ?_;exact I.write (x:=d0) (e:=d0) (by rw[Xc];exact trivial) (.inl rfl) (λb o hb q=>(sb.2 b hb).trans q) (let ⟨o,_,_,e,_⟩:=D7;⟨o,e⟩) ⟨_,D7,λg=>u_ ry r⟩
def Tw(C:À)(f:Str)(j:Nat):TS:=λD Z H=>∃a d fs y,Z[0]?=some (some (.ref a))/\Z[j]?=some (some y)/\H a=some (xn a C d)/\GD H a d fs/\fs.length<1000/\∀d',VS H a d d'->D.nx Z (uZ H a C d d' (ϣ f y fs))
def GF(C:À):List (Str×Nat)->TS
 | []=>Gb
 |(f,j)::r=>NE (Tw C f j) (GF C r)
variable{o value:Å}{pos aa:Pos}{j:Nat}{ss:List Ï}{r:List (Str×Nat)}
def B1(q:ax X.K C=true)(n:ĉ X.K C f)(ho:PE X o (bc 0))(hv:PE X value (bc j))(hs:Ĳ value (some (.Attribute o f aa)) pos.line X.env=pure false:=by rfl):PS X (.Assign [.Attribute o f aa] value pos) (Tw C f j):=by intro Ã s Z H D I ⟨a,d,fs,y,h0,hj,ha,hD,hl,h⟩;obtain⟨cd,bm,c⟩:=ju q;refine yi (ň (hv Ã s Z H (λv H1=>v=y/\H1=H) I ⟨y,hj,rfl,rfl⟩) λu s1 ⟨y1,H1,I1,ry,e1,e2⟩=>?_) hs;subst e1 e2;refine ň (ho Ã s1 Z _ (λv H2=>v=.ref a/\H2=H1) I1 ⟨_,h0,rfl,rfl⟩) λov s2 ⟨x,H2,I2,rx,e1,e2⟩=>?_;subst e1 e2;obtain rfl:ov=ć a:=rx;exact EZ I2 c ha hD n hl ry λs3 d' hn I3=>⟨Z,_,I3,h d' hn⟩
def wS:Ϡ X [] (GF C []):=si
def sP(h1:PS X (.Assign [.Attribute o f aa] value pos) (Tw C f j))(h2:Ϡ X ss (GF C r)):Ϡ X (.Assign [.Attribute o f aa] value pos::ss) (GF C ((f,j)::r)):=be h1 h2
end
noncomputable def Np:List (Str×Nat)->List V->List (Str×V)->Option (List (Str×V))
 | [],_,fs=>some fs
 |(f,j)::r,vs,fs=>match vs[j]? with
  |some v=>Np r vs (ϣ f v fs)
  |none=>none
def E_{f:Str}{y:V}{fs:List (Str×V)}:ϣ f y fs≠[]:=by
 cases fs with
 |nil=>intro z;cases z
 |cons x r=>obtain⟨g,v⟩:=x;unfold ϣ;split<;>(intro z;cases z)
theorem wT{D:Ends}{Z:ð}{a C:À}{vs:List V}(h0:Z[0]?=some (some (.ref a)))(hσ:∀(j:Nat) v,vs[j]?=some v->Z[j]?=some (some v)):∀{fl:List (Str×Nat)} {d:Option À} {fs fs':List (Str×V)} {H:Hp},H a=some (xn a C d)->GD H a d fs->fs.length+fl.length<1000->Np fl vs fs=some fs'->
 (∀H' d',H' a=some (xn a C d')->GD H' a d' fs'->(∀b u,b≠a->d≠some b->H b=some u->H' b=some u)->(∀d0,d'=some d0->d=some d0\/H d0=none)->D.nx Z H')->GF C fl D Z H
 | [],d,fs,fs',H,ha,hD,hl,e,k=>by cases e;exact k H d ha hD (λ_ _ _ _ q=>q) λd0 q=>.inl q
 |(f,j)::r,d,fs,fs',H,ha,hD,hl,e,k=>by
  unfold Np at e;cases ej:vs[j]? with
  |none=>rw[ej] at e;cases e
  |some y=>
   rw[ej] at e;rw[Ĝ] at hl;refine⟨a,d,fs,y,h0,hσ j y ej,ha,hD,by lia,λd' hn=>?_⟩;have DT:d'≠a:=by
    rcases hn with rfl|⟨_,_,q⟩
    ·rcases hD with⟨q,_⟩|⟨d0,q,_,z,_⟩
     ·cases q
     ·cases q;exact z
    ·exact q
   have e1:uZ H a C d d' (ϣ f y fs) a=some (xn a C (some d')):=by
    unfold uZ;rcases hn with rfl|⟨rfl,_,_⟩
    ·dsimp only;rw[Ö (Ć DT)];exact ha
    ·exact Ü
   have e2:uZ H a C d d' (ϣ f y fs) d'=some (.xd (ϣ f y fs)):=by
    unfold uZ;cases d with
    |some _=>exact Ü
    |none=>dsimp only;rw[Ö DT];exact Ü
   have e3:∀b,b≠a->b≠d'->uZ H a C d d' (ϣ f y fs) b=H b:=λb h1 h2=>by
    unfold uZ;cases d with
    |some _=>exact Ö h2
    |none=>dsimp only;rw[Ö h1,Ö h2]
   have hlen:=fJ f y fs;show GF C r _ Z _;refine wT (fl:=r) (d:=some d') (fs:=ϣ f y fs) (fs':=fs') h0 hσ e1 (.inr ⟨d',rfl,e2,DT,E_⟩) (by lia) e λH' d'' q1 q2 q3 q4=>k H' d'' q1 q2 (λb u h1 h2 h3=>?_) λd0 z=>?_
   ·have hb:b≠d':=fun z=>by
     rcases hn with q|⟨_,q,_⟩
     ·exact h2 (by rw[q,z])
     ·rw[z,q] at h3;cases h3
    exact q3 b u h1 (λz=>hb (by cases z;rfl)) (by rw[e3 b h1 hb];exact h3)
   ·rcases q4 d0 z with q|q
    ·cases q;rcases hn with q|⟨_,q,_⟩
     ·exact .inl q
     ·exact .inr q
    ·have n1:d0≠a:=λz=>by rw[z,e1] at q;cases q
     have n2:d0≠d':=λz=>by rw[z,e2] at q;cases q
     rw[e3 d0 n1 n2] at q;exact .inr q
def E0(n:Nat)(C:À)(fl:List (Str×Nat)):Sp:=λvs H Q _=>∃a ac fs,vs=.ref a::ac/\ac.length+1=n/\H a=some (xn a C none)/\fl.length<1000/\Np fl vs []=some fs/\
 ∀H' d',H' a=some (xn a C d')->GD H' a d' fs->(∀b u,b≠a->H b=some u->H' b=some u)->(∀d0,d'=some d0->H d0=none)->Q .non H'
def gL{N:List Str}{vs:List V}{j:Nat}{v:V}(e:vs[j]?=some v):(L2.start N vs)[j]?=some (some v):=by unfold L2.start;obtain⟨hj,e'⟩:=gi.mp e;rw[Ϫ (by simpa using hj)];simp[e]
section
variable{P:Ù}{w:Ô}{K:Æ}{mg:Str->Option Á}{base:Ë}{CX:dh}
def fnX{x ç:Str}{st:Ï}{f:À}{fd:ú}{N ps:List Str}{k n:Nat}{C:À}{fl:List (Str×Nat)}(F:yU K x ç st f fd)(S:Ý N ps (Î st))(hn:ps.length=n)
 (ϧ:∀(ğ:Á) (A:Ú) (outer:List Env) (s:Â) (H:Hp) (E:XK),Ϡ (Ň CX P w K mg base N ç (Î st) f ğ A outer s H E) (ń st) (GF C fl)):Ď P w K mg base CX (k+1) f fd ps (E0 n C fl):=by
 subst hn;obtain⟨oc,od,kV,iu,pm,an,ğ,ct,oJ,rfl,lk,cZ⟩:=F.ex;refine uD lk cZ S (λvs H Q E ⟨a,ac,fs,h1,h2,_⟩=>by rw[h1,Ĝ];exact h2) λA outer s H vs Q E hr pq=>?_;obtain⟨a,ac,fs,rfl,h2,h3,h4,h5,h6⟩:=pq;refine⟨_,ϧ ğ A outer s H E,wT (vs:=.ref a::ac) (gL rfl) (λj v e=>gL e) h3 (.inl ⟨rfl,rfl⟩) (by simpa using h4) h5 λH' d' q1 q2 q3 q4=>h6 H' d' q1 q2 (λb u hb q=>q3 b u hb (by intro z;cases z) q) λd0 z=>?_⟩;rcases q4 d0 z with q|q
 ·cases q
 ·exact q
end
def dg.Tz{P:Ù}{w:Ô}{H:Hp}{h:Ë}{ea Ca:À}{d:Option À}{oe:Obj}{vs:Array Á}(k:dg P w H h)(hn:H ea=none)(he:h.get? ea=some oe)(hc:oe.cls=.ref Ca)(DR:oe.dict=d)(hd:oe.data=.fields vs)(h1:vs[1]?=some .none/\vs[2]?=some .none/\4<vs.size):dg P w (upd H ea (xn ea Ca d)) h:=λb u e=>by
 by_cases hb:b=ea
 ·subst hb;rw[Ü] at e;cases e;refine⟨⟨oe,vs,he,hc,DR,hd,h1⟩,⟨oe,he⟩,?_⟩;rintro h1 h2 ⟨o,ws,q1,q2⟩ kk;exact⟨o,ws,kk o q1,q2⟩
 ·rw[Ö hb] at e;exact(k b u e).stay (λ_ _ _ q=>q) (λc q=>by rw[Ö (æ q hn)];exact q) (λc xs q=>by rw[Ö (æ q hn)];exact q) λc xs q=>by rw[Ö (æ q hn)];exact q
def Inv.OB{X:Cx}{Ã:List (À×Obj)}{Z:ð}{H:Hp}{s:Â}{h':Ë}{e Ca:À}{d:Option À}{oe:Obj}{vs:Array Á}{t':Nat}(I:Inv X Ã Z H s)(k:∀b o,s.heap.get? b=some o->h'.get? b=some o)(new:s.heap.get? e=none)
 (he:h'.get? e=some oe)(hc:oe.cls=.ref Ca)(DR:oe.dict=d)(hd:oe.data=.fields vs)(h1:vs[1]?=some .none/\vs[2]?=some .none/\4<vs.size):Inv X Ã Z (upd H e (xn e Ca d)) {s with heap:=h',toks:=t'}:=by
 have hn:H e=none:=lW I.hok new;have u:Un X.fs [] H H s.heap h':=Un.kept k;refine I.un ⟨u.keep,u.slot,λb o q n hx=>?_,u.there,λb xs q=>?_,λb o v q=>?_,λb ps q=>?_⟩ (dg.Tz (I.hok.kept k) hn he hc DR hd h1)
 ·have hb:b≠e:=λz=>by rw[z,new] at q;cases q
  rw[Ö hb];exact n
 ·rw[Ö (æ q hn)];exact q
 ·rw[Ö (æ q hn)];exact q
 ·rw[Ö (æ q hn)];exact q
noncomputable def E2:List (Str×Nat)->List PV->List Str->List PV->Option (List Str×List PV)
 | [],_,ns,qs=>some (ns,qs)
 |(_,0)::_,_,_,_=>none
 |(f,j+1)::r,ps,ns,qs=>match ps[j]? with
  |some p=>E2 r ps (putN f ns) (nq f p ns qs)
  |none=>none
theorem vb{K:KK}{F:Hp}:∀{ps:List PV} {vs:List V} {j:Nat} {p:PV},Õ K F ps vs->ps[j]?=some p->∃v,vs[j]?=some v/\ü K F p v
 | [],_,_,_,_,e=>by simp at e
 |q::ps,vs,j,p,h,e=>by
  unfold Õ at h;obtain⟨x,r,rfl,h1,h2⟩:=h;cases j with
  |zero=>cases e;exact⟨x,rfl,h1⟩
  |succ j=>rw[gj] at e ⊢;exact vb h2 e
theorem wU{K:KK}{F:Hp}{ps:List PV}{vs:List V}{e:V}(h:Õ K F ps vs):∀{fl:List (Str×Nat)} {ns fB:List Str} {qs zm:List PV} {fs:List (Str×V)},E2 fl ps ns qs=some (fB,zm)->fs.map (·.1)=ns->Õ K F qs (fs.map (·.2))->
 ∃fs',Np fl (e::vs) fs=some fs'/\fs'.map (·.1)=fB/\Õ K F zm (fs'.map (·.2))
 | [],ns,fB,qs,zm,fs,z,hn,hq=>by cases z;exact⟨fs,rfl,hn,hq⟩
 |(f,0)::r,ns,fB,qs,zm,fs,z,hn,hq=>by cases z
 |(f,j+1)::r,ns,fB,qs,zm,fs,z,hn,hq=>by
  unfold E2 at z;cases ej:ps[j]? with
  |none=>rw[ej] at z;cases z
  |some p=>rw[ej] at z;obtain⟨v,ev,rv⟩:=vb h ej;unfold Np;rw[gj,ev];subst hn;obtain⟨z1,z2⟩:=sM (f:=f) (p:=p) rv hq;exact wU h (fs:=ϣ f v fs) z z1 z2
@[simp] def ũ(C:String)(n:Nat)(fl:List (Str×Nat))(ms:M (List PV))(U:û):Ġ Fl:= (ms U).bind fun ps U1=>if ps.length+1=n∧ps.length<1000∧fl.length<1000 then(match E2 fl ps [] [] with
  |some (ns,qs)=>.exc ⟨C,ns,qs⟩ U1
  |none=>.bad) else .bad
section
variable{X:Cx}{E:ð->XK}{e:Å}{p:Pos}{CX:dh}{k n:Nat}{f:À}{fd:ú}{ps:List Str}{C:String}{fl:List (Str×Nat)}{x:Str}
structure E3(K:Æ)(C f:À):Prop where
 x:ax K C=true
 kp:Ō K (.ref C)=true
 init:Ĩ K (.ref C) "__init__" =some (some (.ref f))
 fn:lM K (.ref f)=some (.type "function")
def Au{Ã:List (À×Obj)}{Z:ð}{H:Hp}{s:Â}{G:Á->Â->Prop}{us:List Á}{vs:List V}{sp:Sp}{C:À}{T:À->Hp->Prop}(M:E3 X.K C f)(F:Ď X.prog X.w X.K X.mg X.base CX k f fd ps sp)(hr:Ń (k+1) X.A)(hb:Binds X.K fd ps [])
 (hx:Ľ CX X E)(I:Inv X Ã Z H s)(r:ġ vs us)(hl:us.length<=sizeLine)
 (h:∀x,H x=none->sp (.ref x::vs) (upd H x (xn x C none)) (λv H2=>v=.non/\T x H2) (E Z))
 (k:∀x H2 s',H x=none->s.heap.get? x=none->Inv X Ã Z H2 s'->T x H2->G (.ref x) s') :
 Ç (É X.prog X.w) X.A (call (.ref C) us) G X.xe s:=by
 obtain⟨cd,bm,c⟩:=ju M.x;refine GC I.fv c M.init M.fn hl λh' e hm=>?_;obtain⟨t,he,_,_⟩:=hm.there;have hn:H e=none:=lW I.hok hm.new;have I2:Inv X Ã Z (upd H e (xn e C none)) {s with heap:=h',toks:=s.toks}:=Inv.OB I hm.keeps hm.new he rfl rfl rfl ⟨rfl,rfl,by simp⟩;have hq:=h e hn;have r2:ġ (V.ref e::vs) (ć e::us):=.cons rfl r;have hl:(ć e::us ++ []).length=ps.length:=by have q:=r2.length;rw[F.len _ _ _ _ hq] at q;rw[ϩ];exact q.symm
 have zY:=hb {s with heap:=h'} (ć e::us) I2.fv hl;rw[ϩ] at zY;refine dY (bN (F.run _ X.stack _ _ ⟨ć e::us,[]⟩ _ _ _ (E Z) (hr.make C us []) (I2.env0.make C us []) zY r2 hq) λr s' vX=>?_);cases r with
 |error e=>exact hx Ã Z _ _ e s' I2 vX
 |ok fl=>
  cases fl with
  |ret u=>obtain⟨v,H',I3,rv,ev,q3⟩:=I2.after vX;subst ev;exact⟨rv,k e H' s' hn hm.new I3 q3⟩
  |next=>exact ě vX
  |brk=>exact ě vX
  |cont=>exact ě vX
def v_(H:Hp)(a:À):Hp:=λb=>if b=a then none else H b
def aK{H:Hp}{a b:À}(h:b≠a):v_ H a b=H b:=if_neg h
def fT{H:Hp}{a:À}:v_ H a a=none:=if_pos rfl
def jv{H:Hp}{a b:À}(h:H b=none):v_ H a b=none:=by
 unfold v_;split
 ·rfl
 ·exact h
def Inv.drop{Ã:List (À×Obj)}{Z:ð}{H:Hp}{s:Â}{a:À}{φ:Ë->Prop}(I:Inv X Ã Z H s)(ha:H a=some (.ext φ)):Inv X Ã Z (v_ H a) s:=by
 have ne:∀b u,H b=some u->(∀ψ,u≠ .ext ψ)->b≠a:=λb u q n z=>by rw[z,ha] at q;cases q;exact n _ rfl
 refine⟨I.ok,I.os,I.bare,⟨I.base.keep,I.base.slot,λb o q n hx=>jv (I.base.free b o q n hx),I.base.there,λb xs q=>?_,λb o u q=>?_,λb ps q=>?_⟩,I.loc,I.cell,jv I.free,λx c e=>jv (I.ca x c e),λp hp=>?_,λb u e=>?_,I.len⟩
 ·have q':=I.base.tups b xs q;rw[aK (ne b _ q' (by intro ψ z;cases z))];exact q'
 ·have q':=I.base.eI b o u q;rw[aK (ne b _ q' (by intro ψ z;cases z))];exact q'
 ·have q':=I.base.c_ b ps q;rw[aK (ne b _ q' (by intro ψ z;cases z))];exact q'
 ·obtain⟨h1,h2,h3⟩:=I.pin p hp;exact⟨h1,jv h2,h3⟩
 ·have hb:b≠a:=λz=>by rw[z,fT] at e;cases e
  rw[aK hb] at e;exact(I.hok b u e).stay (λ_ _ _ q=>q) (λc q=>by rw[aK (ne c _ q (by intro ψ z;cases z))];exact q) (λc xs q=>by rw[aK (ne c _ q (by intro ψ z;cases z))];exact q) λc xs q=>by rw[aK (ne c _ q (by intro ψ z;cases z))];exact q
def GG{K:KK}{c:Ctx}{F1 H1 H':Hp}{Z:ð}{U1:û}{x Ca:À}{d':Option À}{fs:List (Str×V)}(Ð:Ā K c F1 H1 Z U1)(hx:H1 x=none)(hD:GD H' x d' fs)(hH:∀b u,b≠x->upd H1 x (xn x Ca none) b=some u->H' b=some u)
 (hd:∀d0,d'=some d0->upd H1 x (xn x Ca none) d0=none):∃F',Ā K c F' H' Z U1/\Ò F1 F'/\Ò H1 H'/\pO F' d' fs/\F' x=none:=by
 have sH:Ò H1 H':=λb u e=>hH b u (æ e hx) (by rw[Ö (æ e hx)];exact e);have r2:Ā K c F1 H' Z U1:=Ð.call ⟨sH,Ò.refl _,Ð.sub.trans sH,λ_ _ q=>q⟩;rcases hD with⟨rfl,rfl⟩|⟨d0,rfl,h2,kv,_⟩
 ·exact⟨F1,r2,Ò.refl _,sH,.inl ⟨rfl,rfl⟩,Ð.sub.free hx⟩
 ·have n0:H1 d0=none:=by
   have:=hd d0 rfl;rw[Ö kv] at this;exact this
  refine⟨upd F1 d0 (.xd fs),r2.freeze h2 (Ð.base.free n0) (Ð.sub.free n0) (Ð.fresh n0),Ò.upd (Ð.sub.free n0),sH,.inr ⟨d0,rfl,Ü⟩,?_⟩;rw[Ö (Ć kv)];exact Ð.sub.free hx
end
section
variable{M:ϔ}{A:Ú}{E:Á->Â->Prop}{s:Â}{K:Æ}{env:Env}
def E4{x:Sem Á}{Q:Flow->Â->Prop}(hh:A.handled=none)
 (h:Ç M A x (λv s₁=>∃e C oe vs oC,v=.ref e/\K.In s₁.heap/\s₁.heap.get? C=some oC/\oC.cls=.type "type" /\ar K C (.type "BaseException")=some true/\s₁.heap.get? e=some oe/\oe.cls=.ref C/\oe.data=.fields vs/\vs[1]?=some .none/\E (.ref e) s₁) E s) :
 Ç M A (gu env (some x) none) Q E s:=by
 unfold gu;refine Ê (ı h (λv s₁ h₁=>?_) λ_ _ x=>x);obtain⟨e,C,oe,vs,oC,rfl,KX,hC,OC,hm,he,hc,hd,h1,hE⟩:=h₁;have L4:=lP (M:=M) KX hm;obtain⟨hp,g,d,tk,os⟩:=s₁;obtain⟨Qs,DU,Ju,oJ⟩:=oe;dsimp only at hc hd;subst hc hd
 repeat (first|with_reducible refine bO he ?_|(with_reducible refine bO hC ?_;rw[OC])|with_reducible refine PySem.W.Looks.at L4 ?_|with_reducible refine ŋ he rfl h1 ?_|wp_step)
 exact wpAny_raiseNew_none hh hE
end
section
variable{X:Cx}{cm:String->À}{E:ð->XK}{e:Å}{es:List Å}{pos Ϩ np:Pos}{CX:dh}{k n:Nat}{f:À}{fd:ú}{ps:List Str}{C:String}{fl:List (Str×Nat)}{ms:M (List PV)}{x:Str}
def Ņ.bindL{K:KK}{c:Ctx}{F H:Hp}{Z:ð}{D:Ends}{Q':List V->Hp->Prop}{r:Ġ (List PV)}{g:List PV->û->Ġ Fl}(h:Ņ K E c F D (r.bind g))
 (k:∀p U1 v F1 H1,Ā K c F1 H1 Z U1->Ò F F1->Ò H H1->Õ K F1 p v->Ņ K E c F1 D (g p U1)->Q' v H1):Ť K E (rL K) c F H Z Q' r:=by
 cases r with
 |bad=>exact h
 |exc x U'=>exact λC d F' H' rel s1 q=>h Z C d F' H' rel s1 q
 |ok p U1=>exact λv F' H' rel s1 s2 q=>k p U1 v F' H' rel s1 s2 q (Ņ.mono h s1)
def wV{c:Ctx}{F1 H1:Hp}{Z:ð}{U1:û}{D:Ends}{qs:List PV}{vs:List V}(Ð:Ā (kk X cm) c F1 H1 Z U1)(r1:Õ (kk X cm) F1 qs vs)
 (h:Ņ (kk X cm) E c F1 D (if qs.length+1=n/\qs.length<1000/\fl.length<1000 then(match E2 fl qs [] [] with|some (ns,qs)=>.exc ⟨C,ns,qs⟩ U1|none=>.bad) else .bad)) :
 vs.length<=sizeLine/\∀x,H1 x=none->E0 n (cm C) fl (.ref x::vs) (upd H1 x (xn x (cm C) none)) (λv H2=>v=.non/\∃d',H2 x=some (xn x (cm C) d')/\E Z (.ref (cm C)) d' (v_ H2 x)) (E Z):=by
 split at h
 case isFalse=>exact h.elim
 rename_i hz;cases ex:E2 fl qs [] [] with
 |none=>rw[ex] at h;exact h.elim
 |some z=>
  obtain⟨ns,ws⟩:=z;rw[ex] at h;refine⟨by rw[<-Õ.length r1,ă];lia,λx hx=>?_⟩;obtain⟨fs,e1,e2,e3⟩:=wU (e:=.ref x) r1 (fs:=[]) ex rfl Õ.nil;refine⟨x,vs,fs,rfl,by rw[<-Õ.length r1];exact hz.1,Ü,hz.2.2,e1,λH' d' q1 q2 q3 q4=>⟨rfl,d',q1,?_⟩⟩;have TC:GD (v_ H' x) x d' fs:=by
   rcases q2 with q|⟨d0,z1,z2,z3⟩
   ·exact .inl q
   ·exact .inr ⟨d0,z1,by rw[aK z3.1];exact z2,z3⟩
  obtain⟨F',rl,sF,sH,xd,fx⟩:=GG (Ca:=cm C) Ð hx TC (λb u hb q=>by rw[aK hb];exact q3 b u hb q) q4;exact h Z _ _ F' _ rl sF ⟨rfl,fs,xd,e2,Õ.same sF _ _ e3,λz=>by
   rcases q2 with⟨q,_⟩|⟨d0,_,_,_,z3⟩
   ·exact q
   ·exact absurd (List.map_eq_nil_iff.mp (e2.trans z)) z3⟩
def ţ(hc:X.calm=true)(hex:X.ex=[])(hrs:sN X E)(M:E3 X.K (cm C) f)(F:Ď X.prog X.w X.K X.mg X.base CX k f fd ps (E0 n (cm C) fl))(hr:Ń (k+1) X.A)(hg:Gl X x)(hm:X.mg x=some (.ref (cm C)))(hb:Binds X.K fd ps [])(hx:Ľ CX X E)
 (ha:PA X (e::es) (tL (kk X cm) E ms))(gc:(x== ("__debug__" :Str))=false:=by decide)(he:È (e::es) X.env=(false,eval e X.env)::È es X.env:=by exact į rfl)(hpl:(ñ Ϩ (È es X.env)).any (·.1)=false:=by rfl) :
 PS X (.Raise (some (.Call (.Name x np) (e::es) [] Ϩ)) none pos) (tS (kk X cm) E (ũ C n fl ms)):=by
 intro Ã s Z H D I ⟨c,F',U,rel,h⟩;rw[arm_exec_Raise];refine Ê (cF ?_);show Ç _ _ (gu X.env (some (do let v <-eval (.Call (.Name x np) (e::es) [] Ϩ) X.env;cD pos;pure v)) none) _ _ _;refine E4 (K:=X.K) (I.ok.hd hc) (Ê ?_);obtain⟨cd,bm,xc⟩:=ju M.x;obtain⟨dd,k0,k1,k2,k3,k5,lC⟩:=xc.at_;refine ı (bM (aW I hg hm (cK (h₀:= X.base) I.ok.mod.AT M.kp (ň (ha Ϩ Ã s Z H (λvs H1=>vs.length<=sizeLine/\∀x,H1 x=none->E0 n (cm C) fl (.ref x::vs) (upd H1 x (xn x (cm C) none)) (λv H2=>v=.non/\∃d',H2 x=some (xn x (cm C) d')/\E Z (.ref (cm C)) d' (v_ H2 x)) (E Z)) I
  ⟨c,F',U,rel,Ņ.bindL h fun qs U1 vs F1 H1 Ð _ _ r1 h1=>wV Ð r1 h1⟩) fun us s1 ⟨vs,H1,I1,r,q0,q⟩=>⟨I1.fv,Au (G:=fun v s₁=>∃e C oe vs oC,v=.ref e∧X.K.In s₁.heap∧s₁.heap.get? C=some oC∧oC.cls=.type "type" ∧ar X.K C (.type "BaseException")=some true∧s₁.heap.get? e=some oe∧oe.cls=.ref C∧oe.data=.fields vs∧vs[1]?=some .none∧X.xe (.ref e) s₁)
    M F hr hb hx I1 r (by rw[<-ġ.length r];exact q0) q λy H2 s' _ kx I3 ⟨d',h1,h2⟩=>?_⟩) he hpl) gc)) (λv s3 h3=>Ê (cF (è h3))) λ_ _ z=>z
 obtain⟨⟨oe,ws,ho,F_,DR,DT,Jt⟩,_,_⟩:=(show Ϣ X.prog X.w H2 s'.heap y (xn y (cm C) d') from I3.hok y _ h1);refine⟨y,cm C,oe,ws,_,rfl,I3.fv,I3.fv _ _ lC,rfl,xc.mroIs (by decide),ho,F_,DT,Jt.1,?_⟩;exact hrs Ã Z (v_ H2 y) s' y oe ws (Inv.drop I3 h1) ho DT Jt.1 (λ_=>Jt.2.1) fT (Inv.KH I1 hex kx) (by rw[F_,DR];exact h2)
end
def p_(K:Æ)(C:À):Bool:=ax K C && Ĩ K (.ref C) "__class__" == some (some (.builtin "object.__class__")) && PySem.W.specialIn K (.builtin "object.__class__") "__get__" == some (some (.builtin "getset_descriptor.__get__")) && PySem.W.takesIn K (.builtin "object.__class__")== some true
section
end
section
def B2(Q:String->String->Bool->Prop):List ((String×String)×Bool)->Prop
 | []=>True
 |((c,d),b)::r=>Q c d b/\B2 Q r
end
noncomputable def KJ(K:Æ)(cm:String->À)(cs:List String)(D:String)(b:Bool):Bool:=match cs with
 | []=>true
 |c::r=>aq K (.ref (cm c)) (.ref (cm D))== some b && KJ K cm r D b
theorem jw{K:Æ}{cm:String->À}{D:String}{b:Bool}:∀{cs:List String},KJ K cm cs D b=true->bz (λc=>aq K (.ref (cm c)) (.ref (cm D))=some b) cs
 | [],_=>trivial
 |c::r,h=>by unfold KJ at h;rw[Ą] at h;exact⟨beq_iff_eq.mp h.1,jw h.2⟩
noncomputable def Qqq7(K:Æ)(cm:String->À):List ((String×String)×Bool)->Bool
 | []=>true
 |((c,d),b)::r=>p_ K (cm c) && ϵ K (.ref (cm c)) (.ref (cm d))== some b && Qqq7 K cm r
theorem B3{K:Æ}{cm:String->À}:∀{t:List ((String×String)×Bool)},Qqq7 K cm t=true->B2 (λC D b=>p_ K (cm C)=true/\ϵ K (.ref (cm C)) (.ref (cm D))=some b) t
 | [],_=>trivial
 |((c,d),b)::r,h=>by unfold Qqq7 at h;rw[Ą,Ą] at h;exact⟨⟨h.1.1,beq_iff_eq.mp h.1.2⟩,B3 h.2⟩
noncomputable def TD(K:Æ)(cm:String->À):List ((String×String)×Bool)->Bool
 | []=>true
 |((c,d),b)::r=>p_ K (cm c) && ϵ K (.ref (cm c)) (.type d)== some b && TD K cm r
theorem B4{K:Æ}{cm:String->À}:∀{t:List ((String×String)×Bool)},TD K cm t=true->B2 (λC D b=>p_ K (cm C)=true/\ϵ K (.ref (cm C)) (.type D)=some b) t
 | [],_=>trivial
 |((c,d),b)::r,h=>by unfold TD at h;rw[Ą,Ą] at h;exact⟨⟨h.1.1,beq_iff_eq.mp h.1.2⟩,B4 h.2⟩
noncomputable def Qqq8(K:Æ)(cm:String->À):List String->Bool
 | []=>true
 |d::r=>ϵ K (.type "NoneType") (.ref (cm d))== some false && Qqq8 K cm r
theorem B5{K:Æ}{cm:String->À}:∀{t:List String},Qqq8 K cm t=true->bz (λD=>ϵ K (.type "NoneType") (.ref (cm D))=some false) t
 | [],_=>trivial
 |d::r,h=>by unfold Qqq8 at h;rw[Ą] at h;exact⟨beq_iff_eq.mp h.1,B5 h.2⟩
def KL(K:Æ):List String->Bool
 | []=>true
 |d::r=>ϵ K (.type "NoneType") (.type d)== some false && KL K r
theorem zn{K:Æ}:∀{t:List String},KL K t=true->bz (λD=>ϵ K (.type "NoneType") (.type D)=some false) t
 | [],_=>trivial
 |d::r,h=>by unfold KL at h;rw[Ą] at h;exact⟨beq_iff_eq.mp h.1,zn h.2⟩
def GH(K:Æ)(C f:À):Bool:=ax K C && Ō K (.ref C) && Ĩ K (.ref C) "__init__" == some (some (.ref f)) && lM K (.ref f)== some (.type "function")
def sQ{K:Æ}{C f:À}(h:GH K C f=true):E3 K C f:=by unfold GH at h;simp only[Ą,beq_iff_eq] at h;exact⟨h.1.1.1,h.1.1.2,h.1.2,h.2⟩
def Av{l:eB}{k:Nat}{x:Str}{m:MF}{q:Ù}{ib:List Str}{XP:(Str->Option Á)->Ë->Prop}{YP:Ô->Ë->Prop}{d:DefRec}{K:ĺ->Æ}(hn:l.most=some 63)(MV:d.params.defaults=[])(hr:Ń k cE)
 (hY:∀(w:Ô) (h:Ë),YP w h->(K w.params).In h)
 (F:∀(w:Ô) (mg:Str→Option Á) (fa:À) (h:Ë),(K w.params).In h→h.Ns Ź mg→mg d.name=some (.ref fa)→
   ∃fd:ú,(∀(s:Â) (u:Á),aR s fd ⟨[u],[]⟩ [(x,u)])/\∀base:Ë,(K w.params).In base->base.Ns Ź mg->∃cm,Ď l.prog w (K w.params) mg base (Ϟ l.prog w) k fa fd [x] (bX ⟨K w.params,cm⟩ 1 m))
 (ht:∀ns:List Int,ns.length<=63->m [.sh (.lst (ns.map .int))]=.ret (.sh (.bl true)))
 (Qg:bp≠[]->∀w:Ô,rT (K w.params)=true:=by intro z;exact absurd rfl z)(AQ:∀y z,y∈bp->z∈bp->y=z:=by simp[bp])(M_:∀y,y∈bp->∃d,(recsOf q).find? (λe=>e.name== y)=some d:=by simp[bp]) :
 lO q ib XP YP l.row.toRowW d [] (λf vs=>lF f vs):=by
 refine L2.Ez (n:=63) (k:=k) (x:=x) (CX:=λw=>Ϟ l.prog w) (sp:=λw=>Oo (K w.params)) hn (by decide) MV hr hY (λw mg fa h h1 h2 h3=>?_) (λw H a ns hl _ hS=>⟨a,ns,rfl,hS,hl,λ_ _ z=>z⟩) (λw H s e s' z=>pZ z) Qg AQ M_;obtain⟨fd,hb,hF⟩:=F w mg fa h h1 h2 h3;refine⟨fd,hb,λbase k1 k2=>?_⟩;obtain⟨cm,G⟩:=hF base k1 k2;refine G.imp λvs H Q E hs=>?_;obtain⟨sa,ns,rfl,hS,hl,hq⟩:=hs;refine⟨H,[.sh (.lst (ns.map .int))],rfl,Ò.refl _,.cons ?_ .nil,?_⟩
 ·show ü _ _ _ _;unfold ü;exact⟨sa,_,rfl,hS,uU ns⟩
 ·rw[ht ns hl];intro v F' H' g rf;have e:v=.bl true:=mW (K:=⟨K w.params,cm⟩) (F:=F') rf;exact hq v H' e
section
end
section
variable{X:Cx}{cm:String->À}{E:ð->XK}{y:Str}{Dn:String}{yp FY:Pos}{b₀:Ï}{DP:List Ï}{rest:List gq}{wj no:List String}{mh:M Fl}{mr:MH}
def zo(hg:Gl X y)(hm:X.mg y=some (.ref (cm Dn)))(hex:ar X.K (cm Dn) (.type "BaseException")=some true)
 (Nc:bz (λc=>aq X.K (.ref (cm c)) (.ref (cm Dn))=some true) wj)(Qqq9:bz (λc=>aq X.K (.ref (cm c)) (.ref (cm Dn))=some false) no)
 (hb:∀e:Á,Ϡ (markX X e) (b₀::DP) (tS (kk X cm) EF mh))(hr:PH X cm E rest mr)(gc:(y== ("__debug__" :Str))=false:=by decide) :
 PH X cm E (.ExceptHandler (some (.Name y yp)) none (b₀::DP) FY::rest) (nA wj no mh mr):=by
 intro Ã Z H Hc s sc ea C d B D c F U x I l rel rx h;have I1:=sO I l;obtain⟨oe,vs,T,oT,ts,he,⟨hc,DR⟩,hd,_⟩:=id l.tr;obtain⟨eC,fs,Va,wf,Vb,Nx⟩:=rx;have Qt:oe.cls=.ref (cm x.C):=hc.trans eC;refine wpAny_handleBy_cons (codeAny_handlers_test (aW (X:=markX X (.ref ea)) (Inv.mark I1 (.ref ea)) hg hm ?_ gc)) (by intro q;cases q);unfold nA at h;split at h
 ·rename_i hy;refine gK I1.fv (Nc.get hy) hex he Qt (codeAny_handlers_suite ?_);refine gJ l.st l.fr l.tr λh1 x1 x2 x3 x4=>?_;have l2:=l.move x1 x2 x3 x4;have I2:=Inv.mark (sO I l2) (.ref ea);refine ı (hb (.ref ea) Ã _ _ _ D I2 ⟨c,_,_,rel,?_⟩) (λf s7 q=>?_) λ_ _ z=>z.elim
  ·cases em:mh U with
   |bad=>rw[em] at h;exact h
   |exc z U2=>rw[em] at h;exact h.elim
   |ok f U2=>rw[em] at h;cases f<;>exact h
  ·cases f with
   |next=>obtain⟨Z7,H7,I7,q7⟩:=q;exact⟨_,_,Inv.unmark I7 I.ok.hd,q7⟩
   |brk=>obtain⟨Z7,H7,I7,q7⟩:=q;exact⟨_,_,Inv.unmark I7 I.ok.hd,q7⟩
   |cont=>obtain⟨Z7,H7,I7,q7⟩:=q;exact⟨_,_,Inv.unmark I7 I.ok.hd,q7⟩
   |ret u=>obtain⟨v,Z7,H7,I7,rv,q7⟩:=q;exact⟨_,_,_,Inv.unmark I7 I.ok.hd,rv,q7⟩
 ·split at h
  ·rename_i hn;refine gK I1.fv (Qqq9.get hn) hex he Qt ?_;exact hr Ã Z H Hc s sc ea C d B D c F U x I l rel ⟨eC,fs,Va,wf,Vb,Nx⟩ h
  ·exact h.elim
@[simp] theorem TF{U:û}{x:PX}:nA wj no mh mr x U=(if wj.contains x.C=true then(match mh U with
  | .ok f U2=>.ok f U2
  |_=>.bad) else if no.contains x.C=true then mr x U else .bad):=rfl
end
@[simp] def TJ(C:String)(n:Nat)(fl:List (Str×Nat))(ms:M (List PV))(U:û):Ġ Fl:= match ms U with
  | .ok qs U1=>if qs.length+1=n∧qs.length<1000∧fl.length<1000 then(match E2 fl qs [] [] with
    |some (ns,ws)=>if ns=[] then .bad else .exc ⟨C,ns,ws⟩ U1
    |none=>.bad) else .bad
  |_=>.bad
noncomputable def sR(wj no:List String)(mh:M Fl)(rest:MH):MH:=λx U=>if wj.contains x.C=true then(if x.ns=[] then mh U else .bad) else if no.contains x.C=true then rest x U else .bad
@[simp] theorem TK{wj no:List String}{mh:M Fl}{mr:MH}{U:û}{x:PX}:sR wj no mh mr x U=(if wj.contains x.C=true then(if x.ns=[] then mh U else .bad) else if no.contains x.C=true then mr x U else .bad):=rfl
section
variable{prog:Ù}{w:Ô}{A:Ú}{E:Á->Â->Prop}{s:Â}{K:Æ}{env:Env}
def oV:entryFor table "proto.unchain" =some gt.«proto.unchain» := entryFor_of_tree (by kernel_rfl)
def B6{x c:Sem Á}{Q:Flow->Â->Prop}{hd:À}(hh:A.handled=some (.ref hd))(hc:∀{Q:Á->Â->Prop} {s:Â},Q .none s->Ç (É prog w) A c Q E s)
 (h:Ç (É prog w) A x (λv s₁=>∃e C oe vs oC oh ws,v=.ref e/\K.In s₁.heap/\s₁.heap.get? C=some oC/\oC.cls=.type "type" /\ar K C (.type "BaseException")=some true/\s₁.heap.get? e=some oe/\oe.cls=.ref C/\oe.data=.fields vs/\vs[1]?=some .none/\4<vs.size/\hd≠e/\s₁.heap.get? hd=some oh/\oh.data=.fields ws/\ws[2]?=some .none/\∀h' ac,h'.get? e=some {oe with data:=.fields ac}->ac[1]?=some .none->(∀b,b≠e->h'.get? b=s₁.heap.get? b)->E (.ref e) {s₁ with heap:=h'}) E s) :
 Ç (É prog w) A (gu env (some x) (some c)) Q E s:=by
 unfold gu;refine Ê (ı h (λv s₁ h₁=>?_) λ_ _ x=>x);obtain⟨e,C,oe,vs,oC,oh,ws,rfl,KX,hC,OC,hm,he,Xd,Xe,h1,h4,kv,XN,XO,h2,hE⟩:=h₁;have L4:=lP (M:=É prog w) KX hm;obtain⟨hp,g,d,tk,os⟩:=s₁;obtain⟨Qs,DU,Ju,oJ⟩:=oe;dsimp only at Xd Xe;subst Xd Xe;refine Ê (iX (hc ?_));refine Ê (è ?_);dsimp only
 repeat (first|with_reducible refine bO he ?_|(with_reducible refine bO hC ?_;rw[OC])|with_reducible refine PySem.W.Looks.at L4 ?_|with_reducible refine ŋ he rfl h1 ?_|wp_step)
 have XQ:C≠e:=λz=>by subst z;rw[he] at hC;cases hC;cases OC
 have z3:3<vs.size:=by lia
 rw[if_pos z3];refine wpAny_update he ?_;have e1:=aU (Ž (·.setIfInBounds 3 Value.none)) he (bQ (ϗ rfl _));have o1:∀b,b≠e->(hp.update e (Ž (·.setIfInBounds 3 Value.none))).get? b=hp.get? b:=λb hb=>bP _ _ (Ć hb);dsimp only at e1 ⊢;refine Ê (gp e1 (ϗ rfl _) (by simp;lia) ?_);have e2:=aU (Ž (·.setIfInBounds 4 (Ş true))) e1 (bQ (ϗ (ϗ rfl _) _));have o2:∀b,b≠e->((hp.update e (Ž (·.setIfInBounds 3 Value.none))).update e (Ž (·.setIfInBounds 4 (Ş true)))).get? b=hp.get? b:=λb hb=>(bP _ _ (Ć hb)).trans (o1 b hb);dsimp only at e2 o2 ⊢;clear o1 e1;generalize (hp.update e (Ž (·.setIfInBounds 3 Value.none))).update e (Ž (·.setIfInBounds 4 (Ş true)))=Qu at*;have Jv:Qu.get? e=some {cls:=.ref C,dict:=DU,data:=.fields ((vs.setIfInBounds 3 Value.none).setIfInBounds 4 (Ş true)),slots:=oJ}:=e2;have Xf:((vs.setIfInBounds 3 Value.none).setIfInBounds 4 (Ş true))[1]?=some Value.none:=by rw[lm (by decide),lm (by decide)];exact h1
 have h42:4<((vs.setIfInBounds 3 Value.none).setIfInBounds 4 (Ş true)).size:=by simp;lia
 clear e2;generalize (vs.setIfInBounds 3 Value.none).setIfInBounds 4 (Ş true)=Xg at*;have XR:Qu.get? C=some oC:=(o2 C XQ).trans hC;have TL:Qu.get? hd=some oh:=(o2 hd kv).trans XN
 repeat (first|with_reducible refine bO Jv ?_|(with_reducible refine bO XR ?_;rw[OC])|with_reducible refine ŋ Jv rfl Xf ?_|wp_step)
 unfold raiseNew;refine Ê (wpAny_handled ?_);rw[hh];dsimp only;rw[if_pos (show(ć hd != ć e)=true by simpa using kv)];refine Ê (iX (wpAny_runValue (codeAny_builtin oV ?_)));unfold gt.«proto.unchain»;dsimp only;refine Ê (ŋ TL XO h2 ?_);rw[if_pos (show(Value.none== Value.none)=true from rfl)];unfold ret;refine è ?_;dsimp only;have z2:2<Xg.size:=by lia
 refine Ê (gp (x:=.ref hd) Jv rfl z2 ?_);have e3:=aU (Ž (·.setIfInBounds 2 (ć hd))) Jv (bQ (ϗ rfl _));refine wpAny_throw (hE _ (Xg.setIfInBounds 2 (ć hd)) e3 ?_ λb hb=>?_)
 ·rw[lm (by decide)];exact Xf
 ·exact(bP _ _ (Ć hb)).trans (o2 b hb)
end
section
variable{P:Ù}{w:Ô}{K:Æ}{mg:Str->Option Á}{base:Ë}{N:List Str}{ç:Str}{scope:ë}{f:À}{ğ:Á}{A:Ú}{outer:List Env}{s₀:Â}{H₀:Hp}{E:XK}
def KN{v:Option Á}{E':Á->Â->Prop}{Ã:List (À×Obj)}{Z:ð}{H:Hp}{s:Â}{e:À}{oe:Obj}{vs:Array Á}(I:Inv (Ň (Ϟ P w) P w K mg base N ç scope f ğ A outer s₀ H₀ E) Ã Z H s)
 (he:s.heap.get? e=some oe)(hd:oe.data=.fields vs)(h1:vs[1]?=some .none)(h2:oe.dict=none->vs[2]?=some .none)(hn:H e=none)(kx:s₀.heap.get? e=none)(hE:E oe.cls oe.dict H) :
 Ç (É P w) ((Ň (Ϟ P w) P w K mg base N ç scope f ğ A outer s₀ H₀ E).A.mark v) (ak (.ref e) (Ň (Ϟ P w) P w K mg base N ç scope f ğ A outer s₀ H₀ E).env) (λ_ s₂=>lG (É P w) (Ň (Ϟ P w) P w K mg base N ç scope f ğ A outer s₀ H₀ E).A (Ň (Ϟ P w) P w K mg base N ç scope f ğ A outer s₀ H₀ E).env (Ň (Ϟ P w) P w K mg base N ç scope f ğ A outer s₀ H₀ E).xe (.ref e) s₂) E' s:=by
 have xR:(A.deeper (ê ç scope s₀.heap.objs.size f ğ)).frames=some (ê ç scope s₀.heap.objs.size f ğ::outer):=I.ok.frames;have st:s.heap.FunFrames base (ê ç scope s₀.heap.objs.size f ğ::outer):=I.stack;have nof:e∉fA (ê ç scope s₀.heap.objs.size f ğ::outer):=λz=>by obtain⟨_,o,q,hn⟩:=st.mem z;rw[he] at q;cases q;exact hn vs hd
 have Qqq3:∀env∈(ê ç scope s₀.heap.objs.size f ğ::outer),∀a,env.frame=some a->a∈e::fA (ê ç scope s₀.heap.objs.size f ğ::outer):=λenv h1 a h2=>ù _ (lv.mpr ⟨env,h1,h2⟩);have hl:s.heap.FunFrames (bT s.heap (e::fA (ê ç scope s₀.heap.objs.size f ğ::outer))) (ê ç scope s₀.heap.objs.size f ğ::outer):=yG st Qqq3;have hB:∀b o,s.heap.get? b=some o->b≠e->b∉fA (ê ç scope s₀.heap.objs.size f ğ::outer)->(bT s.heap (e::fA (ê ç scope s₀.heap.objs.size f ğ::outer))).get? b=some o:=λb o q h1 h2=>
  rD _ q λz=>(ė.mp z).elim h1 h2
 have Ga:∀b o,s₀.heap.get? b=some o->b∉fA outer->b∉fA (ê ç scope s₀.heap.objs.size f ğ::outer):=λb o q hb z=>by
  rcases ė.mp (show b∈s₀.heap.objs.size::fA outer from z) with z|z
  ·exact absurd (í q) (by rw[z];exact ϓ _)
  ·exact hb z
 have Qqq4:∀b o,s₀.heap.get? b=some o->b≠e:=λb o q z=>by rw[z,kx] at q;cases q
 have kb:(bT s.heap (e::fA (ê ç scope s₀.heap.objs.size f ğ::outer))).StaysIn s.heap:=λb o q=>rE _ q;have en:(bT s.heap (e::fA (ê ç scope s₀.heap.objs.size f ğ::outer))).get? e=none:=rG _ ŧ;refine zk (s:=s) xR hl rfl he kb en hd h1 h2 λg1 x1 x2 x3 x4=>?_;obtain⟨oe1,vs1,T,oT,ts,f1,f2,f3,f4,_⟩:=id x3;unfold lG;refine Ê (ŋ (s:={s with heap:=g1}) f1 f3 f4 ?_);rw[if_neg (show ¬((ć T== Value.none)=true) by simp)];refine EY (s:={s with heap:=g1}) (L:=s₀.heap.objs.size) x1 x2 x3 λg3 u1 u2 u3 u4=>?_;show Ç _ _ (dU _ _) _ _ _;unfold dU;refine Ê (BZ (s:={s with heap:=g3}) rfl u3 ?_);refine gJ (s:={s with heap:=g3}) u1 u2 u3 λg2 y1 y2 y3 y4=>?_;obtain⟨_,_,Oz⟩:=y2;have mv:=(x4.trans u4).trans y4;refine⟨e,oe.cls,oe.dict,H,_,rfl,⟨I.os,I.bare,y1,en,Oz,y3,?_,⟨λb o q n hb=>?_,λb o q n hb=>?_,λb o q n=>?_,λb o q=>?_,I.base.tups,I.base.eI,I.base.c_⟩,hn,kx⟩,hE⟩
 ·refine dg.sub I.hok λb o u hu q=>hB b o q (λz=>by rw[z,hn] at hu;cases hu) λz=>?_;have:=I.lQ b z;rw[hu] at this;cases this
 ·exact hB b o (I.base.keep b o q n hb (by simp[Ň])) (Qqq4 b o q) (Ga b o q hb)
 ·obtain⟨sl,q1⟩:=I.base.slot b o q n hb (by simp[Ň]);have nf:∀vs,o.data≠ .fields vs:=by
   obtain⟨_,o',q3,hn⟩:=st.mem (ù _ hb);rw[q1] at q3;cases q3;exact hn
  obtain⟨KC,q3⟩:=mv.up b _ q1 nf;exact⟨KC,q3⟩
 ·exact I.base.free b o q n (by simp[Ň])
 ·obtain⟨o1,q1⟩:=I.base.there b o q (by simp[Ň]);exact mv.there b o1 q1
end
def zp(X:Cx)(E:ð->XK):Prop:=∀(Ã:List (À×Obj)) (Z:ð) (H:Hp) (s:Â) (e:À) (oe:Obj) (vs:Array Á) (v:Option Á) (E':Á->Â->Prop),Inv X Ã Z H s->s.heap.get? e=some oe->oe.data=.fields vs->vs[1]?=some .none->(oe.dict=none->vs[2]?=some .none)->H e=none->
 X.s₀.heap.get? e=none->E Z oe.cls oe.dict H->Ç (É X.prog X.w) (X.A.mark v) (ak (.ref e) X.env) (λ_ s₂=>lG (É X.prog X.w) X.A X.env X.xe (.ref e) s₂) E' s
def E5{P:Ù}{w:Ô}{K:Æ}{mg:Str->Option Á}{base:Ë}{N:List Str}{ç:Str}{scope:ë}{f:À}{ğ:Á}{A:Ú}{outer:List Env}{s₀:Â}{H₀:Hp}{E:XK} :
 zp (Ň (Ϟ P w) P w K mg base N ç scope f ğ A outer s₀ H₀ E) (λ_=>E):=λ_ _ _ _ _ _ _ _ _ I he hd h1 h2 hn kx hE=>KN I he hd h1 h2 hn kx hE
def KO(a:À):HO:=.ext λh=>∃o vs,h.get? a=some o/\o.data=.fields vs/\vs[2]?=some .none
def dg.TM{P:Ù}{w:Ô}{H:Hp}{h:Ë}{ea:À}{oe:Obj}{vs:Array Á}(k:dg P w H h)(hn:H ea=none)(he:h.get? ea=some oe)(hd:oe.data=.fields vs)(h2:vs[2]?=some .none):dg P w (upd H ea (KO ea)) h:=λb u e=>by
 by_cases hb:b=ea
 ·subst hb;rw[Ü] at e;cases e;refine⟨⟨oe,vs,he,hd,h2⟩,⟨oe,he⟩,?_⟩;rintro h1 h2 ⟨o,ws,q1,q2⟩ kk;exact⟨o,ws,kk o q1,q2⟩
 ·rw[Ö hb] at e;exact(k b u e).stay (λ_ _ _ q=>q) (λc q=>by rw[Ö (æ q hn)];exact q) (λc xs q=>by rw[Ö (æ q hn)];exact q) λc xs q=>by rw[Ö (æ q hn)];exact q
section
variable{X:Cx}{cm:String->À}{E:ð->XK}{Ã:List (À×Obj)}{Z:ð}{H Hc:Hp}{s sc:Â}{ea:À}{Cv:Á}{d:Option À}{B:Ë}
def B7(I:Inv X Ã Z Hc sc){fl:Á}(l:vZ X.prog X.w X.stack Hc sc ea Cv d fl H B s)(dn:d=none):Inv X Ã Z (upd H ea (KO ea)) s:=by
 obtain⟨oe,vs,T,oT,ts,he,⟨hc,DR⟩,hd,_,_,_,_,_,_,h2⟩:=l.tr;have hw:dg X.prog X.w (upd H ea (KO ea)) s.heap:=dg.TM (l.hok.kept l.st) l.no he hd (h2 dn);have u:=l.un.un l.st;refine I.call' l.os ⟨u.keep,u.slot,λb o q n hx=>?_,u.there,λb xs q=>?_,λb o v q=>?_,λb ps q=>?_⟩ hw l.bare λb z=>absurd z (by simp)
 ·have hb:b≠ea:=λz=>by rw[z,l.new] at q;cases q
  rw[Ö hb];exact u.free b o q n hx
 ·have q':=u.tups b xs q;rw[Ö (æ q' l.no)];exact q'
 ·have q':=u.eI b o v q;rw[Ö (æ q' l.no)];exact q'
 ·have q':=u.c_ b ps q;rw[Ö (æ q' l.no)];exact q'
variable{C:String}{n:Nat}{fl:List (Str×Nat)}
def vc{E1:XK}{c:Ctx}{F1 H1:Hp}{Z:ð}{U1:û}{D:Ends}{qs:List PV}{vs:List V}(Ð:Ā (kk X cm) c F1 H1 Z U1)(r1:Õ (kk X cm) F1 qs vs)
 (h:Ņ (kk X cm) E c F1 D (if qs.length+1=n/\qs.length<1000/\fl.length<1000 then(match E2 fl qs [] [] with|some (ns,ws)=>if ns=[] then .bad else .exc ⟨C,ns,ws⟩ U1|none=>.bad) else .bad)) :
 vs.length<=sizeLine/\∀x,H1 x=none->E0 n (cm C) fl (.ref x::vs) (upd H1 x (xn x (cm C) none)) (λv H2=>v=.non/\∃d',H2 x=some (xn x (cm C) d')/\E Z (.ref (cm C)) d' (v_ H2 x)/\d'≠none/\∀b u,b≠x->H1 b=some u->H2 b=some u) E1:=by
 split at h
 case isFalse=>exact h.elim
 rename_i hz;cases ex:E2 fl qs [] [] with
 |none=>rw[ex] at h;exact h.elim
 |some z=>
  obtain⟨ns,ws⟩:=z;rw[ex] at h;dsimp only at h;by_cases wf:ns=[]
  ·rw[if_pos wf] at h;exact h.elim
  rw[if_neg wf] at h;refine⟨by rw[<-Õ.length r1,ă];lia,λx hx=>?_⟩;obtain⟨fs,e1,e2,e3⟩:=wU (e:=.ref x) r1 (fs:=[]) ex rfl Õ.nil;refine⟨x,vs,fs,rfl,by rw[<-Õ.length r1];exact hz.1,Ü,hz.2.2,e1,λH' d' q1 q2 q3 q4=>⟨rfl,d',q1,?_,λz=>?_,λb u hb hu=>q3 b u hb (by rw[Ö hb];exact hu)⟩⟩
  ·have TC:GD (v_ H' x) x d' fs:=by
    rcases q2 with q|⟨d0,z1,z2,z3⟩
    ·exact .inl q
    ·exact .inr ⟨d0,z1,by rw[aK z3.1];exact z2,z3⟩
   obtain⟨F',rl,sF,sH,xd,fx⟩:=GG (Ca:=cm C) Ð hx TC (λb u hb q=>by rw[aK hb];exact q3 b u hb q) q4;exact h Z _ _ F' _ rl sF ⟨rfl,fs,xd,e2,Õ.same sF _ _ e3,λz=>absurd z wf⟩
  ·rcases q2 with⟨_,q⟩|⟨d0,q,_⟩
   ·rw[q] at e2;exact wf e2.symm
   ·rw[q] at z;cases z
def E6{H:Hp}{a:À}{o:HO}:v_ (upd H a o) a=v_ H a:=by
 funext b
 by_cases hb:b=a
 ·subst hb;rw[fT,fT]
 ·rw[aK hb,aK hb,Ö hb]
end
section
variable{X:Cx}{cm:String->À}{E:ð->XK}{y x:Str}{Dn C:String}{yp FY Ϩ np Nd cp:Pos}{j:Nat}{rest:List gq}{wj no:List String}{mr:MH}{n:Nat}{f:À}{fl:List (Str×Nat)}{ms:M (List PV)}{e:Å}{es:List Å}
def XRun(X:Cx)(C:À)(n:Nat)(fl:List (Str×Nat)):Prop:=∀(v:Á) (Ã:List (À×Obj)) (Z:ð) (H:Hp) (s:Â) (G:Á->Â->Prop) (us:List Á) (vs:List V) (T:À->Hp->Prop),Inv (markX X v) Ã Z H s->ġ vs us->us.length<=sizeLine->
 (∀x,H x=none->E0 n C fl (.ref x::vs) (upd H x (xn x C none)) (λu H2=>u=.non/\T x H2) (EF Z))->(∀x H2 s',H x=none->s.heap.get? x=none->Inv (markX X v) Ã Z H2 s'->T x H2->G (.ref x) s')->Ç (É X.prog X.w) (X.A.mark (some v)) (call (.ref C) us) G (λ_ _=>False) s
def E7(hg:Gl X y)(hm:X.mg y=some (.ref (cm Dn)))(hex:ar X.K (cm Dn) (.type "BaseException")=some true)
 (Nc:bz (λc=>aq X.K (.ref (cm c)) (.ref (cm Dn))=some true) wj)(Qqq9:bz (λc=>aq X.K (.ref (cm c)) (.ref (cm Dn))=some false) no)
 (XS:zp X E)(TN:X.ex=[])(M:E3 X.K (cm C) f)(Vc:XRun X (cm C) n fl)(Vd:Gl X x)(hm2:X.mg x=some (.ref (cm C)))
 (ha:∀v:Á,PA (markX X v) (e::es) (tL (kk X cm) EF ms))(hrest:PH X cm E rest mr)(gc:(y== ("__debug__" :Str))=false:=by decide)(TQ:(x== ("__debug__" :Str))=false:=by decide)
 (he:È (e::es) X.env=(false,eval e X.env)::È es X.env:=by exact į rfl)(hpl:(ñ Ϩ (È es X.env)).any (·.1)=false:=by rfl) :
 PH X cm E (.ExceptHandler (some (.Name y yp)) none [.Raise (some (.Call (.Name x np) (e::es) [] Ϩ)) (some (.Constant .none j cp)) Nd] FY::rest) (sR wj no (TJ C n fl ms) mr):=by
 intro Ã Z H Hc s sc ea Cv d B D c F0 U px I l rel rx h;have I1:=sO I l;obtain⟨oe,vs,T,oT,ts,FO,⟨hc,DR⟩,hd,_⟩:=id l.tr;obtain⟨eC,fs,Va,wf,Vb,Nx⟩:=rx;have Qt:oe.cls=.ref (cm px.C):=hc.trans eC;refine wpAny_handleBy_cons (codeAny_handlers_test (aW (X:=markX X (.ref ea)) (Inv.mark I1 (.ref ea)) hg hm ?_ gc)) (by intro q;cases q);unfold sR at h;split at h
 ·rename_i hy;split at h
  ·rename_i hn0;have dn:=Nx hn0;refine gK I1.fv (Nc.get hy) hex FO Qt (codeAny_handlers_suite ?_);refine gJ l.st l.fr l.tr λh1 x1 x2 x3 x4=>?_;have l2:=l.move x1 x2 x3 x4;have I2:=Inv.mark (B7 I l2 dn) (.ref ea);have đ:=rel.made (o:=KO ea) l.no;refine lB ?_;rw[arm_exec_Raise];refine Ê (cF ?_);show Ç _ _ (gu X.env (some (do let v <-eval (.Call (.Name x np) (e::es) [] Ϩ) X.env;cD Nd;pure v)) (some (do let v <-eval (.Constant .none j cp) X.env;cD Nd;pure v))) _ _ _;refine B6 (K:=X.K) (hd:=ea) rfl (fun{Q s} q=>?_) (Ê ?_)
   ·exact Ê (Constant_none (Ê (cF (è q))))
   obtain⟨cd,bm,xc⟩:=ju M.x;obtain⟨dd,k0,k1,k2,k3,k5,lC⟩:=xc.at_;have hz:Ť (kk X cm) EF (rL (kk X cm)) c F0 (upd H ea (KO ea)) Z (λvs H1=>(vs.length<=sizeLine/\∀x,H1 x=none->E0 n (cm C) fl (.ref x::vs) (upd H1 x (xn x (cm C) none)) (λv H2=>v=.non/\∃d',H2 x=some (xn x (cm C) d')/\E Z (.ref (cm C)) d' (v_ H2 x)/\d'≠none/\∀b u,b≠x->H1 b=some u->H2 b=some u) (EF Z))/\H1 ea=some (KO ea)) (ms U):=by
    unfold TJ at h;cases em:ms U with
    |bad=>rw[em] at h;exact h.elim
    |exc z U'=>rw[em] at h;exact h.elim
    |ok qs U1=>rw[em] at h;exact λvs F' H' ĵ s1 s2 q=>⟨vc ĵ q (Ņ.mono h s1),s2 _ _ Ü⟩
   refine ı (bM (aW (X:=markX X (.ref ea)) I2 Vd hm2 (cK (h₀:= X.base) I.ok.mod.AT M.kp (ň (ha (.ref ea) Ϩ Ã _ Z _ _ I2 ⟨c,F0,U,đ,hz⟩) λus s1 ⟨vs,H1,I3,r,⟨q0,q⟩,qe⟩=>⟨I3.fv,Vc (.ref ea) Ã Z H1 s1 (λv s₁=>∃e C oe vs oC oh ws,v=.ref e/\X.K.In s₁.heap/\s₁.heap.get? C=some oC/\oC.cls=.type "type" /\ar X.K C (.type "BaseException")=some true/\s₁.heap.get? e=some oe/\oe.cls=.ref C/\oe.data=.fields vs/\vs[1]?=some .none/\4<vs.size/\ea≠e/\s₁.heap.get? ea=some oh/\oh.data=.fields ws/\ws[2]?=some .none/\∀h' ac,h'.get? e=some {oe with data:=.fields ac}->ac[1]?=some .none->(∀b,b≠e->h'.get? b=s₁.heap.get? b)->notedBy (É X.prog X.w) (X.A.mark (some (.ref ea))) X.env (λx s₂=>lG (É X.prog X.w) X.A X.env X.xe x s₂) (.ref e) {s₁ with heap:=h'}) us vs _ I3 r (by rw[<-ġ.length r];exact q0) q λy H2 s' hy0 kx I4 ⟨d',g1,g2,g3,g4⟩=>?_⟩) he hpl) TQ)) (λv s3 h3=>Ê (cF (è h3))) λ_ _ z=>z.elim;obtain⟨⟨oy,ws,ho,F_,TR,DT,Jt⟩,_,_⟩:=(show Ϣ X.prog X.w H2 s'.heap y (xn y (cm C) d') from I4.hok y _ g1);have VT:ea≠y:=λz=>by rw[z,hy0] at qe;cases qe
   obtain⟨⟨oh,wh,a1,a2,a3⟩,_,_⟩:=(show Ϣ X.prog X.w H2 s'.heap ea (KO ea) from I4.hok ea _ (g4 ea _ VT qe));refine⟨y,cm C,oy,ws,_,oh,wh,rfl,I4.fv,I4.fv _ _ lC,rfl,xc.mroIs (by decide),ho,F_,DT,Jt.1,Jt.2.2,VT,a1,a2,a3,λh' ac b1 b2 b3=>?_⟩;have Iw:Inv (markX X (.ref ea)) Ã Z (upd H2 y (xo y (cm C) d')) {s' with heap:=h'}:=Inv.write (x:=y) (e:=y) (t':=s'.toks) I4 (by rw[g1];trivial) (.inl rfl) (λb u hb q=>(b3 b hb).trans q) ⟨_,b1⟩ ⟨⟨_,ac,b1,F_,TR,rfl⟩,⟨_,b1⟩,by
    rintro h1 h2 ⟨o,ws,q1,q2⟩ kk;exact⟨o,ws,kk o q1,q2⟩⟩
   have Iu:Inv X Ã Z (v_ H2 y) {s' with heap:=h'}:=by
    have:=Inv.unmark (Inv.drop Iw Ü) I.ok.hd
    rwa [E6] at this
   exact XS Ã Z (v_ H2 y) _ y _ ac (some (.ref ea)) _ Iu b1 rfl b2 (λz=>absurd (TR.symm.trans z) g3) fT (Inv.KH (Inv.unmark I3 I.ok.hd) TN kx) (by
    show E Z oy.cls oy.dict (v_ H2 y);rw[F_,TR];exact g2)
  ·exact h.elim
 ·split at h
  ·rename_i hn;refine gK I1.fv (Qqq9.get hn) hex FO Qt ?_;exact hrest Ã Z H Hc s sc ea Cv d B D c F0 U px I l rel ⟨eC,fs,Va,wf,Vb,Nx⟩ h
  ·exact h.elim
end
section
variable{CX:dh}{P:Ù}{w:Ô}{K:Æ}{mg:Str->Option Á}{base:Ë}
def wW(A:Ú):Ú:={A with handled:=none}
def Aw{A:Ú}{v:Á}(h:A.handled=some v)(env:Env):((wW A).deeper env).mark (some v)=A.deeper env:=by unfold wW Around.deeper Around.mark;rw[<-h];simp
def OD{f:À}{name ç:Str}{params:aS}{body:List Ï}{scope:ë}{dV kV iu pm ğ ct oc:Á}{an od:Option À}
 {oJ:Array (Option Á)}{N ps:List Str}(lk:K.lookup f=some ⟨oc,od,.func (ş name ç params body scope dV kV iu pm an ğ ct),oJ⟩)(cZ:ei K ğ ç=true)(S:Ý N ps scope)
 {A:Ú}{outer:List Env}{s:Â}{H:Hp}{args:Args}{us:List Á}{vs:List V}{Q:VK}{v:Á}{t:TS}(hA:A.handled=some v)(Ve:A.depth<qP)(e0:oM P w K mg base A outer s H)(hb:aR s (ş name ç params body scope dV kV iu pm an ğ ct) args (ps.zip us))(r:ġ vs us)(hl:vs.length=ps.length)
 (ht:Ϡ (markX (Ň CX P w K mg base N ç scope f ğ (wW A) outer s H λ_ _ _=>False) v) body t)(hq:t {nx:=λ_ H'=>Q .non H',rt:=Q} (L2.start N vs) H) :
 ϕ (É P w) A (.call (.ref f) args) (λr s'=>match r with| .ok (.ret u)=>CE outer P w H s Q u s'|_=>False) s:=by
 have KX:K.In s.heap:=e0.mod.AT.keeps λb o e=>(e0.bs b o e).1;have Qd:s.heap.NoLimit:=e0.mod.nolimit.keeps λb o e=>(e0.bs b o e).1;have vW:∀y∈ps.zip us,scope.names.lookup y.1=some .local\/(scope.names.lookup y.1=some .cell/\((ĥ (s.heap.objs.size+1) scope.names []).lookup y.1).isSome=true):=λ⟨n,v⟩ hy=>by
  rcases S.par n (iF hy).1 with q|q
  ·exact .inl q
  ·exact .inr ⟨q,lN _ _ _ (.inl q)⟩
 refine qQ Ve (KX _ _ lk) rfl S.co S.gen rfl (rS KX cZ) (hb _ _ _ _ ?_);refine qR S.kind vW λenv he s1 x=>?_;subst he;refine⟨Qd.keeps x.toInCall.keep,codeAny_func ?_⟩;have e1:oM P w K mg base (wW A) outer s H:=⟨e0.frames,e0.mod,e0.bs,e0.yJ,e0.fE,e0.AV,e0.hok,e0.bare,e0.tb⟩;have I:Inv (Ň CX P w K mg base N ç scope f ğ (wW A) outer s H λ_ _ _=>False) [] (L2.start N vs) H s1:=jX S rfl e1 hl r x;have run:=ht [] s1 (L2.start N vs) H _ (Inv.mark I v) hq;have eA:(markX (Ň CX P w K mg base N ç scope f ğ (wW A) outer s H λ_ _ _=>False) v).A=A.deeper (ê ç scope s.heap.objs.size f ğ):=Aw hA _;rw[eA] at run;refine ı run (λfl s' hs=>?_) λe s' hs=>hs.elim;have gR:∀{Z':ð} {H':Hp} {v':V} {u:Á},Inv (markX (Ň CX P w K mg base N ç scope f ğ (wW A) outer s H λ_ _ _=>False) v) [] Z' H' s'->RelV v' u->Q v' H'->CE outer P w H s Q u s':=
  fun{Z' H' v' u} J rv q=>⟨v',H',J.os,J.bare,J.base,J.hok,rv,q⟩
 cases fl with
 |ret u=>obtain⟨v,Z',H',J,rv,q⟩:=hs;exact gR J rv q
 |next=>obtain⟨Z',H',J,q⟩:=hs;exact gR (v':=V.non) (u:=Value.none) J rfl q
 |brk=>obtain⟨_,_,_,q⟩:=hs;exact ě q
 |cont=>obtain⟨_,_,_,q⟩:=hs;exact ě q
end
def TU{X:Cx}{C:À}{n k:Nat}{fl:List (Str×Nat)}{x ç:Str}{st:Ï}{f:À}{fd:ú}{N ps:List Str}(hr:Ń (k+1) X.A)(M:E3 X.K C f)(F:yU X.K x ç st f fd)(S:Ý N ps (Î st))(hn:ps.length=n)(hb:Binds X.K fd ps [])
 (ϧ:∀(ğ:Á) (A:Ú) (outer:List Env) (s:Â) (H:Hp) (E:XK) (v:Á),Ϡ (markX (Ň (Ϟ X.prog X.w) X.prog X.w X.K X.mg X.base N ç (Î st) f ğ A outer s H E) v) (ń st) (GF C fl)):XRun X C n fl:=by
 intro v Ã Z H s G us vs T I r hl h kk;subst hn;obtain⟨cd,bm,c⟩:=ju M.x;obtain⟨oc,od,kV,iu,pm,an,ğ,ct,oJ,rfl,lk,cZ⟩:=F.ex;refine GC I.fv c M.init M.fn hl λh' e hm=>?_;obtain⟨t,he,_,_⟩:=hm.there;have hn:H e=none:=lW I.hok hm.new;have I2:Inv (markX X v) Ã Z (upd H e (xn e C none)) {s with heap:=h',toks:=s.toks}:=Inv.OB I hm.keeps hm.new he rfl rfl rfl ⟨rfl,rfl,by simp⟩;obtain⟨a,ac,fs,e1,h2,h3,h4,h5,h6⟩:=h e hn;cases e1;have r2:ġ (V.ref e::vs) (ć e::us):=.cons rfl r;have hlen:(ć e::us ++ []).length=ps.length:=by rw[ϩ,<-r2.length,Ĝ];exact h2
 have zY:=hb {s with heap:=h'} (ć e::us) I2.fv hlen;rw[ϩ] at zY;have Ve:=(hr.make C us []).depth;refine dY (bN (OD (Q:=λu H2=>u=.non/\T e H2) lk cZ S (v:=v) rfl Ve (I2.env0.make C us []) zY r2 (by rw[Ĝ];exact h2) (ϧ ğ _ X.stack _ _ _ v) (wT (vs:=.ref e::vs) (gL rfl) (λj v e=>gL e) h3 (.inl ⟨rfl,rfl⟩) (by simpa using h4) h5 λH' d' q1 q2 q3 q4=>h6 H' d' q1 q2 (λb u hb q=>q3 b u hb (by intro z;cases z) q) λd0 z=>?_)) λr s' vX=>?_)
 ·rcases q4 d0 z with q|q
  ·cases q
  ·exact q
 ·cases r with
  |error e=>exact vX.elim
  |ok fl=>
   cases fl with
   |ret u=>obtain⟨v',H',I3,rv,ev,q3⟩:=I2.after vX;subst ev;exact⟨rv,kk e H' s' hn hm.new I3 q3⟩
   |next=>exact ě vX
   |brk=>exact ě vX
   |cont=>exact ě vX
section
variable{X:Cx}{K:KK}
def B8:List V->Hp->VK->Prop:=λxs H Q=>(∃i,xs=[.int i]/\Q (.int i) H)\/∃k,xs=[.bl k]/\Q (.int (if k then 1 else 0)) H
def KP:ū X (.type "int") B8:=Ag
noncomputable def wX:List PV->Option PV
 | [.int i]=>some (.int i)
 | [.bl k]=>some (.int (if k then 1 else 0))
 |_=>none
def KQ:fQ K B8 wX:=by
 intro c F H Z U ps pv vs Q rel r e k;unfold wX at e;split at e
 ·cases e;obtain⟨v,rfl,r1⟩:=uT r;cases r1.int;exact .inl ⟨_,rfl,k _ F H rel ċ ċ ü.int⟩
 ·cases e;obtain⟨v,rfl,r1⟩:=uT r;cases r1.bl;exact .inr ⟨_,rfl,k _ F H rel ċ ċ ü.int⟩
 ·cases e
def B9:List V->Hp->VK->Prop:=λxs H Q=>∃i,xs=[.int i]/\i.natAbs.log2<1920/\Q (.str (ϙ i)) H
def KR:ū X (.type "str") B9:=sk
noncomputable def E8:List PV->Option PV
 | [.int i]=>if i.natAbs.log2<1920 then some (.str (ϙ i)) else none
 |_=>none
def KS:fQ K B9 E8:=by
 intro c F H Z U ps pv vs Q rel r e k;unfold E8 at e;split at e
 ·split at e
  ·rename_i hz;cases e;obtain⟨v,rfl,r1⟩:=uT r;cases r1.int;exact⟨_,rfl,hz,k _ F H rel ċ ċ ü.str⟩
  ·cases e
 ·cases e
section
end
@[simp] theorem Q2{i:Int}:wX [.int i]=some (.int i):=rfl
@[simp] theorem Q3{b:Bool}:wX [.bl b]=some (.int (if b then 1 else 0)):=rfl
@[simp] theorem Q4{i:Int}:E8 [.int i]=if i.natAbs.log2<1920 then some (.str (ϙ i)) else none:=rfl
end
noncomputable def OE(K:Æ)(C:À):Bool:=je K C eh && lK K C && rK K C && Ĩ K (.ref C) "__setattr__" == some (some (.builtin "object.__setattr__"))
def fU{K:Æ}{C:À}(h:OE K C=true):jS K C:=by unfold OE at h;simp only[Ą,beq_iff_eq] at h;exact⟨h.1.1.1,h.1.1.2,h.1.2,h.2⟩
noncomputable def GI(K:Æ)(C:À)(m:Str)(f:À):Bool:=Ĩ K (.ref C) m== some (some (.ref f)) && jf K (.ref f) && Ō K (.ref f)
def eU{K:Æ}{C f:À}{m:Str}(h:GI K C m f=true):ll K C m f:=by unfold GI at h;simp only[Ą,beq_iff_eq] at h;exact⟨h.1.1,h.1.2,h.2⟩
noncomputable def VU(K:Æ)(C f:À):Bool:=rP K C && Ĩ K (.ref C) "__init__" == some (some (.ref f)) && jf K (.ref f) && Ō K (.ref C)
def kC{K:Æ}{C f:À}(h:VU K C f=true):Mk K C f:=by unfold VU at h;simp only[Ą,beq_iff_eq] at h;exact⟨h.1.1.1,h.1.1.2,h.1.2,h.2⟩
section
variable{U:û}{n k:Nat}{C:String}{cs:List String}{f:Str}{mb:M Fl}{as:List Slot}{ns:List Str}{ps:List PV}
@[simp] theorem Q5:bj n k C mb as=if as.length+1=n then IR.of (mb (.rc C [] []::ì (k-1) as)) else .bad:=rfl
@[simp] theorem TV{C:String}:IR.of (.ok .nx (.rc C ns ps::U))=.ok ns ps:=rfl
@[simp] theorem TW:ī cs f (.ins C ns ps)=if cs.contains C=true then(ns.zip ps).lookup f else none:=rfl
end
end P
namespace M3
open PySem PySem.Spec PyProof.Rows L2 M2
section
variable{X:Cx}{elt tg iter:Å}{ifs:List Å}{scope:ë}{pos:Pos}{wi:TI}{g:TG}{tt:TT}{te:TE}
def E9{iv:Nat}{y:Str}{py wa:Pos}(hN:X.N.Nodup)(XT:X.N[iv]?=some y)(hy:X.env.scope.names.lookup y=some .local)(Qv:Ĳ (.ListComp elt [⟨tg,iter,ifs,0⟩] scope pos) (some (.Name y py)) wa.line X.env=pure true)(N':List Str)(js:List Nat)(nl:Nat)(sc:ë)(zX:X.env.scope=sc)(hcalm:X.calm=true)
 (hi:PI X.ŗ tg iter wi)(hg:∀cl C s H fp,PG (ck X.ŗ N' scope cl C s H fp) tg g)(ht:∀cl C s H fp,Bt (ck X.ŗ N' scope cl C s H fp) ifs tt)(he:∀cl C s H fp,PE (ck X.ŗ N' scope cl C s H fp) elt te)
 (hcap:gU X.ŗ sc scope N' js)(hlen:js.length+nl=N'.length:=by rfl)
 (hk:scope.kind=.function:=by rfl)(hcell:∀y∈scope.names,y.2=.cell->scope.names.lookup y.1=some .cell:=by decide +kernel)(hnames:∀y∈scope.names,y.2=.local->scope.names.lookup y.1=some .local:=by decide +kernel)
 (hfree:∀y∈scope.names,y.2=.free->(sc.names.lookup y.1=some .cell\/sc.names.lookup y.1=some .free):=by decide +kernel)
 (hs:∀x,aQ iter X.env x=pure x:=by intro _;rfl) :
 PS X.ŗ (.Assign [.Name y py] (.ListComp elt [⟨tg,iter,ifs,0⟩] scope pos) wa) (λD Z H=>yW js nl wi g tt te Z H λv H'=>D.nx (Z.set iv (some v)) H'):=by
 intro Ã s Z H D I h;obtain⟨N6,c1,c2,c3⟩:=jj (scope:=scope) (env:=X.ŗ.env) λy hy hf=>I.ok.has y.1 (by
  have:=hfree y hy hf;rw[<-zX] at this;exact this)
 rw[exec_Assign_Name_used _ _ _ _ (show Ĳ _ _ _ X.ŗ.env=pure true from Qv)];refine Ê (cF (Ê ?_));show Ç _ X.A (do let _ <-comprehension (.ListComp elt [⟨tg,iter,ifs,0⟩] scope pos) scope X.ŗ.env _ (newList []) false (eval iter X.ŗ.env) (some (dR (.Name y py) X.ŗ.env))) _ _ s;refine Ê (ı (yj (Q:=λ_ s'=>SP X.ŗ Ã D .next s') (use:=some (dR (.Name y py) X.ŗ.env)) rfl hs c1 hk hnames (ň (hi Ã s Z H _ I h) λv s1 h1=>ň h1 λRP s2 h2=>?_)) (λ_ s' hq=>è (è hq)) λ_ _ e=>e);obtain⟨it,fp,tn,J,H2,e,I2,T,zU,f2,q2⟩:=h2;subst e;refine qS (gW (λh₁ xQ iy J7=>?_));dsimp only at xQ iy J7 ⊢;generalize J8:s2.heap.push {cls:=.type "list",dict:=none,data:=.seq ([]:List Á).toArray}=bV at xQ iy J7 ⊢;have hD:H2 s2.heap.objs.size=none:=I2.hok.fresh (â _);have I3:Inv X.ŗ Ã Z (upd H2 s2.heap.objs.size (.lst [])) {s2 with heap:=bV}:=by rw[<-J8];exact I2.laid (t':=s2.toks) (λb u e=>ô _ e) (â _) ⟨Ÿ _,[],0,.nil,ļ _ rfl⟩
 have EE:∀b∈fp,b<s2.heap.objs.size:=λb hb=>by obtain⟨o,ho,_⟩:=T.obj 0 _ zU b hb;exact í ho
 have J9:bV.objs.size=s2.heap.objs.size+1:=by rw[<-J8,aT]
 have f3:∀b∈fp,gO X.ŗ Ã (upd H2 s2.heap.objs.size (.lst [])) b:=λb hb=>by obtain⟨g0,g1⟩:=f2 b hb;exact⟨by rw[Ö (Ĥ (EE b hb))];exact g0,g1⟩
 have B:=Bu (X:=X.ŗ) (cl:=N6) hcell c2 c3 (λx c e=>by obtain⟨v,o,ho,_⟩:=I3.cell x c e;exact í ho) J7;generalize ĥ (bV.objs.size+1) scope.names N6=cl at B ⊢;obtain⟨W,⟨m0,w0⟩,turn⟩:=q2 s2.heap.objs.size hD;have I4:=pM (X:=X.ŗ) (N':=N') (js:=js) (nl:=nl) (sc:=sc) (scope:=scope) (cl:=cl) (fp:=fp) (h':=h₁) (tk:=s2.toks) zX hk hcap hlen B I3 f3 (λb hb=>by show b<bV.objs.size;rw[J9];exact gl (EE b hb)) xQ iy;have N7:tn 0 h₁:= T.keep 0 _ _ zU λb hb o e=>iy b o (by rw[<-J8];exact ô _ e);have Sw:∀b∈fp,(upd H2 s2.heap.objs.size (.lst [])) b=none:=λb hb=>(f3 b hb).1;have stat:∀{H':Hp},(∀b∈fp,H' b=none)->∀b∈fp,gO (ck X.ŗ N' scope cl bV.objs.size {s2 with heap:=bV} (upd H2 s2.heap.objs.size (.lst [])) fp) [] H' b:=fun{H'} hn b hb=>by
  obtain⟨g0,g1,g2,g3,g4,g5⟩:=f3 b hb;refine⟨hn b hb,Ĥ (by show b<bV.objs.size;rw[J9];exact gl (EE b hb)),λz=>?_,.inl hb,λx c e=>by
   rcases B.at_ x c e with⟨q,_⟩|⟨q,_⟩
   ·exact g4 x c q
   ·exact ai (qK (by show b<bV.objs.size;rw[J9];exact gl (EE b hb)) q),λp hp=>absurd hp (by simp[ck])⟩
  rcases ė.mp (I3.mq b z) with z|z
  ·exact g1 z
  ·exact g2 z
 have loop:∀s₃:Â,s₃= {s2 with heap:=h₁}->
  ϕ (É X.prog X.w) X.A (.compLoop (.ListComp elt [⟨tg,iter,ifs,0⟩] scope pos) 0 (.ref it) (.ref s2.heap.objs.size) (compEnvC scope cl bV.objs.size X.ŗ.env))
   (compPost (É X.prog X.w) X.A X.ŗ.xe (some (dR (.Name y py) X.ŗ.env)) (λ_ s'=>SP X.ŗ Ã D .next s') (.ref s2.heap.objs.size) bV.objs.size) s₃:= by
  rintro s₃ rfl;refine jk (λn s'=>∃i Z' H',Inv (ck X.ŗ N' scope cl bV.objs.size {s2 with heap:=bV} (upd H2 s2.heap.objs.size (.lst [])) fp) [] Z' H' s'/\tn i s'.heap/\(∀b∈fp,H' b=none)/\W i n Z' H') ?_ m0 ⟨0,_,_,I4,N7,Sw,w0⟩;rintro n s5 ⟨i,Z5,H5,I5,Eg,JJ,w5⟩;rcases turn i n Z5 H5 w5 with⟨stop,qn⟩|⟨go,N,hN,step⟩
  ·refine ň (T.done (ck X.ŗ N' scope cl bV.objs.size {s2 with heap:=bV} (upd H2 s2.heap.objs.size (.lst [])) fp) rfl rfl rfl hcalm i [] s5 Z5 H5 (λ_ _=>False) I5 (stat JJ) Eg stop) λr s6 ⟨hr,I6⟩=>?_;subst hr;obtain⟨m,hm,_⟩:=I6.loc;have I7:Inv X.ŗ Ã Z H5 s6:=mH (h':=s6.heap) I3 f3 I6 (λb u hb e=>e);have Xh:bV.objs.size≠X.ŗ.env.locals:=ai I3.lt;have RU:∀x c,X.ŗ.env.cells.lookup x=some c->c≠bV.objs.size:=λx c e z=>by
    obtain⟨v,o,ho,_⟩:=I3.cell x c e;exact absurd (í ho) (by rw[z];exact ϓ _)
   have XU:∀p∈X.ŗ.pn++Ã,p.1≠bV.objs.size:=λp hp z=>by have:=í (I3.pin p hp).1;rw[z] at this;exact ϓ _ this
   have hnC:H5 bV.objs.size=none:=I6.free;refine wpAny_assign_Name (pA (X:=X.ŗ) (i:=iv) I7 hN XT (.inl hy) (v:=.ref s2.heap.objs.size) rfl (λs8 I8 ⟨a8,XV,TY⟩=>?_) (.inr hy));have XW:bV.objs.size≠a8:=by
    rcases TY with rfl|TY
    ·exact Xh
    ·exact λz=>RU _ _ TY z.symm
   refine⟨m,hm.sameBut XV XW,λh' Qi=>⟨_,H5,?_,qn⟩⟩;have kp:∀b o,b≠bV.objs.size->s8.heap.get? b=some o->h'.get? b=some o:=λb o hb e=>Qi.extBut b o hb e;have TZ:∀b o,b∉[bV.objs.size]->s8.heap.get? b=some o->h'.get? b=some o:=λb o hb e=>kp b o (λz=>hb (by rw[z];exact ŧ)) e;refine I8.call' (ch:=[bV.objs.size]) (s':={s8 with heap:=h'}) rfl ⟨λb o e _ _ hx=>TZ b o hx e,λb o e _ _ hx=>⟨o.slots,TZ b o hx e⟩,λb o _ n _=>n,λb o e hx=>⟨o,TZ b o hx e⟩,λ_ _ q=>q,λ_ _ _ q=>q,λ_ ps q=>q⟩ (yV I8.hok hnC kp) I8.bare λb hb=>?_;cases qC.mp hb;exact⟨.inr I3.sz,Xh,RU,XU⟩
  ·refine ň (T.item (ck X.ŗ N' scope cl bV.objs.size {s2 with heap:=bV} (upd H2 s2.heap.objs.size (.lst [])) fp) rfl rfl rfl hcalm i [] s5 Z5 H5 (λ_ _=>False) I5 (stat JJ) Eg go) λr s6 ⟨u,hr,h6⟩=>?_;subst hr;refine ň h6 λ_ s7 ⟨x,H7,I7,r7,y7,Ka,Sx⟩=>?_;have Sy:=I7.pinned (stat Sx) (T.obj _ _ Ka);have again:∀{s8:Â} {Z8:ð} {H8:Hp},Inv (ck X.ŗ N' scope cl bV.objs.size {s2 with heap:=bV} (upd H2 s2.heap.objs.size (.lst [])) fp) ([]++jV fp s7.heap) Z8 H8 s8->
    Inv (ck X.ŗ N' scope cl bV.objs.size {s2 with heap:=bV} (upd H2 s2.heap.objs.size (.lst [])) fp) [] Z8 H8 s8/\tn (i+1) s8.heap/\∀b∈fp,H8 b=none:=fun{s8 Z8 H8} I8=>by
    refine⟨I8.fG,T.keep _ _ _ Ka λb hb o e=>(I8.pin (b,o) (Ŷ _ (Ŷ _ (aH hb e)))).1,λb hb=>?_⟩;obtain⟨o,e,d⟩:=T.obj _ _ Ka b hb;exact(I8.pin (b,o) (Ŷ _ (Ŷ _ (aH hb e)))).2.1
   refine ň (hg cl _ _ _ fp _ s7 Z5 H7 x u _ Sy r7 (step x H7 y7)) λ_ s8 ⟨Z8,H8,I8,q8⟩=>?_;refine ň (ht cl _ _ _ fp _ s8 Z8 H8 _ I8 q8) λc s9 ⟨H9,I9,q9⟩=>?_;cases c with
   |false=>rw[if_neg bI] at q9 ⊢;obtain⟨m',M6,w9⟩:=hN _ _ q9;obtain⟨a1,a2,a3⟩:=again I9;exact⟨m',M6,i+1,Z8,H9,a1,a2,a3,w9⟩
   |true=>rw[if_pos rfl] at q9 ⊢;refine ň (he cl _ _ _ fp _ s9 Z8 H9 _ I9 q9) λyv Sz ⟨y,SA,SD,UW,ys,UX,UY,UZ⟩=>?_;refine ň (aJ _ Sz Z8 SA (.ref s2.heap.objs.size) [y] (.ref s2.heap.objs.size) [yv] (λ_ Kb=>N Z8 Kb) SD rfl (.cons UW .nil) ⟨_,ys,y,rfl,rfl,UX,UY,UZ⟩) λ_ XB ⟨v11,Kb,SE,_,M7⟩=>?_;obtain⟨a1,a2,a3⟩:=again SE;obtain⟨m',M6,M7⟩:=hN _ _ M7;exact⟨m',M6,i+1,Z8,Kb,a1,a2,a3,M7⟩
 exact codeAny_compStart_list (loop _ rfl) (T.self _ 0 _ _ _ N7 (loop _ rfl))
end
end M3
namespace P
open PySem PySem.Spec PyProof.Rows L2 M2 M3 M4
section
variable{X:Cx}{cm:String->À}{E:ð->XK}{elt tg iter:Å}{ifs:List Å}{scope:ë}{pos:Pos}{mi:M (List PV)}{g:Tg}{mt:M Bool}{me:M PV}
theorem PS.ŗ{st:Ï}{t:TS}(h:PS X.ŗ st t):PS X st t:=λÃ s Z H D I hw=>
 ı (h Ã s Z H D (I.wish _) hw) (λ_ _ q=>q.eJ) λ_ _ z=>ě z
def KU{i:Nat}{y:Str}{py wa:Pos}(hN:X.N.Nodup)(Vf:X.N[i]?=some y)(hy:X.env.scope.names.lookup y=some .local)(N':List Str)(js:List Nat)(nl:Nat)(sc:ë)(zX:X.env.scope=sc)(hcalm:X.calm=true)
 (hi:PI X.ŗ tg iter (tI (kk X cm) E mi))(hg:∀cl C s H fp,PG (ck X.ŗ N' scope cl C s H fp) tg (tT (kk X cm) g))(ht:∀cl C s H fp,Bt (ck X.ŗ N' scope cl C s H fp) ifs (tB (kk X cm) EF mt))(he:∀cl C s H fp,PE (ck X.ŗ N' scope cl C s H fp) elt (tV (kk X cm) EF me))
 (hcap:gU X.ŗ sc scope N' js)(hlen:js.length+nl=N'.length:=by rfl)
 (hk:scope.kind=.function:=by rfl)(hcell:∀y∈scope.names,y.2=.cell->scope.names.lookup y.1=some .cell:=by decide +kernel)(hnames:∀y∈scope.names,y.2=.local->scope.names.lookup y.1=some .local:=by decide +kernel)
 (hfree:∀y∈scope.names,y.2=.free->(sc.names.lookup y.1=some .cell\/sc.names.lookup y.1=some .free):=by decide +kernel)
 (hs:∀x,aQ iter X.env x=pure x:=by intro _;rfl)(Qv:Ĳ (.ListComp elt [⟨tg,iter,ifs,0⟩] scope pos) (some (.Name y py)) wa.line X.env=pure true:=by rfl) :
 PS X (.Assign [.Name y py] (.ListComp elt [⟨tg,iter,ifs,0⟩] scope pos) wa) (tS (kk X cm) E (Ř i (Ϥ js nl mi g mt me))):=
 PS.wk (PS.ŗ (E9 hN Vf hy Qv N' js nl sc zX hcalm (Gu hi) hg ht he hcap hlen hk hcell hnames hfree hs)) fun D Z H ⟨c,F,U,rel,h⟩=>uQ ⟨c,F,U,rel,Ņ.bind h fun r U1 v F1 H1 Ð s1 q h1=>by
   cases r with
   |sh p=>exact h1 _ F1 H1 (Ð.put rfl ⟨v,rfl,q⟩) ċ
   |ow ps=>obtain⟨a,vs,rfl,q1,q2,q3,q4,q5⟩:=q;exact h1 _ F1 H1 (Ð.wE ⟨a,vs,rfl,q1,q2,q3,q5⟩ λ_ z=>V.ref.inj z▸q4) ċ
   |ot ps qs rs=>obtain⟨p,a,xs,vs,ys,rfl,q0,qx,q1,q2,q3,q4,q5,q6⟩:=q;exact h1 _ F1 H1 (Ð.wE (s:=.ot ps qs rs) ⟨p,a,xs,vs,ys,rfl,q0,qx,q1,q2,q3,q5,q6⟩ λ_ z=>jo (ps:=ps) (qs:=qs) (rs:=rs) z ⟨p,xs,ys,rfl,q0,qx.length.symm⟩▸q4) ċ
   |bn t ps qs rows=>exact h1 _ F1 H1 (Ð.Kj q) ċ⟩
end
def T_(K:KK)(r:V->List V->Hp->VK->Prop)(f:PV->List PV->Option PV):Prop:=∀{c:Ctx} {F H:Hp} {Z:ð} {U:û} {p:PV} {ps:List PV} {pv:PV} {v:V} {vs:List V} {Q:VK},Ā K c F H Z U->rR K c Z U F H p v->Nk K c Z U F H ps vs->f p ps=some pv->
 (∀z F' H',Ā K c F' H' Z U->Ò F F'->Ò H H'->ü K F' pv z->Q z H')->r v vs H Q
@[simp] def Cb(f:PV→List PV→Option PV)(mo:M PV)(ms:M (List PV))(U:û):Ġ PV:= (mo U).bind fun p U1=>match p with
  | .str _=>(ms U1).bind λps U2=>Ġ.zc (f p ps) U2
  |_=>.bad
section
variable{X:Cx}{cm:String->À}{K:KK}{E:ð->XK}{o e:Å}{es:List Å}{name:Str}{fe Ϩ:Pos}{id:String}{r:V->List V->Hp->VK->Prop}{f:PV->List PV->Option PV}{mo:M PV}{ms:M (List PV)}
def oW(pa:PlainAttrs "str")(slot:PySem.Slot "str" name id)(gd:typeOf (.builtin id)=pure (.type "method_descriptor"))(hf:T_ (kk X cm) r f)(hm:Ni X id r)(ho:PE X o (tR (kk X cm) E mo))(ha:PA X (e::es) (DZ (kk X cm) E ms))
 (bq:ϯ o name X.env (eval o X.env)=eval o X.env:=by rfl)
 (ge:((ñ Ϩ (È (e::es) X.env)).all (fun x=>!x.1) && (ϱ Ϩ (ϲ [] X.env)).all (fun x=>x.1.isSome)
   && decide ((e::es).length+([]:List Ł).length+(if([]:List Ł).isEmpty then 0 else 1)<30))=true:=by rfl)
 (br:(fe.endLine== Ϩ.line)=true:=by rfl)(hs:È (e::es) X.env=(false,eval e X.env)::È es X.env:=by exact į rfl)(ff:(ñ Ϩ (È es X.env)).any (·.1)=false:=by rfl) :
 PE X (.Call (.Attribute o name fe) (e::es) [] Ϩ) (tV (kk X cm) E (Cb f mo ms)):=
 PE.wk (gS pa slot gd hm ho ha bq ge br hs ff) fun Z H Q ⟨c,F,U,rel,h⟩=>⟨c,F,U,rel,Ť.bind h fun p U1 v F1 H1 Ð _ _ r1 h1=>by
   cases p with
   |str z=>
    cases r1.str;refine⟨rfl,c,F1,U1,Ð,Ť.bind h1 λps U2 vs F2 H2 đ sF sH r2 h2=>?_⟩;cases ef:f (.str z) ps with
    |none=>rw[ef] at h2;exact h2.elim
    |some pv=>rw[ef] at h2;exact hf đ (.inl (ü.str (K:=kk X cm) (F:=F2))) r2 ef λz F' H' ĵ s1 s2 q'=>h2 z F' H' ĵ s1 s2 q'
   |_=>exact h1.elim⟩
noncomputable def gh:List PV->Option (List (List Nat))
 | []=>some []
 | .str z::ps=>(gh ps).map (z.cps.toList:: ·)
 |_::_=>none
theorem vd{F:Hp}:∀{ps:List PV} {vs:List V} {bs:List (List Nat)},Õ K F ps vs->gh ps=some bs->vs=bs.map λl=>V.str (S l)
 | [],vs,bs,r,h=>by cases h;cases r.pr;rfl
 |p::ps,vs,bs,r,h=>by
  cases r.pr with
  |cons r1 t=>
   cases p with
   |str z=>unfold gh at h;obtain⟨cs,e,rfl⟩:=iJ.mp h;rw[vd (Õ.of t) e,show _=V.str z from r1,á,Kd]
   |_=>cases h
def bF:PV->List PV->Option PV
 | .str z,[.lst ps]=>(gh ps).bind λys=>if(ys.map aN).sum+ys.length*z.length<=16777216 then some (.str (S (Ĭ z.cps.toList ys))) else none
 |_,_=>none
def cS:T_ K (Bx K.K) bF:=by
 intro c F H Z U p ps pv v vs Q rel r1 r2 e k;unfold bF at e;split at e
 ·rename_i z qs;cases r1.str;obtain⟨u,rfl,r3⟩:=uT r2;obtain⟨a,xs,rfl,h1,h2⟩:=r3.lst rel.sub;obtain⟨ys,eb,e⟩:=qL.mp e;split at e
  ·rename_i hz;cases e;exact⟨ys,by rw[<-vd h2 eb];exact h1,hz,k _ F H rel ċ ċ ü.str⟩
  ·cases e
 ·cases e
noncomputable def jy:PV->List PV->Option PV
 | .str z,[.str y]=>some (.bl (decide (z.cps.toList.take y.cps.toList.length=y.cps.toList)))
 |_,_=>none
def qa:T_ K sx jy:=by
 intro c F H Z U p ps pv v vs Q rel r1 r2 e k;unfold jy at e;split at e
 ·cases r1.str;obtain⟨u,rfl,r3⟩:=uT r2;cases r3.str;cases e;exact k _ F H rel ċ ċ ü.bl
 ·cases e
end
section
variable{X:Cx}{Ã:List (À×Obj)}{Z:ð}{H:Hp}{s:Â}{h':Ë}
def turns{t':Nat}{fp:List À}(I:Inv X Ã Z H s)(k:∀b o,b∉fp->s.heap.get? b=some o->h'.get? b=some o)(hf:∀b∈fp,gO X Ã H b):Inv X Ã Z H {s with heap:=h',toks:=t'}:=by
 have NB:∀b u,H b=some u->b∉fp:=λb u e z=>by rw[(hf b z).1] at e;cases e
 have hL:X.env.locals∉fp:=λz=>(hf _ z).2.1 rfl;refine I.step (g':=s.gens) (d':=s.drawn) (ch:=fp) (λb hb=>?_) (λb o _ _ hc e _=>k b o hc e) (λb o _ _ hc e _=>⟨o.slots,k b o hc e⟩) (λ_ _ _ _ n=>n)
  (λb o hc e=>⟨o,k b o hc e⟩) (λ_ _ e=>e) (λ_ _ _ e=>e) (λb ps e=>e) (λm hm=>?_) (λb u e=>?_) I.bare
 ·obtain⟨f0,f1,f2,f3,f4,f5⟩:=hf b hb;exact⟨f3,f1,f4,f5⟩
 ·obtain⟨o,es,ep,ho,r⟩:=hm;exact⟨o,es,ep,k _ o hL ho,r⟩
 ·refine(I.hok b u e).stay (λc v hc q=>k c v ?_ q) (λ_ q=>q) λ_ _ q=>q;rcases hc with z|z
  ·rw[z];exact NB b u e
  ·exact NB c _ z
def KW{a b:À}{o:HO}(f:gO X Ã H b)(h:b≠a):gO X Ã (upd H a o) b:=⟨by rw[Ö h];exact f.1,f.2⟩
def wY{t':Nat}{fp:List À}{u1 u2:Á}{x1 x2:V}(I:Inv X Ã Z H s)(r1:RelV x1 u1)(r2:RelV x2 u2)(ht:∃o,h'.get? s.heap.objs.size=some o/\o= {cls:=.type "tuple",data:=.seq #[u1,u2]})
 (k:∀b o,b∉fp->s.heap.get? b=some o->h'.get? b=some o)(hf:∀b∈fp,gO X Ã H b)(ku:∀b∈fp,b<s.heap.objs.size) :
 Inv X Ã Z (upd H s.heap.objs.size (.tup [x1,x2])) {s with heap:=h',toks:=t'}:=by
 have I1:Inv X Ã Z (upd H s.heap.objs.size (.tup [x1,x2])) {s with heap:=s.heap.push {cls:=.type "tuple",data:=.seq #[u1,u2]},toks:=s.toks}:=
  I.laid (t':=s.toks) (λb u e=>ô _ e) (â _) ⟨by show 2<=sizeLine;decide,[u1,u2],.cons r1 (.cons r2 .nil),⟨_,ļ _ rfl,rfl,_,rfl⟩⟩
 refine turns (fp:=fp) (s:={s with heap:=s.heap.push {cls:=.type "tuple",data:=.seq #[u1,u2]},toks:=s.toks}) (h':=h') (t':=t') I1 (λb o hb e=>?_) λb hb=>KW (hf b hb) (Ĥ (ku b hb));rcases yB e with⟨rfl,rfl⟩|e
 ·obtain⟨o,h1,h2⟩:=ht;rw[h1,h2]
 ·exact k b o hb e
end
section
end
def VV(K:KK):RR (List PV) V:=λc _ _ F H items v=>∃a,v=.ref a/\(∃xs,ϐ K.K H a xs)/\wF K c.L F (NI K.K a) items
def Cd{K:KK}{L F:Hp}{ps:List PV}{v:V}(h:ü K F (.lst ps) v):∃a,v=.ref a/\(∃xs,ϐ K.K F a xs)/\wF K L F (NI K.K a) ps:=by unfold ü at h;obtain⟨a,vs,rfl,e1,e2⟩:=h;refine⟨a,rfl,⟨vs,e1⟩,?_⟩;intro c' i F2 H2 Z2 U2 đ sF _;have hq:ϐ K.K H2 a vs:=(sF.trans đ.sub).seq e1;refine⟨λp hp=>?_,λhi=>⟨vs,hq,by rw[hi,e2.length];exact â _⟩⟩;obtain⟨u,hu,ru⟩:=bu e2.pr hp;refine⟨⟨vs,u,hq,hu⟩,λx H' ⟨hH,hx⟩=>?_⟩;subst hH;have:vs[i]?=some x:=hx vs hq;rw[hu] at this;cases this;exact⟨F2,đ,Ò.refl _,Ò.refl _,ü.same sF p u ru⟩
@[simp] def Q6(m:M PV)(U:û):Ġ (List PV):= (m U).bind fun p U1=>match p with
  | .lst ps=>.ok ps U1
  |_=>.bad
section
variable{X:Cx}{cm:String->À}{E:ð->XK}{e:Å}{m:M PV}
def T3(h:PE X e (tV (kk X cm) E m)):PE X e (tG (kk X cm) E (VV (kk X cm)) (Q6 m)):=PE.wk h λZ H Q ⟨c,F,U,rel,h⟩=>⟨c,F,U,rel,h.bind λp U1 v F1 H1 Ð s1 s2 q h1=>by
 cases p with
 |lst ps=>obtain⟨a,e1,⟨xs,e2⟩,e3⟩:=Cd (L:=c.L) (show ü (kk X cm) F1 (.lst ps) v from q);exact h1 v F1 H1 Ð ċ ċ ⟨a,e1,⟨xs,Ð.sub.seq e2⟩,e3⟩
 |_=>exact h1.elim⟩
noncomputable def bG:Nat->List PV->List PV
 |_,[]=>[]
 |k,p::ps=>.tup [.int k,p]::bG (k+1) ps
theorem qb:∀(k:Nat) (ps:List PV),(bG k ps).length=ps.length
 |_,[]=>rfl
 |k,_::ps=>congrArg (·+ 1) (qb (k+1) ps)
theorem qc:∀(k:Nat) (ps:List PV) (i:Nat),(bG k ps)[i]?=ps[i]?.map λp=>.tup [.int ((k+i:Nat):Int),p]
 |_,[],_=>rfl
 |k,p::ps,0=>rfl
 |k,p::ps,i+1=>by show(bG (k+1) ps)[i]?=_;rw[qc (k+1) ps i,gj,show k+1+i=k+(i+1) by lia]
def Fa{K:KK}{c:Ctx}{F H:Hp}{Z:ð}{U:û}{T:À}{p q:PV}{x y:V}(rel:Ā K c F H Z U)(hT:H T=none)(r1:ü K F p x)(r2:ü K F q y):Ā K c (upd F T (.tup [x,y])) (upd H T (.tup [x,y])) Z U/\ü K (upd F T (.tup [x,y])) (.tup [p,q]) (.ref T):=by have hF:=rel.sub.free hT;refine⟨rel.alloc hT,?_⟩;unfold ü;exact⟨T,[x,y],rfl,dJ.of Ü,Õ.cons (ü.same (Ò.upd hF) p x r1) (Õ.cons (ü.same (Ò.upd hF) q y r2) Õ.nil)⟩
@[simp] def Fb(i:Nat)(mo:M RV)(U:û):Ġ Fl:= match U[i]? with
  |some (.ow _)=>(mo U).bind λr U1=>match U1[i]?,r with
   |some (.ow ps),.ow qs=>if ps.length+qs.length<=16777216 then .ok .nx (U1.set i (.ow (ps++qs))) else .bad
   |_,_=>.bad
  |_=>.bad
def zq{i:Nat}{mo:M RV}{D:Ends}{Z:ð}{H:Hp}(h:tS (kk X cm) E (Fb i mo) D Z H):jh (Gf X.K "list" yR (bc i) (Bb (tO (kk X cm) E mo) Ba)) D Z H:=by
 obtain⟨c,F,U,rel,h⟩:=h;unfold Fb at h;cases e1:U[i]? with
 |none=>rw[e1] at h;exact h.elim
 |some sl=>
  rw[e1] at h;cases sl with
  |ow QL=>
   obtain⟨a,QM,z1,z2,z3,z4,z5,z6⟩:=rel.ow e1;refine⟨.ref a,z1,.inl ⟨rfl,_,ϐ.of z2⟩,c,F,U,rel,?_⟩;refine Ņ.bind h λr U1 v F1 H1 Ð s1 q h1=>?_;cases e2:U1[i]? with
   |none=>simp only[e2] at h1;exact h1.elim
   |some D9=>
    simp only[e2] at h1;cases D9 with
    |ow ps=>
     cases r with
     |ow qs=>
      obtain⟨b,us,eb,hb1,hb2,hb3,hb4,VW⟩:=q;subst eb;obtain⟨a2,vs,w1,w2,w3,w4,w5,w6⟩:=Ð.ow e2;rw[z1] at w1;cases w1;dsimp only at h1;split at h1
      ·rename_i hz;refine⟨a,b,vs,us,rfl,rfl,w2,hb1,by rw[<-w5.length,<-VW.length,ă];exact hz,h1 Z F1 _ (Ð.write w6 z1 ⟨a,vs++us,rfl,Ü,w3,w4,Õ.append w5 VW⟩ λ_ z=>(V.ref.inj z).symm) ċ⟩
      ·exact h1.elim
     |_=>exact h1.elim
    |_=>exact h1.elim
  |_=>exact h.elim
end
section
end
section
end
section
end
section
end
section
end
def GJ(b:Bool)(h:Ë)(it l:À)(i:Nat):Prop:=if b=true then h.IsTupleIter it l i else h.IsListIter it l i
def XX(b:Bool):String:=if b=true then "tuple_iterator" else "list_iterator"
def GJ.ex{b:Bool}{h:Ë}{it l:À}{i:Nat}(x:GJ b h it l i):∃o,h.get? it=some o/\o.cls=.type (XX b)/\o.data=.fields #[.ref l,.int i 0]:=by
 cases b with
 |true=>exact x
 |false=>exact x
section
end
section
end
section
end
section
end
def KY(K:Æ)(FU:Bool):R2:=λx y H Q=>∃d es a xs,Rp K H d x/\y=.ref a/\(ϐ K H a xs\/dJ K H a xs)/\jY K H es xs/\d.canLay0=true/\d_ es=true/\d.depth<=60/\Q (.bl (if FU then !(es.any λe=>Ģ e d) else es.any λe=>Ģ e d)) H
open Classical in
noncomputable def D_(h:Ë)(d:Ż)(y:Á):Bool:=if ∃e as,Reads h y e as/\e.canLay0=true/\Ģ e d=true then true else false
def Ce{h:Ë}{d e:Ż}{y:Á}{as:List À}(r:Reads h y e as)(hc:e.canLay0=true):D_ h d y=Ģ e d:=by
 unfold D_;cases q:Ģ e d with
 |true=>rw[if_pos ⟨e,as,r,hc,q⟩]
 |false=>rw[if_neg];rintro ⟨e',Xi,r',UO,q'⟩;have:=SeqAt.Reads.unique e e' y as Xi hc r r';subst this;rw[q] at q';cases q'
theorem sS{h:Ë}{d:Ż}:∀{us:List Á} {es:List Ż} {as:List À},ReadsAll h us es as->d_ es=true->us.any (D_ h d)=es.any λe=>Ģ e d
 |_,_,_,.nil,_=>rfl
 |_,_,_,.cons r rs,hc=>by unfold d_ at hc;rw[Ą] at hc;rw[gk,gk,Ce r hc.1,sS rs hc.2]
theorem sT{A:Ú}{s:Â}{d:Ż}{v:Á}{bs:List À}(rv:Reads s.heap v d bs)(hd:d.canLay0=true)(hu:A.units+d.depth<ź):∀{us:List Á} {es:List Ż} {as:List À},ReadsAll s.heap us es as->d_ es=true->∀u∈us,SeqAt.EqAt A s u v (D_ s.heap d u)
 |_,_,_,.nil,_=>λu hu=>by cases hu
 |_,_,_,.cons r rs,hc=>λu hm=>by
  unfold d_ at hc;rw[Ą] at hc;rcases ė.mp hm with rfl|hm
  ·rw[Ce r hc.1];exact SeqAt.eqAt_reads _ _ A s _ _ _ _ r rv hc.1 hd (by lia)
  ·exact sT rv hd hu rs hc.2 u hm
section
variable{X:Cx}
def KZ(hu:X.A.units+64<ź):Ϸ X (Ę .In) (KY X.K false):=by
 intro Ã s Z H x y v u Q I rx ry h;obtain⟨d,es,a,xs,h1,rfl,hq,h3,h4,h5,h6,q⟩:=h;cases ry;obtain⟨as,ra⟩:=Rp.reads I d x v h1 rx;have Xj:X.A.in1.units+d.depth<ź:=by have:X.A.in1.units=X.A.units+1:=rfl;lia
 rcases hq with hq|hq
 ·obtain⟨Ğ,r,pl,hz⟩:=I.list hq;obtain⟨bs,rb⟩:=jY.reads I es xs Ğ h3 r;refine SeqAt.in_listAt (D_ s.heap d) pl.isList (λw hw=>sT ra h4 Xj rb h5 w (by simpa using hw)) ⟨.bl _,H,I,rfl,?_⟩;rw[show Ğ.toArray.any (D_ s.heap d)=Ğ.any (D_ s.heap d) by simp,sS rb h5];exact q
 ·obtain⟨Ğ,r,pl,hz⟩:=I.tuple hq;obtain⟨bs,rb⟩:=jY.reads I es xs Ğ h3 r;refine SeqAt.in_tupleAt (D_ s.heap d) pl (λw hw=>sT ra h4 Xj rb h5 w (by simpa using hw)) ⟨.bl _,H,I,rfl,?_⟩;rw[show Ğ.toArray.any (D_ s.heap d)=Ğ.any (D_ s.heap d) by simp,sS rb h5];exact q
end
noncomputable def DV(FU:Bool)(p q:PV):Option PV:=match q with
 | .lst ps=>if ť p && aB ps && decide (kT p<=60) then some (.bl (if FU then !(ps.any λy=>bH y p) else ps.any λy=>bH y p)) else none
 | .tup ps=>if ť p && aB ps && decide (kT p<=60) then some (.bl (if FU then !(ps.any λy=>bH y p) else ps.any λy=>bH y p)) else none
 |_=>none
theorem sU{p:PV}(h:ť p=true):∀{ps:List PV},aB ps=true->(dA ps).any (λe=>Ģ e (dk p))=ps.any λy=>bH y p
 | [],_=>rfl
 |y::ps,hp=>by unfold aB at hp;rw[Ą] at hp;unfold dA;rw[gk,gk,sI y p hp.1 h,sU h hp.2]
def K_{K:KK}{FU:Bool}:gP K (KY K.K FU) (DV FU):=by
 intro c F H Z U p q pv v u Q rel r1 r2 e k;unfold DV at e;split at e
 ·rename_i ps;split at e
  ·rename_i hc;rw[Ą,Ą,decide_eq_true_eq] at hc;cases e;obtain⟨a,xs,rfl,h1,h2⟩:=r2.lst rel.sub;refine⟨dk p,dA ps,a,xs,gH rel.sub hc.1.1 r1,rfl,.inl h1,jY.same rel.sub _ _ (gG ps xs hc.1.2 h2),eR p hc.1.1,fR ps hc.1.2,by rw[eS];exact hc.2,?_⟩;rw[sU hc.1.1 hc.1.2];exact k _ F H rel ċ ċ ü.bl
  ·cases e
 ·rename_i ps;split at e
  ·rename_i hc;rw[Ą,Ą,decide_eq_true_eq] at hc;cases e;obtain⟨a,xs,rfl,h1,h2⟩:=r2.tup rel.sub;refine⟨dk p,dA ps,a,xs,gH rel.sub hc.1.1 r1,rfl,.inr h1,jY.same rel.sub _ _ (gG ps xs hc.1.2 h2),eR p hc.1.1,fR ps hc.1.2,by rw[eS];exact hc.2,?_⟩;rw[sU hc.1.1 hc.1.2];exact k _ F H rel ċ ċ ü.bl
  ·cases e
 ·cases e
def Fc{x:Int}{n:Nat}(h1: -(2 ^ n:Int)<x)(h2:x<2 ^ n):bits x<=n:=by
 refine intBits_le_iff.mpr ?_;have e:((2 ^ n:Nat):Int)=(2:Int) ^ n:=by simp
 have:((x.natAbs:Nat):Int)<((2 ^ n:Nat):Int):=by rw[e];lia
 lia
def OF{x y:Int}(h:y≠0)(h1: -18446744073709551616<y)(h2:y<18446744073709551616):mZ x y=true:=Ow h (Ő (Fc (n:=64) (by lia) (by lia)) (by decide))
@[simp] theorem Q7{x:Int}{n:Nat}(h:n≠0)(h2:n<18446744073709551616):mZ x (no_index (ϭ n):Int)=true:=by have e:(no_index (ϭ n):Int)=(n:Int):=rfl;rw[e];exact OF (by lia) (by lia) (by lia)
@[simp] theorem Q8{m n:Nat}(h:m<18446744073709551616)(h2:n≤1000000):uR (no_index (ϭ m):Int) (no_index (ϭ n):Int)=true:=by have e:(no_index (ϭ m):Int)=(m:Int):=rfl;have e2:(no_index (ϭ n):Int)=(n:Int):=rfl;rw[e,e2];unfold uR;simp;lia
@[simp] theorem OG{x:Int}{n:Nat}:x.fdiv (no_index (ϭ n):Int)=x / (no_index (ϭ n):Int):=Int.fdiv_eq_ediv_of_nonneg x (Int.natCast_nonneg n)
@[simp] theorem OH{x:Int}{n:Nat}:x.fmod (no_index (ϭ n):Int)=x % (no_index (ϭ n):Int):=Int.fmod_eq_emod_of_nonneg x (Int.natCast_nonneg n)
def ie{xs ys:List PV}(h:xs.length+ys.length<=16777216):ø (.lst xs) (.lst ys)=some (.ow (xs++ys)):=by unfold ø;simp[h]
mutual
theorem jz:∀p:PV,ť p=true->bH p p=true
 | .non,_=>by unfold bH;rfl
 | .bl b,_=>by unfold bH;simp
 | .int i,_=>by unfold bH;simp
 | .str x,_=>by unfold bH;simp
 | .lst xs,h=>by unfold ť at h;unfold bH;exact kc xs h
 | .tup xs,h=>by unfold ť at h;unfold bH;exact kc xs h
 | .ins _ _ _,h=>by simp[ť] at h
 | .xc _ _ _,h=>by simp[ť] at h
 | .ty _,h=>by simp[ť] at h
 | .cls _,h=>by simp[ť] at h
theorem kc:∀ps:List PV,aB ps=true->j_ ps ps=true
 | [],_=>by unfold j_;rfl
 |p::ps,h=>by unfold aB at h;rw[Ą] at h;unfold j_;rw[jz p h.1,kc ps h.2];rfl
end
def qd{p:PV}(h:ť p=true)(hd:kT p<=60):Ŀ p p=some (.bl true):=by unfold Ŀ ng;rw[h,jz p h,decide_eq_true (by lia:min (kT p) (kT p)<=60)];rfl
def Ax{p:PV}(h:ť p=true)(hd:kT p<=60):da p p=some (.bl false):=by unfold da ng;rw[h,jz p h,decide_eq_true (by lia:min (kT p) (kT p)<=60)];rfl
def ŕ{a b:Str}(ha:č a=true)(hb:č b=true):Ŀ (.str a) (.str b)=some (.bl (decide (a=b))):=by
 have h:bH (.str a) (.str b)=decide (a=b):=by unfold bH;rfl
 unfold Ŀ ng;rw[show ť (.str a)=true by unfold ť;exact ha,show ť (.str b)=true by unfold ť;exact hb,h];rfl
section
end
section
end
section
end
def Ā.keep{K:KK}{c:Ctx}{F H H':Hp}{Z:ð}{U:û}(r:Ā K c F H Z U)(e:Ò H H'):Ā K c F H' Z U:= r.call ⟨e,Ò.refl F,r.sub.trans e,λ_ _ h=>h⟩
def Ā.K0{K:KK}{c:Ctx}{F H:Hp}{Z:ð}{U:û}(r:Ā K c F H Z U){i:Nat}{ps qs rs:List PV}(e:U[i]?=some (.ot ps qs rs)):∃F',Ò F F'/\Ā K c F' H Z (U.set i (.sh (.tup (ps ++ .lst qs::rs)))):=by
 obtain⟨p,a,xs,vs,ys,h1,h2,h3,h4,h5,h6,h7,h8⟩:=r.slot i _ e;obtain⟨m1,m2⟩:=r.move (a:=a) ⟨_,_,e,Į h1,p,xs,ys,rfl,h2,h3.length.symm⟩;have ra:ü K (upd F a (.lst vs)) (.lst qs) (.ref a):=by unfold ü;exact⟨a,vs,rfl,ϐ.of Ü,h7.same (Ò.upd h5) qs vs⟩
 have rp:ü K (upd F a (.lst vs)) (.tup (ps ++ .lst qs::rs)) (.ref p):=by unfold ü;exact⟨p,_,rfl,dJ.of (Ò.upd h5 _ _ h2),Õ.append (h3.same (Ò.upd h5) ps xs) (Õ.cons ra (h8.same (Ò.upd h5) rs ys))⟩
 have q:=(m1.freeze h4 h6 h5 m2).BB (i:=i) (s:=.sh (.tup (ps ++ .lst qs::rs))) rfl (show Ĵ K c _ H _ (.sh (.tup (ps ++ .lst qs::rs))) from⟨.ref p,by rw[Į h1];rfl,rp⟩);rw[List.set_set] at q;exact⟨_,Ò.upd h5,q⟩
noncomputable def ve(i:Nat)(m:M Bool):M Bool:=λU=>match U[i]? with
 |some (.ot ps qs rs)=>match m (U.set i (.sh (.tup (ps ++ .lst qs::rs)))) with
  | .ok b _=>.ok b U
  |_=>.bad
 |_=>m U
section
variable{X:Cx}{cm:String->À}{E:ð->XK}{e o:Å}{es:List Å}{pos:Pos}{m:M Bool}{mo:M RV}{ma:M PV}
def K1(i:Nat)(h:PT X e (tB (kk X cm) E m)):PT X e (tB (kk X cm) E (ve i m)):=PT.wk h λZ H Q ⟨c,F,U,rel,h⟩=>by
 unfold ve at h;cases e1:U[i]? with
 |none=>rw[e1] at h;exact⟨c,F,U,rel,h⟩
 |some s=>
  rw[e1] at h;cases s with
  |ot ps qs rs=>
   obtain⟨F',sF,ĵ⟩:=rel.K0 e1;refine⟨c,F',_,ĵ,?_⟩;dsimp only at h;cases em:m (U.set i (.sh (.tup (ps ++ .lst qs::rs)))) with
   |ok b U1=>rw[em] at h;exact λv F2 H2 r1 s1 s2 q=>h v F H2 (rel.keep s2) ċ s2 q
   |exc x U1=>rw[em] at h;exact h.elim
   |bad=>rw[em] at h;exact h.elim
  |_=>exact⟨c,F,U,rel,h⟩
structure K2 where
 ps:List PV
 r:RV
 rs:List PV
def Q9(K:KK):RR K2 (List V):=λc Z U F H r vs=>∃xs v ys,vs=xs++v::ys/\Õ K F r.ps xs/\rO K c Z U F H r.r v/\Õ K F r.rs ys
@[simp] def GK(mo:M RV)(U:û):Ġ K2:= (mo U).bind λr U1=>.ok ⟨[],r,[]⟩ U1
@[simp] def wZ(ma:M PV)(mr:M K2)(U:û):Ġ K2:= (ma U).bind λp U1=>(mr U1).bind λr U2=>.ok ⟨p::r.ps,r.r,r.rs⟩ U2
def K3(he:PE X e (tO (kk X cm) E mo))(hs:È [e] X.env=(false,eval e X.env)::È [] X.env:=by exact į rfl):PA X [e] (tG (kk X cm) E (Q9 (kk X cm)) (GK mo)):=
 PA.wk (Š he aI hs) λZ H Q ⟨c,F,U,rel,h⟩=>⟨c,F,U,rel,h.bind λr U1 v F1 H1 Ð _ _ r1 h1=>h1 _ F1 H1 Ð ċ ċ ⟨[],v,[],rfl,Õ.nil,r1,Õ.nil⟩⟩
def zr{mr:M K2}(ha:PE X e (tV (kk X cm) E ma))(hr:PA X es (tG (kk X cm) E (Q9 (kk X cm)) mr))(hs:È (e::es) X.env=(false,eval e X.env)::È es X.env:=by exact į rfl):PA X (e::es) (tG (kk X cm) E (Q9 (kk X cm)) (wZ ma mr)):=
 PA.wk (Š ha hr hs) λZ H Q ⟨c,F,U,rel,h⟩=>⟨c,F,U,rel,h.bind λp U1 v F1 H1 Ð _ _ r1 h1=>⟨c,F1,U1,Ð,h1.bind λr U2 vs F2 H2 đ sF sH ⟨xs,u,ys,e1,e2,e3,e4⟩ h2=>h2 _ F2 H2 đ ċ ċ ⟨v::xs,u,ys,by rw[e1];rfl,Õ.cons (ü.same sF p v r1) e2,e3,e4⟩⟩⟩
@[simp] def GL(mr:M K2)(U:û):Ġ RV:= (mr U).bind fun r U1=>if r.ps.length+r.rs.length<16777216 then(match r.r with
  | .ow qs=>.ok (.ot r.ps qs r.rs) U1
  | .sh p=>.ok (.sh (.tup (r.ps++p::r.rs))) U1
  |_=>.bad) else .bad
def K4{x1}{mr:M K2}(h:PA X es (tG (kk X cm) E (Q9 (kk X cm)) mr)):PE X (.Tuple es x1 pos) (tO (kk X cm) E (GL mr)):=PE.wk (Bc h) λZ H Q ⟨c,F,U,rel,h⟩=>
 ⟨c,F,U,rel,h.bind fun r U1 vs F1 H1 Ð _ _ ⟨xs,v,ys,e1,e2,e3,e4⟩ h1=>by
   subst e1;split at h1
   ·rename_i hz;refine⟨by rw[ϫ,<-e2.length,ă];simp only[Ĝ,<-e4.length];lia,λp hp=>?_⟩;have đ:=Ð.alloc (o:=.tup (xs++v::ys)) hp;have sF:Ò F1 (upd F1 p (.tup (xs++v::ys))):=Ò.upd (Ð.sub.free hp);obtain⟨ps,rv,rs⟩:=r;cases rv with
    |sh q=>refine h1 _ _ _ đ sF (Ò.upd hp) ?_;show ü _ _ _ _;unfold ü;exact⟨p,_,rfl,dJ.of Ü,Õ.append (e2.same sF ps xs) (Õ.cons (ü.same sF q v e3) (e4.same sF rs ys))⟩
    |ow qs=>
     obtain⟨a,vs,rfl,q1,q2,q3,q4,q5⟩:=e3;have na:a≠p:=λz=>by rw[z,hp] at q1;cases q1
     exact h1 _ _ _ đ sF (Ò.upd hp) ⟨p,a,xs,vs,ys,rfl,Ü,e2.same sF ps xs,by rw[Ö na];exact q1,by rw[Ö na];exact q2,q3,Ð.eO sF q4,q5.same sF qs vs,e4.same sF rs ys⟩
    |ot _ _ _=>exact h1.elim
    |bn _ _ _ _=>exact h1.elim
   ·exact h1.elim⟩
@[simp] theorem T4{ps qs rs:List PV}:(RV.ot ps qs rs).val=.tup (ps ++ .lst qs::rs):=rfl
@[simp] theorem T5{ps qs rs:List PV}:(RV.ot ps qs rs).slot=.ot ps qs rs:=rfl
@[simp] theorem Ra{i:Nat}{U:û}:ve i m U=(match U[i]? with
  |some (.ot ps qs rs)=>match m (U.set i (.sh (.tup (ps ++ .lst qs::rs)))) with
   | .ok b _=>.ok b U
   |_=>.bad
  |_=>m U):=rfl
end
section
end
section
variable{K:KK}{c c':Ctx}{F H:Hp}
def Ĵ.ctx{s:Slot}{x:Option V}(h:Ĵ K c F H x s)(hL:∀a u,c.L a=some u->c'.L a=some u)(hS:∀a d C,c.S a d C->c'.S a d C)(hB:∀b y,x=some y->s.at_ F y b->c.B b=none->c'.B b=none)(hF:∀b u,F b=some u->c.B b=none->c'.B b=none):Ĵ K c' F H x s:=by
 cases s with
 |no=>trivial
 |sh p=>exact h
 |bw ps=>obtain⟨b,vs,h1,h2,h3⟩:=h;exact⟨b,vs,h1,hL _ _ h2,h3⟩
 |ow ps=>obtain⟨b,vs,h1,h2,h3,h4,h5⟩:=h;exact⟨b,vs,h1,h2,h3,hB _ _ h1 rfl h4,h5⟩
 |rc C ns ps=>obtain⟨b,dx,fs,h1,h2,h3,h4,h5,h6,h7⟩:=h;exact⟨b,dx,fs,h1,h2,h3,hB _ _ h1 rfl h4,h5,h6,hS _ _ _ h7⟩
 |ot ps qs rs=>obtain⟨p,b,xs,vs,ys,h1,h2,h3,h4,h5,h6,h7⟩:=h;exact⟨p,b,xs,vs,ys,h1,h2,h3,h4,h5,hB _ _ h1 ⟨p,xs,ys,rfl,h2,h3.length.symm⟩ h6,h7⟩
 |ol kW=>obtain⟨p,as,h1,h2,h3,h4⟩:=h;exact⟨p,as,h1,h2,h3,cP h4 λb ps hb ⟨vs,k1,k2,k3,k4⟩=>⟨vs,k1,k2,hB _ _ h1 ⟨p,as,rfl,h2,hb⟩ k3,k4⟩⟩
 |pw ps=>obtain⟨b,vs,h1,h2,h3,h4,h5,h6⟩:=h;exact⟨b,vs,h1,h2,h3,hB _ _ h1 rfl h4,h5,hS _ _ _ h6⟩
 |fr kW=>obtain⟨p,as,h1,h2,h3,h4,h5,h6⟩:=h;exact⟨p,as,h1,h2,h3,hB _ _ h1 rfl h4,h5,cP h6 λb ps _ ⟨vs,k1,k2,k3⟩=>⟨vs,k1,hF _ _ k1 k2,k3⟩⟩
 |dw cO=>obtain⟨a,ts,h1,h2,h3⟩:=h;exact⟨a,ts,h1,hL _ _ h2,cP h3 λt d _ ⟨xs,b,vs,k1,k2,k3,k4⟩=>⟨xs,b,vs,k1,k2,hL _ _ k3,k4⟩⟩
 |bn qs rows=>obtain⟨v,h0,a,b,ys,vs,h1,h2,h3,h4,h5⟩:=h;exact⟨v,h0,a,b,ys,vs,h1,h2,hF _ _ h1 h3,hF _ _ h2 h4,h5⟩
end
section
end
section
end
section
end
section
end
section
end
open M5
section
end
section
end
section
end
section
end
section
end
def BN:Nat->(List Á->Prop)->Prop
 |0,p=>p []
 |n+1,p=>∀u,BN n λus=>p (u::us)
theorem sW:∀{n:Nat} {p:List Á->Prop},BN n p->∀us,us.length=n->p us
 |0,p,h,[],_=>h
 |0,p,h,_::_,e=>by cases e
 |n+1,p,h,[],e=>by cases e
 |n+1,p,h,u::us,e=>sW (h u) us (Nat.succ.inj e)
structure Df(K:Æ)(mg:Str->Option Á)(x:Str)(st:Ï)(ps:List Str)(f:À)(fd:ú):Prop where
 F:yU K x x st f fd
 m:mg x=some (.ref f)
 b:Binds K fd ps []
 bb:∀(s:Â) (us:List Á),us.length=ps.length->aR s fd ⟨us,[]⟩ (ps.zip us)
structure Dm(K:Æ)(C:À)(x q:Str)(st:Ï)(ps:List Str)(f:À)(fd:ú):Prop where
 F:yU K x q st f fd
 b:Binds K fd ps []
section
variable{K:Æ}{h:Ë}{mg:Str->Option Á}{x q:Str}{st:Ï}{ps:List Str}{f C:À}{oc kV dc pm cd ct:Á}{od an:Option À}{sl:Array (Option Á)}
def ĭ(X:K.In h)(G:h.Ns Ź mg)(hb:∀(kV dc pm:Á) (an:Option À) (cd ct:Á),BN ps.length λus=>bindArgs (ş x x (aY st) (ń st) (Î st) .none kV dc pm an cd ct) ⟨us,[]⟩=pure (ps.zip us))
 (a:PySem.W.nsIn K Ź x=some (some (.ref f)))(l:K.lookup f=some ⟨oc,od,.func (ş x x (aY st) (ń st) (Î st) .none kV dc pm an cd ct),sl⟩)(c:ei K cd x=true)(k:Ō K (.ref f)=true) :
 Df K mg x st ps f (ş x x (aY st) (ń st) (Î st) .none kV dc pm an cd ct):=
 have F:=Bk (st:=st) l c k
 ⟨F,Ă X G a,F.binds λkV dc pm an cd ct us hl=>sW (hb kV dc pm an cd ct) us hl,λs us hl=>.of_eq (sW (hb kV dc pm an cd ct) us hl)⟩
def jA(hb:∀(kV dc pm:Á) (an:Option À) (cd ct:Á),BN ps.length λus=>bindArgs (ş x q (aY st) (ń st) (Î st) .none kV dc pm an cd ct) ⟨us,[]⟩=pure (ps.zip us))
 (a:Ĩ K (.ref C) x=some (some (.ref f)))(l:K.lookup f=some ⟨oc,od,.func (ş x q (aY st) (ń st) (Î st) .none kV dc pm an cd ct),sl⟩)(c:ei K cd q=true)(k:Ō K (.ref f)=true) :
 Dm K C x q st ps f (ş x q (aY st) (ń st) (Î st) .none kV dc pm an cd ct):=
 have F:=Bk (st:=st) l c k
 ⟨F,F.binds λkV dc pm an cd ct us hl=>sW (hb kV dc pm an cd ct) us hl⟩
end
def cT{N ps:List Str}{sc:ë}(h1:sc.kind=.function:=by rfl)(h2:sc.isCoroutine=false:=by rfl)(h3:sc.isGenerator=false:=by rfl)(h4:N.Nodup:=by decide +kernel)(h5:N.take ps.length=ps:=by rfl)(h6:∀x∈ps,sc.names.lookup x=some .local\/sc.names.lookup x=some .cell:=by decide +kernel)
 (h7:∀y∈sc.names,y.2≠ .free:=by decide +kernel):Ý N ps sc:=⟨h1,h2,h3,h4,h5,h6,h7⟩
section
variable{X:Cx}{cm:String->À}{E:ð->XK}{CX:dh}{k j n:Nat}{f:À}{fd:ú}{ps:List Str}{mf:MF}{mr:M (List Slot)}{x:Str}{st:Ï}{p pos:Pos}{e:Å}{es:List Å}
def ò(F:Ď X.prog X.w X.K X.mg X.base CX k f fd ps (bX (kk X cm) n mf))(D:Df X.K X.mg x st ps f fd)(hr:Ń j X.A)(hx:Ľ CX X E)
 (ha:PA X (e::es) (tA (kk X cm) E mr))(hlen:∀{ps:List Slot},(∃r,mf ps=r/\∀z,r=z->z≠ .bad)->ps.length=n:=by exact bh)(hg:Gl X x:=by rfl)(Nf:k<=j:=by decide)(gc:(x== ("__debug__" :Str))=false:=by decide)(he:È (e::es) X.env=(false,eval e X.env)::È es X.env:=by exact į rfl)(hpl:(ñ pos (È es X.env)).any (·.1)=false:=by rfl) :
 PE X (.Call (.Name x p) (e::es) [] pos) (tO (kk X cm) E (Ĕ mf mr)):=Km F hlen (hr.mono Nf) hg D.m D.F.kp D.b hx ha gc he hpl
end
section
variable{Pg:Ù}{w:Ô}{K:Æ}{mg:Str->Option Á}{base:Ë}{CX:dh}{cm:String->À}
def Ϻ{x ç:Str}{st:Ï}{f:À}{fd:ú}{N ps:List Str}{k n j:Nat}{mb:M Fl}{mf:MF}(F:yU K x ç st f fd)(S:Ý N ps (Î st))
 (ϧ:∀(ğ:Á) (A:Ú) (outer:List Env) (s:Â) (H:Hp) (E:XK),Ń k (A.deeper (ê ç (Î st) s.heap.objs.size f ğ))→(A.deeper (ê ç (Î st) s.heap.objs.size f ğ)).units+64<ź→
   Ϡ (Ň CX Pg w K mg base N ç (Î st) f ğ A outer s H E) (ń st) (tS ⟨K,cm⟩ (λ_=>E) mb))(hn:ps.length=n:=by rfl)(hj:N.length=j:=by rfl)(hf:mf=Ţ n j mb:=by rfl):Ď Pg w K mg base CX (k+1) f fd ps (bX ⟨K,cm⟩ n mf):=
 XG F S hn hj hf λğ A outer s H E hr=>ϧ ğ A outer s H E hr hr.units
end
section
end
noncomputable def XY:Å->List Str
 | .Name x _=>[x]
 | .Tuple es _ _=>es.flatMap fun e=>match e with
   | .Name x _=>[x]
   |_=>[]
 |_=>[]
def cN(X:Cx)(js:List Nat)(tg:Å):List Str:=js.map (λ(j:Nat)=>(X.N[j]?).getD "")++XY tg
def XZ{l:List Str}(h:decide l.Nodup=true):l.Nodup:=of_decide_eq_true h
def frB{a b:ë}(h:(a.names.all λy=>decide (y.2=.free->(b.names.lookup y.1=some .cell\/b.names.lookup y.1=some .free)))=true):∀y∈a.names,y.2=.free->(b.names.lookup y.1=some .cell\/b.names.lookup y.1=some .free):=λy hy=>of_decide_eq_true (cx.mp h y hy)
section
end
section
end
section
end
section
variable{X:Cx}{cm:String->À}{E:ð->XK}{a b e:Å}{es:List Å}{ma mb m:M PV}{mo:M RV}{pos p:Pos}
def à{i j pos}:PE X (.Constant (.int i) j pos) (tR (kk X cm) E (mC (.int i))):=ó Ŭ
def Cf{j pos}:PE X (.Constant .none j pos) (tR (kk X cm) E (mC .non)):=ó BC
def ņ{x j pos}:PE X (.Constant (.str x) j pos) (tR (kk X cm) E (mC (.str x))):=ó ĩ
def dB(ha:PE X a (tR (kk X cm) E ma))(hb:PE X b (tR (kk X cm) E mb))(hs:lR b:=by exact λ_ _=>rfl):PE X (.Subscript a b pos) (tV (kk X cm) E (Þ Ķ ma mb)):=Oe Gz Gh ha hb hs
def cq(ha:PE X a (tR (kk X cm) E ma))(hb:PE X b (tR (kk X cm) E mb))(hs:lR b:=by exact λ_ _=>rfl):PE X (.Subscript a b pos) (tR (kk X cm) E (Þ Ķ ma mb)):=ó (dB ha hb hs)
def v_mod(ha:PE X a (tR (kk X cm) E ma))(hb:PE X b (tR (kk X cm) E mb)):PE X (.BinOp a .Mod b pos) (tV (kk X cm) E (Þ ae ma mb)):=mR Ku J4 ha hb
def fV(ha:PE X a (tR (kk X cm) E ma))(hb:PE X b (tR (kk X cm) E mb)):PE X (.BinOp a .Mod b pos) (tR (kk X cm) E (Þ ae ma mb)):=ó (v_mod ha hb)
def v_sub(ha:PE X a (tR (kk X cm) E ma))(hb:PE X b (tR (kk X cm) E mb)):PE X (.BinOp a .Sub b pos) (tV (kk X cm) E (Þ pV ma mb)):=mR Ks J3 ha hb
def OI(ha:PE X a (tR (kk X cm) E ma))(hb:PE X b (tR (kk X cm) E mb)):PE X (.BinOp a .FloorDiv b pos) (tV (kk X cm) E (Þ m_ ma mb)):=mR Kt EB ha hb
def Cg(ha:PE X a (tR (kk X cm) E ma))(hb:PE X b (tR (kk X cm) E mb)):PE X (.BinOp a .FloorDiv b pos) (tR (kk X cm) E (Þ m_ ma mb)):=ó (OI ha hb)
def GN(ha:PE X a (tR (kk X cm) E ma))(hb:PE X b (tR (kk X cm) E mb)):PE X (.BinOp a .Add b pos) (tO (kk X cm) E (Ě ø ma mb)):=Od Kq Kp ha hb
def v_add(ha:PE X a (tR (kk X cm) E ma))(hb:PE X b (tR (kk X cm) E mb)):PE X (.BinOp a .Add b pos) (tV (kk X cm) E (ä (Ě ø ma mb))):=ď (GN ha hb)
def cU(ha:PE X a (tR (kk X cm) E ma))(hb:PE X b (tR (kk X cm) E mb)):PE X (.BinOp a .Add b pos) (tR (kk X cm) E (ä (Ě ø ma mb))):=ó (v_add ha hb)
def dI(hu:X.A.units+64<ź)(ha:PE X a (tR (kk X cm) E ma))(hb:PE X b (tR (kk X cm) E mb)):PT X (.Compare a [.Eq] [b] pos) (tB (kk X cm) E (cn (Þ Ŀ ma mb))):=fg kA (fL hu) ha hb (ŉ _)
def w_(hu:X.A.units+64<ź)(ha:PE X a (tR (kk X cm) E ma))(hb:PE X b (tR (kk X cm) E mb)):PT X (.Compare a [.NotEq] [b] pos) (tB (kk X cm) E (cn (Þ da ma mb))):=fg BK (wD hu) ha hb (ŉ _)
def v_eq(hu:X.A.units+64<ź)(ha:PE X a (tR (kk X cm) E ma))(hb:PE X b (tR (kk X cm) E mb)):PE X (.Compare a [.Eq] [b] pos) (tV (kk X cm) E (Þ Ŀ ma mb)):=ky kA (fL hu) ha hb (ŉ _)
def dC(he:PE X e (tO (kk X cm) E mo)):Ϡ X [.Return (some e) pos] (tS (kk X cm) E (Ī mo)):=ā (Oi he)
def ϥ(he:PE X e (tV (kk X cm) E m)):Ϡ X [.Return (some e) pos] (tS (kk X cm) E (Ī (Ϝ m))):=dC (dr he)
def xa{N ps:List Str}{sc:ë}{i:Nat}{x:Str}{aa:Pos}(S:Ý N ps sc)(he:PE X e (tO (kk X cm) E mo))(hN:X.N=N:=by rfl)(hi:X.N[i]?=some x:=by rfl)(hx:Loc X.env.scope x:=by first|exact ą rfl|exact ÿ rfl)(hs:Ĳ e (some (.Name x aa)) pos.line X.env=pure false:=by rfl)(hf:X.fn x=true\/X.env.scope.names.lookup x=some .local:=by first|exact .inl rfl|exact .inr rfl|assumption) :
 PS X (.Assign [.Name x aa] e pos) (tS (kk X cm) E (Ř i mo)):=Oh (hN▸S.nd) hi hx he hs hf
def aL{N ps:List Str}{sc:ë}{i:Nat}{x:Str}{aa:Pos}{rest:List Ï}{m2:M Fl}(S:Ý N ps sc)(he:PE X e (tO (kk X cm) E mo))(h2:Ϡ X rest (tS (kk X cm) E m2))(hN:X.N=N:=by rfl)(hi:X.N[i]?=some x:=by rfl)(hx:Loc X.env.scope x:=by first|exact ą rfl|exact ÿ rfl)(hs:Ĳ e (some (.Name x aa)) pos.line X.env=pure false:=by rfl)(hf:X.fn x=true\/X.env.scope.names.lookup x=some .local:=by first|exact .inl rfl|exact .inr rfl|assumption) :
 Ϡ X (.Assign [.Name x aa] e pos::rest) (tS (kk X cm) E (Ē (Ř i mo) m2)):=ã (xa S he hN hi hx hs hf) h2
def xb{N ps:List Str}{sc:ë}{i:Nat}{x:Str}(S:Ý N ps sc)(hN:X.N=N:=by rfl)(hi:X.N[i]?=some x:=by rfl)(hx:Loc X.env.scope x:=by first|exact ą rfl|exact ÿ rfl)(hf:X.fn x=true\/X.env.scope.names.lookup x=some .local:=by first|exact .inl rfl|exact .inr rfl|assumption):PG X (.Name x pos) (tT (kk X cm) (gN i)):=BE (hN▸S.nd) hi hx hf
def fW{i:Nat}{x:Str}(hN:X.N.Nodup:=by exact XZ (by kernel_rfl))(hi:X.N[i]?=some x:=by rfl)(hx:Loc X.env.scope x:=by first|exact ą rfl|exact ÿ rfl)(hf:X.fn x=true\/X.env.scope.names.lookup x=some .local:=by first|exact .inl rfl|exact .inr rfl):PG X (.Name x pos) (tT (kk X cm) (gN i)):=BE hN hi hx hf
def ē(i:Nat){x:Str}{px:Pos}{ms:M (List Slot)}(hr:PA X es (tA (kk X cm) E ms))(hN:X.N[i]?=some x:=by rfl)(hv:AU X.env.scope x:=by first|exact ą rfl|exact ÿ (ą rfl)|exact ÿ (ÿ rfl))(hd:(x== ("__debug__" :Str))=false:=by decide)
 (cZ:(x== ("__classdict__" :Str))=false:=by decide)(hs:È (.Name x px::es) X.env=(false,eval (.Name x px) X.env)::È es X.env:=by exact į rfl):PA X (.Name x px::es) (tA (kk X cm) E (é i ms)):=EL i hN hv hd cZ hr hs
def bA{id:String}{x:Str}{r:List V->Hp->VK->Prop}{f:List PV->Option PV}{mr:M (List PV)}(hc:ū X (.builtin id) r)(hf:fQ (kk X cm) r f)(hm:X.mg x=none)(hv:cB x=some (.builtin id))(ha:PA X (e::es) (DZ (kk X cm) E mr))(hg:Gl X x:=by rfl)(hn:x≠ "__name__" := by decide)(gc:(x== ("__debug__" :Str))=false:=by decide)
 (he:È (e::es) X.env=(false,eval e X.env)::È es X.env:=by rfl)(hpl:(ñ pos (È es X.env)).any (·.1)=false:=by rfl):PE X (.Call (.Name x p) (e::es) [] pos) (tV (kk X cm) E (bt f mr)):=PE.wk (mE hc hg hm hv ha hn gc he hpl) λ_ _ _ h=>Og hf h
def ke{T:String}{x:Str}{r:List V->Hp->VK->Prop}{f:List PV->Option PV}{mr:M (List PV)}(hc:ū X (.type T) r)(hf:fQ (kk X cm) r f)(hm:X.mg x=none)(hv:cB x=some (.type T))(ha:PA X (e::es) (DZ (kk X cm) E mr))(hg:Gl X x:=by rfl)(hn:x≠ "__name__" := by decide)(gc:(x== ("__debug__" :Str))=false:=by decide)
 (he:È (e::es) X.env=(false,eval e X.env)::È es X.env:=by rfl)(hpl:(ñ pos (È es X.env)).any (·.1)=false:=by rfl):PE X (.Call (.Name x p) (e::es) [] pos) (tV (kk X cm) E (bt f mr)):=PE.wk (pH hc hg hm hv ha hn gc he hpl) λ_ _ _ h=>Og hf h
def vf{T:String}{x:Str}{r:List V->Hp->VK->Prop}{f:List PV->Option RV}{mr:M (List PV)}(hc:ū X (.type T) r)(hf:BD (kk X cm) r f)(hm:X.mg x=none)(hv:cB x=some (.type T))(ha:PA X (e::es) (DZ (kk X cm) E mr))(hg:Gl X x:=by rfl)(hn:x≠ "__name__" := by decide)(gc:(x== ("__debug__" :Str))=false:=by decide)
 (he:È (e::es) X.env=(false,eval e X.env)::È es X.env:=by rfl)(hpl:(ñ pos (È es X.env)).any (·.1)=false:=by rfl):PE X (.Call (.Name x p) (e::es) [] pos) (tO (kk X cm) E (oQ f mr)):=PE.wk (pH hc hg hm hv ha hn gc he hpl) λ_ _ _ h=>SM hf h
end
section
variable{X:Cx}{cm:String->À}{E:ð->XK}{elt tg iter:Å}{ifs:List Å}{scope:ë}{pos:Pos}{mi:M (List PV)}{g:Tg}{mt:M Bool}{me:M PV}{js:List Nat}{nl:Nat}
structure CF(X:Cx)(js:List Nat)(nl:Nat)(tg iter:Å)(scope:ë):Prop where
 hcap:gU X.ŗ X.env.scope scope (cN X js tg) js
 hcalm:X.calm=true
 hlen:js.length+nl=(cN X js tg).length
 hk:scope.kind=.function
 hcell:∀y∈scope.names,y.2=.cell->scope.names.lookup y.1=some .cell
 hnames:∀y∈scope.names,y.2=.local->scope.names.lookup y.1=some .local
 hfree:∀y∈scope.names,y.2=.free->(X.env.scope.names.lookup y.1=some .cell\/X.env.scope.names.lookup y.1=some .free)
 hs:∀x,aQ iter X.env x=pure x
def cf(hcap:gU X.ŗ X.env.scope scope (cN X js tg) js:=by repeat' first|exact True.intro|refine⟨rfl,⟨rfl,by first|exact ą rfl|exact ÿ rfl⟩,?_⟩)(hcalm:X.calm=true:=by rfl)(hlen:js.length+nl=(cN X js tg).length:=by rfl)
 (hk:scope.kind=.function:=by rfl)(hcell:∀y∈scope.names,y.2=.cell->scope.names.lookup y.1=some .cell:=by decide +kernel)(hnames:∀y∈scope.names,y.2=.local->scope.names.lookup y.1=some .local:=by decide +kernel)
 (hfree:∀y∈scope.names,y.2=.free->(X.env.scope.names.lookup y.1=some .cell\/X.env.scope.names.lookup y.1=some .free):=by exact frB (by kernel_rfl))(hs:∀x,aQ iter X.env x=pure x:=by intro _;rfl):CF X js nl tg iter scope:=⟨hcap,hcalm,hlen,hk,hcell,hnames,hfree,hs⟩
def T6(hi:PI X.ŗ tg iter (tG (kk X cm) E (BH (kk X cm)) mi))(hg:∀{cl C s H fp},PG (ck X.ŗ (cN X js tg) scope cl C s H fp) tg (tT (kk X cm) g))(ht:∀{cl C s H fp},Bt (ck X.ŗ (cN X js tg) scope cl C s H fp) ifs (tB (kk X cm) EF mt))(he:∀{cl C s H fp},PE (ck X.ŗ (cN X js tg) scope cl C s H fp) elt (tV (kk X cm) EF me))(h:CF X js nl tg iter scope:=by exact cf) :
 PE X (.ListComp elt [⟨tg,iter,ifs,0⟩] scope pos) (tO (kk X cm) E (Ϥ js nl mi g mt me)):=EQ (cN X js tg) js nl X.env.scope rfl h.hcalm hi (λ_ _ _ _ _=>hg) (λ_ _ _ _ _=>ht) (λ_ _ _ _ _=>he) h.hcap h.hlen h.hk h.hcell h.hnames h.hfree h.hs
def kf(hi:PI X.ŗ tg iter (tI (kk X cm) E mi))(hg:∀{cl C s H fp},PG (ck X.ŗ (cN X js tg) scope cl C s H fp) tg (tT (kk X cm) g))(ht:∀{cl C s H fp},Bt (ck X.ŗ (cN X js tg) scope cl C s H fp) ifs (tB (kk X cm) EF mt))(he:∀{cl C s H fp},PE (ck X.ŗ (cN X js tg) scope cl C s H fp) elt (tV (kk X cm) EF me))(h:CF X js nl tg iter scope:=by exact cf) :
 PE X (.ListComp elt [⟨tg,iter,ifs,0⟩] scope pos) (tO (kk X cm) E (Ϥ js nl mi g mt me)):=T6 (Gu hi) hg ht he h
def OJ{N ps:List Str}{sc:ë}{i:Nat}{y:Str}{py wa:Pos}(S:Ý N ps sc)(hi:PI X.ŗ tg iter (tI (kk X cm) E mi))(hg:∀{cl C s H fp},PG (ck X.ŗ (cN X js tg) scope cl C s H fp) tg (tT (kk X cm) g))(ht:∀{cl C s H fp},Bt (ck X.ŗ (cN X js tg) scope cl C s H fp) ifs (tB (kk X cm) EF mt))(he:∀{cl C s H fp},PE (ck X.ŗ (cN X js tg) scope cl C s H fp) elt (tV (kk X cm) EF me))
 (h:CF X js nl tg iter scope:=by exact cf)(hN:X.N=N:=by rfl)(Vf:X.N[i]?=some y:=by rfl)(hy:X.env.scope.names.lookup y=some .local:=by rfl)(Qv:Ĳ (.ListComp elt [⟨tg,iter,ifs,0⟩] scope pos) (some (.Name y py)) wa.line X.env=pure true:=by rfl) :
 PS X (.Assign [.Name y py] (.ListComp elt [⟨tg,iter,ifs,0⟩] scope pos) wa) (tS (kk X cm) E (Ř i (Ϥ js nl mi g mt me))):=KU (hN▸S.nd) Vf hy (cN X js tg) js nl X.env.scope rfl h.hcalm hi (λ_ _ _ _ _=>hg) (λ_ _ _ _ _=>ht) (λ_ _ _ _ _=>he) h.hcap h.hlen h.hk h.hcell h.hnames h.hfree h.hs Qv
end
end P
namespace M5
open PySem PySem.Spec PyProof.Rows L2 M2 M3
section
end
section
end
end M5
namespace P
open PySem PySem.Spec PyProof.Rows L2 M2 M3 M5
section
end
end P
namespace PySem
namespace F
end F
section
end
end PySem
namespace P
open PySem PySem.Spec PyProof.Rows L2 M2 M3 M4
section
end
section
end
section
end
section
end
section
end
section
end
section
end
section
end
abbrev OL(α:Type):=Ctx->Hp->α->V->Prop
def OM{α:Type}(K:KK)(RI:OL α)(Lh F:Hp)(J:It)(items:List α):Prop:=∀(c:Ctx) (i:Nat) (F2 H:Hp) (Z:ð) (U:û),Ā K c F2 H Z U->Ò F F2->Ò Lh H->Ò Lh c.L->
 (∀p,items[i]?=some p->J.go i H/\∀x H',J.NH i H x H'->∃F3,Ā K c F3 H' Z U/\Ò F2 F3/\Ò H H'/\RI c F3 p x)/\(i=items.length->J.stop i H)
def K5{α:Type}(K:KK)(RI:OL α):RR (List α) It:=λ_ _ _ F H items J=>OM K RI (aC F H).L F J items
def T7{α:Type}(K:KK)(RI:OL α)(g:α->û->Option û):TG:=λv Z H Q=>∃c F U p,Ā K c F H Z U/\RI c F p v/\Kk K c F H Q (g p U)
noncomputable def cb{α:Type}(g:α->û->Option û)(mt:M Bool)(me:M PV):List α->û->List PV->Option (List PV)
 | [],_,ag=>some ag
 |p::ps,U,ag=>match g p U with
  |none=>none
  |some U1=>match mt U1 with
   | .ok true U2=>match me U2 with
     | .ok q U3=>if ag.length<16777216 then cb g mt me ps U3 (ag ++ [q]) else none
     |_=>none
   | .ok false U2=>cb g mt me ps U2 ag
   |_=>none
def kg{α:Type}(js:List Nat)(nl:Nat)(mi:M (List α))(g:α->û->Option û)(mt:M Bool)(me:M PV):M RV:=λU=>(mi U).bind λitems U1=>match cb g mt me items (jZ js nl U1) [] with
 |some ps=>.ok (.ow ps) U1
 |none=>.bad
section
variable{α:Type}{RI:OL α}{X:Cx}{cm:String->À}{E:ð->XK}{elt tg iter:Å}{ifs:List Å}{scope:ë}{pos:Pos}{mi:M (List α)}{g:α->û->Option û}{mt:M Bool}{me:M PV}
def Ay{js:List Nat}{nl:Nat}{Z:ð}{H:Hp}{Q:VK}(h:tO (kk X cm) E (kg js nl mi g mt me) Z H Q):yW js nl (tG (kk X cm) E (K5 (kk X cm) RI) mi) (T7 (kk X cm) RI g) (tB (kk X cm) EF mt) (tV (kk X cm) EF me) Z H Q:=by
 obtain⟨c,F,U,rel,h⟩:=h;refine⟨c,F,U,rel,h.bind λitems U1 J F1 H1 Ð s1 s2 M8 h1=>?_⟩;intro D hD;have hF:F1 D=none:=Ð.sub.free hD;cases ec:cb g mt me items (jZ js nl U1) [] with
 |none=>rw[ec] at h1;exact h1.elim
 |some res=>
  rw[ec] at h1;refine⟨λi m Z' H'=>∃F' U' ys ag,i<=items.length/\m=items.length-i/\Ā (kk X cm) (oR F1 H1 (upd H1 D (.lst ys))) F' H' Z' U'/\Õ (kk X cm) F' ag ys/\cb g mt me (items.drop i) U' ag=some res,
   ⟨_,F1,_,[],[],Ÿ _,rfl,?_,Õ.nil,ec⟩,?_⟩
  ·exact Ð.cap js nl hD
  ·rintro i m Z2 H2 ⟨F2,U2,ys,ag,Ea,rfl,đ,ra,h2⟩;have M9:Ò F1 F2:=đ.f0;obtain⟨go,stop⟩:=M8 _ i F2 H2 Z2 U2 đ M9 (λb u e=>(đ.lent b u e).1) ċ;have U_:H2 D=some (.lst ys):=đ.base D _ (show upd H1 D _ D=_ from Ü);have fD:F2 D=none:=đ.ba D (by show upd H1 D _ D≠none;rw[Ü];intro z;cases z) hF;by_cases ku:i<items.length
   ·obtain⟨g1,g2⟩:=go items[i] (Ϭ ku);rw[dQ ku] at h2;unfold cb at h2;refine .inr ⟨g1,_,λZ' H' z=>z,λx H3 hy=>?_⟩;obtain⟨F3,dz,s3,SR,rp⟩:=g2 x H3 hy;refine⟨_,F3,U2,items[i],dz,rp,?_⟩;cases eg:g items[i] U2 with
    |none=>rw[eg] at h2;cases h2
    |some U3=>
     rw[eg] at h2;dsimp only at h2;intro Z4 oP;refine⟨_,F3,U3,oP,?_⟩;cases em:mt U3 with
     |bad=>rw[em] at h2;cases h2
     |exc x U4=>rw[em] at h2;cases h2
     |ok b U4=>
      rw[em] at h2;intro b' F5 H5 oS s5 XH eb;have Qqq0:b=b':=eb;subst Qqq0;cases b with
      |false=>rw[if_neg bI];dsimp only at h2;exact⟨items.length-(i+1),by lia,F5,U4,ys,ag,ku,rfl,oS,Õ.same (s3.trans s5) ag ys ra,h2⟩
      |true=>
       rw[if_pos rfl];dsimp only at h2;refine⟨_,F5,U4,oS,?_⟩;cases ee:me U4 with
       |bad=>rw[ee] at h2;cases h2
       |exc x U5=>rw[ee] at h2;cases h2
       |ok q U5=>
        rw[ee] at h2;dsimp only at h2;intro y F6 H6 wK s6 XI rq;split at h2
        ·rename_i hz;have Oj:=Õ.same ((s3.trans s5).trans s6) ag ys ra;refine⟨ys,wK.base D _ (show upd H1 D _ D=_ from Ü),by rw[<-Oj.length,ă];exact hz,?_⟩;exact⟨items.length-(i+1),by lia,F6,U5,ys ++ [y],ag ++ [q],ku,rfl,wK.rebase hD hF,Õ.append Oj (Õ.cons rq Õ.nil),h2⟩
        ·cases h2
   ·have e:i=items.length:=by lia
    refine .inl ⟨stop e,?_⟩;rw[cy (by lia)] at h2;unfold cb at h2;cases h2;have gr:Gr F1 H1 F2 H2:=⟨λb u e=>đ.base b u (by show upd H1 D _ b=_;rw[Ö (æ e hD)];exact e),M9,đ.sub,λb hb hf=>đ.ba b (by
     show upd H1 D _ b≠none;by_cases Qj:b=D
     ·rw[Qj,Ü];intro z;cases z
     ·rw[Ö Qj];exact hb) hf⟩
    have Ko:=Ð.call gr;exact h1 _ F2 H2 Ko M9 gr.h ⟨D,ys,rfl,U_,fD,Ð.base.free hD,Ð.eO gr.f (Ð.fresh hD),ra⟩
def zt(N':List Str)(js:List Nat)(nl:Nat)(sc:ë)(zX:X.env.scope=sc)(hcalm:X.calm=true)
 (hi:PI X.ŗ tg iter (tG (kk X cm) E (K5 (kk X cm) RI) mi))(hg:∀cl C s H fp,PG (ck X.ŗ N' scope cl C s H fp) tg (T7 (kk X cm) RI g))(ht:∀cl C s H fp,Bt (ck X.ŗ N' scope cl C s H fp) ifs (tB (kk X cm) EF mt))(he:∀cl C s H fp,PE (ck X.ŗ N' scope cl C s H fp) elt (tV (kk X cm) EF me))
 (hcap:gU X.ŗ sc scope N' js)(hlen:js.length+nl=N'.length:=by rfl)
 (hk:scope.kind=.function:=by rfl)(hcell:∀y∈scope.names,y.2=.cell->scope.names.lookup y.1=some .cell:=by decide +kernel)(hnames:∀y∈scope.names,y.2=.local->scope.names.lookup y.1=some .local:=by decide +kernel)
 (hfree:∀y∈scope.names,y.2=.free->(sc.names.lookup y.1=some .cell\/sc.names.lookup y.1=some .free):=by decide +kernel)
 (hs:∀x,aQ iter X.env x=pure x:=by intro _;rfl) :
 PE X (.ListComp elt [⟨tg,iter,ifs,0⟩] scope pos) (tO (kk X cm) E (kg js nl mi g mt me)):=
 PE.wk (PE.ŗ (yX N' js nl sc zX hcalm hi hg ht he hcap hlen hk hcell hnames hfree hs)) λ_ _ _ h=>Ay h
end
def ON(K:KK):OL (List PV×List PV):=λc F d v=>∃t xs b vs,v=.ref t/\F t=some (.tup (xs ++ [.ref b]))/\Õ K F d.1 xs/\c.L b=some (.lst vs)/\Õ K F d.2 vs
def kh(i:Nat):M (List (List PV×List PV)):=λU=>match U[i]? with
 |some (.dw cO)=>.ok cO U
 |_=>.bad
section
variable{X:Cx}{cm:String->À}{E:ð->XK}{tg:Å}
def OP(i:Nat){x:Str}{px:Pos}(hN:X.N[i]?=some x:=by rfl)(hv:AU X.env.scope x:=by first|exact ą rfl|exact ÿ (ą rfl)|exact ÿ (ÿ rfl))(hd:(x== ("__debug__" :Str))=false:=by decide)
 (cZ:(x== ("__classdict__" :Str))=false:=by decide):PI X tg (.Name x px) (tG (kk X cm) E (K5 (kk X cm) (ON (kk X cm))) (kh i)):=λÃ s Z H R I h=>by
 obtain⟨c,F,U,rel,h⟩:=h;unfold kh at h;cases e:U[i]? with
 |none=>rw[e] at h;exact h.elim
 |some sl=>
  rw[e] at h;cases sl with
  |dw cO=>
   obtain⟨a,ts,h1,h2,h3⟩:=rel.slot i _ e;refine wG (fF hN hv hd cZ) Ã s Z H R I ⟨.ref a,Į h1,.inl ⟨a,rfl,⟨_,ϐ.of (rel.lent a _ h2).1⟩,h _ F H rel ċ ċ ?_⟩⟩;intro c' j F2 H2 Z2 U2 đ sF sL sc;have hq:ϐ X.K H2 a (ts.map V.ref):=ϐ.of (sL a _ (BI rel h2));refine⟨λd hp=>?_,λhi=>⟨_,hq,by rw[hi,Ŏ,Paired.length h3];exact â _⟩⟩;obtain⟨t,ht,xs,b,vs,k1,k2,k3,k4⟩:=yY h3 hp;have hu:(ts.map V.ref)[j]?=some (.ref t):=by rw[ķ,ht];rfl
   refine⟨⟨_,.ref t,hq,hu⟩,λx H' ⟨hH,hx⟩=>?_⟩;subst hH;have:(ts.map V.ref)[j]?=some x:=hx _ hq;rw[hu] at this;cases this;exact⟨F2,đ,Ò.refl _,Ò.refl _,t,xs,b,vs,rfl,sF _ _ k1,k2.same sF d.1 xs,sc _ _ (BI rel k3),k4.same sF d.2 vs⟩
  |_=>exact h.elim
noncomputable def gD(i j k:Nat):(List PV×List PV)->û->Option û:=λd U=>match d with
 |([p,q],qs)=>some (((U.set i (.sh p)).set j (.sh q)).set k (.bw qs))
 |_=>none
def OQ{i j k:Nat}{x y z:Str}{px py pz pos:Pos}{n:Nat}(hc:X.calm=true)(hN:X.N.Nodup)(hi:X.N[i]?=some x)(hj:X.N[j]?=some y)(hk:X.N[k]?=some z)(hx:Loc X.env.scope x)(hy:Loc X.env.scope y)(hz:Loc X.env.scope z)
 (fx:X.fn x=true\/X.env.scope.names.lookup x=some .local:=by first|exact .inl rfl|exact .inr rfl)(fy:X.fn y=true\/X.env.scope.names.lookup y=some .local:=by first|exact .inl rfl|exact .inr rfl)(fz:X.fn z=true\/X.env.scope.names.lookup z=some .local:=by first|exact .inl rfl|exact .inr rfl) :
 PG X (.Tuple [.Name x px,.Name y py,.Name z pz] n pos) (T7 (kk X cm) (ON (kk X cm)) (gD i j k)):=
 PG.SN (wl hc (dm (gB hN hi hx fx) (dm (gB hN hj hy fy) (dm (gB hN hk hz fz) sj rfl) rfl) rfl) rfl rfl) fun v Z H Q ⟨c,F,U,d,rel,⟨t,xs,b,vs,hv,k1,k2,k3,k4⟩,h⟩=>by
   subst hv;obtain⟨ps,qs⟩:=d;unfold gD at h;rcases ps with _|⟨p,_|⟨q,_|⟨_,_⟩⟩⟩
   ·exact h.elim
   ·exact h.elim
   ·skip
    unfold Õ at k2;obtain⟨u,r,rfl,r1,k2⟩:=k2;unfold Õ at k2;obtain⟨w,r',rfl,r2,k2⟩:=k2;unfold Õ at k2;subst k2;refine⟨t,_,rfl,dJ.of (rel.sub _ _ k1),rfl,u,_,rfl,w,_,rfl,.ref b,_,rfl,rfl,?_⟩;have e1:=rel.put (i:=i) (x:=some u) (s:=.sh p) rfl ⟨u,rfl,r1⟩;have e2:=e1.put (i:=j) (x:=some w) (s:=.sh q) rfl ⟨w,rfl,r2⟩;exact h _ (e2.put (i:=k) (x:=some (.ref b)) (s:=.bw qs) rfl ⟨b,vs,rfl,k3,k4⟩)
   ·exact h.elim
end
open M5
def X_(X:Cx)(cm:String->À)(E:ð->XK)(n:Nat)(C:String)(mi:MI)(ta:TA):TE:=λZ H Q=>ta Z H λvs H1=>∀x dx,H1 x=none->H1 dx=none->dx≠x->wO (kk X cm) n C mi (.ref x::vs) (upd (upd H1 dx (.own x)) x (.ins (cm C) dx [])) (λv H2=>v=.non/\Q (.ref x) H2) (E Z)
section
variable{X:Cx}{cm:String->À}{E:ð->XK}{e:Å}{es:List Å}{pos p:Pos}{CX:dh}{k n:Nat}{f:À}{fd:ú}{ps:List Str}{C:String}{mi:MI}{x:Str}
def OR{ta:TA}(M:Mk X.K (cm C) f)(F:Ď X.prog X.w X.K X.mg X.base CX k f fd ps (wO (kk X cm) n C mi))(hr:Ń (k+1) X.A)(hg:Gl X x)(hm:X.mg x=some (.ref (cm C)))(hb:Binds X.K fd ps [])(hx:Ľ CX X E)
 (ha:PA X (e::es) ta)(gc:(x== ("__debug__" :Str))=false:=by decide)(he:È (e::es) X.env=(false,eval e X.env)::È es X.env:=by exact į rfl)(hpl:(ñ pos (È es X.env)).any (·.1)=false:=by rfl) :
 PE X (.Call (.Name x p) (e::es) [] pos) (X_ X cm E n C mi ta):=by
 intro Ã s Z H Q I h;refine bM (aW I hg hm ?_ gc);refine cK (h₀:= X.base) I.ok.mod.AT M.kp (ň (ha pos Ã s Z H _ I h) λus s1 ⟨vs,H1,I1,r,q⟩=>⟨I1.fv,?_⟩) he hpl;exact pY M F hr hb hx I1 r q
end
noncomputable def d31(r:PV):Slot:=.dw [([.str "ab",.int 3],[r,.non]),([.str "a",.int 1],[.non])]
section
def dE{F:Hp}{Z:ð}{U:û}{a:À}{i:Nat}{x:Option V}{s:Slot}(hs:s.own=false)(h:dq F Z U a):dq F (Z.set i x) (U.set i s) a:=λj q=>by
 have hj:j≠i:=λz=>by
  subst z;obtain⟨s',y,q1,_,q2⟩:=q;rcases œ q1 with⟨_,rfl,_⟩|⟨q,_⟩
  ·have:=eN q2;rw[hs] at this;cases this
  ·exact q rfl
 exact h j (q.off hj)
end
def Fd(i:Nat)(U:û):Bool:=match U[i]? with
 |some (.dw _)=>true
 |_=>false
def OS(b:û->Bool)(m1 m2:M RV):M RV:=λU=>if b U=true then m1 U else m2 U
def T8{X:Cx}{cm:String->À}{E:ð->XK}{e:Å}{m1 m2:M RV}(b:û->Bool)(h1:PE X e (tO (kk X cm) E m1))(h2:PE X e (tO (kk X cm) E m2)):PE X e (tO (kk X cm) E (OS b m1 m2)):=λÃ s Z H Q I ⟨c,F,U,rel,h⟩=>by
 unfold OS at h;split at h
 ·exact h1 Ã s Z H Q I ⟨c,F,U,rel,h⟩
 ·exact h2 Ã s Z H Q I ⟨c,F,U,rel,h⟩
inductive WR where
 |t (i:Nat) (p:PV)|d (i:Nat) (ps:List PV)|l (i:Nat) (p:PV)
def WR.ix:WR->Nat
 | .t i _=>i
 | .d i _=>i
 | .l i _=>i
noncomputable def WR.to(j:Nat):WR->WR
 | .t _ p=>.t j p
 | .d _ ps=>.d j ps
 | .l _ p=>.l j p
def jR(Z:ð)(i:Nat):Option V:=(Z[i]?).getD none
def vg(K:KK)(L B F' H':Hp)(o:Option V)(H2:Hp):WR->Prop
 | .t _ p=>∃a vs v,o=some (.ref a)/\L a=some (.lst vs)/\ü K F' p v/\vs.length<sizeLine/\H2=upd H' a (.lst (vs ++ [v]))
 | .d _ ps=>∃a us t xs b,o=some (.ref a)/\L a=some (.lst us)/\F' t=some (.tup (xs ++ [.ref b]))/\Õ K F' ps xs/\H' b=some (.lst [])/\F' b=none/\B b=none/\H2=upd H' a (.lst (us ++ [.ref t]))
 | .l _ p=>∃a us t xs b vs v,o=some (.ref a)/\L a=some (.lst (us ++ [.ref t]))/\F' t=some (.tup (xs ++ [.ref b]))/\L b=some (.lst vs)/\ü K F' p v/\H2=upd H' b (.lst (vs ++ [v]))
theorem vg.to{K:KK}{L B F' H':Hp}{o:Option V}{H2:Hp}{w:WR}{j:Nat}(h:vg K L B F' H' o H2 w):vg K L B F' H' o H2 (w.to j):=by cases w<;>exact h
def GO{w:WR}{j:Nat}:(w.to j).ix=j:=by cases w<;>rfl
def fX(K:KK)(E:ð->XK)(c:Ctx)(F:Hp)(Z:ð)(n:Nat)(D:Ends):Ġ WR->Prop
 | .ok w U'=>∀Z' F' H' H2,Ā K c F' H' Z' U'->Ò F F'->(∀i,i<n->jR Z' i=jR Z i)->vg K c.L c.B F' H' (jR Z' w.ix) H2 w->D.nx Z' H2
 | .exc x U'=>∀Z' C d F' H',Ā K c F' H' Z' U'->Ò F F'->mO K F' x C d->E Z' C d H'
 | .bad=>False
def tW(K:KK)(E:ð->XK)(n:Nat)(m:M WR):TS:=λD Z H=>∃c F U,Ā K c F H Z U/\fX K E c F Z n D (m U)
section
variable{K:KK}{E:ð->XK}{c:Ctx}{F F1:Hp}{Z:ð}{n:Nat}{D:Ends}
def fX.mono{r:Ġ WR}(h:fX K E c F Z n D r)(sF:Ò F F1):fX K E c F1 Z n D r:=by
 cases r with
 |ok w U'=>exact λZ' F' H' H2 rel s1 e q=>h Z' F' H' H2 rel (sF.trans s1) e q
 |exc x U'=>exact λZ' C d F' H' rel s1 q=>h Z' C d F' H' rel (sF.trans s1) q
 |bad=>exact h
theorem fX.bind{α β:Type}{R:RR α β}{H:Hp}{Q:β->Hp->Prop}{r:Ġ α}{f:α->û->Ġ WR}(h:fX K E c F Z n D (r.bind f))
 (k:∀p U1 v F1 H1,Ā K c F1 H1 Z U1->Ò F F1->Ò H H1->R c Z U1 F1 H1 p v->fX K E c F1 Z n D (f p U1)->Q v H1):Ť K E R c F H Z Q r:=by
 cases r with
 |ok p U'=>exact λv F' H' rel s1 s2 q=>k p U' v F' H' rel s1 s2 q (fX.mono (show fX K E c F Z n D (f p U') from h) s1)
 |exc x U'=>exact λC d F' H' rel s1 q=>h Z C d F' H' rel s1 q
 |bad=>exact h
end
section
variable{X:Cx}{cm:String->À}{E:ð->XK}{a e:Å}{pos:Pos}{n:Nat}{mt:M Bool}{mo:M RV}{me:M PV}{mb:M Fl}{mr m1 m2:M WR}{ss rest Jq:List Ï}
@[simp] def nB(mt:M Bool)(mb:M Fl)(mr:M WR)(U:û):Ġ WR:= (mt U).bind fun b U1=>if b=true then(match mb U1 with
  | .exc x U2=>.exc x U2
  |_=>.bad) else mr U1
def lX(hc:PT X a (tB (kk X cm) E mt))(hb:Ϡ X ss (tS (kk X cm) E mb))(hr:Ϡ X rest (tW (kk X cm) E n mr)):Ϡ X (.If a ss [] pos::rest) (tW (kk X cm) E n (nB mt mb mr)):=
 Ϡ.wk (be (yL hc hb si) hr) λD Z H ⟨c,F,U,rel,h⟩=>⟨c,F,U,rel,fX.bind h λb U1 v F1 H1 Ð s1 _ q h1=>by
  have e:b=v:=q;subst e;cases b with
  |true=>
   rw[if_pos rfl] at h1 ⊢;refine⟨c,F1,U1,Ð,?_⟩;cases em:mb U1 with
   |exc x U2=>rw[em] at h1;exact h1
   |ok f U2=>rw[em] at h1;exact h1.elim
   |bad=>rw[em] at h1;exact h1.elim
  |false=>rw[if_neg bI] at h1 ⊢;exact⟨c,F1,U1,Ð,h1⟩⟩
@[simp] def K6(mt:M Bool)(m1 m2:M WR)(U:û):Ġ WR:= (mt U).bind λb U1=>if b=true then m1 U1 else m2 U1
def OT(hc:PT X a (tB (kk X cm) E mt))(h1:Ϡ X ss (tW (kk X cm) E n m1))(h2:Ϡ X Jq (tW (kk X cm) E n m2)):Ϡ X [.If a ss Jq pos] (tW (kk X cm) E n (K6 mt m1 m2)):=
 Ϡ.wk (eK (yL hc h1 h2)) λD Z H ⟨c,F,U,rel,h⟩=>⟨c,F,U,rel,fX.bind h λb U1 v F1 H1 Ð s1 _ q h1=>by
  have e:b=v:=q;subst e;cases b with
  |true=>rw[if_pos rfl] at h1 ⊢;exact⟨c,F1,U1,Ð,h1⟩
  |false=>rw[if_neg bI] at h1 ⊢;exact⟨c,F1,U1,Ð,h1⟩⟩
def lY{Z:ð}{i j:Nat}{v:Option V}(h:i≠j):jR (Z.set j v) i=jR Z i:=by unfold jR;rw[dN (Ć h)]
@[simp] def GP(i:Nat)(mo:M RV)(mr:M WR)(U:û):Ġ WR:= (mo U).bind λr U1=>mr (U1.set i r.slot)
def fX.set{K:KK}{E:ð->XK}{c:Ctx}{F:Hp}{Z Z1:ð}{D:Ends}{r:Ġ WR}(hs:∀i,i<n->jR Z1 i=jR Z i)(h:fX K E c F Z n D r):fX K E c F Z1 n D r:=by
 cases r with
 |ok w U'=>exact λZ' F' H' H2 rel s1 e q=>h Z' F' H' H2 rel s1 (λi hi=>(e i hi).trans (hs i hi)) q
 |exc x U'=>exact h
 |bad=>exact h
def OU{i:Nat}{x:Str}{aa:Pos}(hN:X.N.Nodup)(hi:X.N[i]?=some x)(hx:Loc X.env.scope x)(he:PE X e (tO (kk X cm) E mo))(hr:Ϡ X rest (tW (kk X cm) E n mr))(hn:n<=i:=by decide)(hs:Ĳ e (some (.Name x aa)) pos.line X.env=pure false:=by rfl)(hf:X.fn x=true\/X.env.scope.names.lookup x=some .local:=by first|exact .inl rfl|exact .inr rfl|assumption) :
 Ϡ X (.Assign [.Name x aa] e pos::rest) (tW (kk X cm) E n (GP i mo mr)):=Ϡ.wk (be (jU hN hi hx he hs hf) hr) λD Z H ⟨c,F,U,rel,h⟩=>⟨c,F,U,rel,fX.bind h λr U1 v F1 H1 Ð s1 _ q h1=>by
 have h2:fX (kk X cm) E c F1 (Z.set i (some v)) n D (mr (U1.set i r.slot)):=fX.set (λj hj=>lY (by lia)) h1;cases r with
 |sh p=>exact⟨c,F1,_,Ð.put (s:=.sh p) rfl ⟨v,rfl,q⟩,h2⟩
 |ow ps=>obtain⟨a,vs,rfl,q1,q2,q3,q4,q5⟩:=q;exact⟨c,F1,_,Ð.wE (s:=.ow ps) ⟨a,vs,rfl,q1,q2,q3,q5⟩ λ_ z=>V.ref.inj z▸q4,h2⟩
 |ot ps qs rs=>obtain⟨p,a,xs,vs,ys,rfl,q0,qx,q1,q2,q3,q4,q5,q6⟩:=q;exact⟨c,F1,_,Ð.wE (s:=.ot ps qs rs) ⟨p,a,xs,vs,ys,rfl,q0,qx,q1,q2,q3,q5,q6⟩ λ_ z=>jo (ps:=ps) (qs:=qs) (rs:=rs) z ⟨p,xs,ys,rfl,q0,qx.length.symm⟩▸q4,h2⟩
 |bn t ps qs rows=>exact⟨c,F1,_,Ð.Kj q,h2⟩⟩
def sX{Z:ð}{i:Nat}{v:V}(h:Z[i]?=some (some v)):jR Z i=some v:=by unfold jR;rw[h];rfl
def vh(i:Nat)(me:M PV):M WR:=λU=>match U[i]? with
 |some (.bw _)=>(me U).bind λp U1=>match U1[i]? with
  |some (.bw ps)=>if ps.length<16777216 then .ok (.t i p) U1 else .bad
  |_=>.bad
 |_=>.bad
def Ch{i:Nat}{D:Ends}{Z:ð}{H:Hp}(h:tW (kk X cm) E n (vh i me) D Z H):jh (Gf X.K "list" gE (bc i) (tL (kk X cm) E (Í me å))) D Z H:=by
 obtain⟨c,F,U,rel,h⟩:=h;unfold vh at h;cases e1:U[i]? with
 |none=>rw[e1] at h;exact h.elim
 |some sl=>
  rw[e1] at h;cases sl with
  |bw QL=>
   obtain⟨a,QM,z1,z2,z3⟩:=rel.slot i _ e1;refine⟨.ref a,Į z1,.inl ⟨rfl,_,ϐ.of (rel.lent a _ z2).1⟩,c,F,U,rel,?_⟩;dsimp only at h;unfold Í;cases em:me U with
   |bad=>rw[em] at h;exact h
   |exc x U1=>rw[em] at h;exact λC d F' H' ĵ s1 q=>h Z C d F' H' ĵ s1 q
   |ok p U1=>
    rw[em] at h;intro us F1 H1 Ð s1 s2 r1;have dM:Õ (kk X cm) F1 [p] us:=r1;cases dM.pr with
    |cons rp t=>
     rename_i v ac;cases t;cases e2:U1[i]? with
     |none=>simp only[Ġ.bW,e2] at h;exact h.elim
     |some D9=>
      simp only[Ġ.bW,e2] at h;cases D9 with
      |bw ps=>
       obtain⟨a2,vs,w1,w2,w5⟩:=Ð.slot i _ e2;rw[z1] at w1;cases w1;dsimp only at h;split at h
       ·rename_i hz;have hl:vs.length<sizeLine:=by rw[<-w5.length,ă];exact hz
        exact⟨a,vs,v,rfl,rfl,(Ð.lent a _ w2).1,hl,h Z F1 H1 _ Ð s1 (λ_ _=>rfl) ⟨a,vs,v,sX (Į z1),w2,rp,hl,rfl⟩⟩
       ·exact h.elim
      |_=>exact h.elim
  |_=>exact h.elim
def K7{i:Nat}{x:Str}{px ap cp:Pos}(ho:PE X (.Name x px) (bc i))(he:PE X e (tV (kk X cm) E me))(bq:ϯ (.Name x px) "append" X.env (eval (.Name x px) X.env)=eval (.Name x px) X.env:=by rfl)
 (ge:((ñ cp (È [e] X.env)).all (λx=>!x.1) && (ϱ cp (ϲ [] X.env)).all (λx=>x.1.isSome) && decide ([e].length+([]:List Ł).length+(if([]:List Ł).isEmpty then 0 else 1)<30))=true:=by rfl)
 (br:(ap.endLine== cp.line)=true:=by rfl)(mn:È [e] X.env=(false,eval e X.env)::È [] X.env:=by exact į rfl)(hpl:(ñ cp (È [] X.env)).any (·.1)=false:=by rfl)(hs:Ĳ (.Call (.Attribute (.Name x px) "append" ap) [e] [] cp) none pos.line X.env=pure false:=by rfl) :
 Ϡ X [.Expr (.Call (.Attribute (.Name x px) "append" ap) [e] [] cp) pos] (tW (kk X cm) E n (vh i me)):=
 Ϡ.wk (eK (aX (gS cG gx ja aJ ho (Û he Ċ mn) bq ge br mn hpl) hs)) λ_ _ _ h=>Ch h
noncomputable def vi(i j:Nat):M WR:=λU=>match U[i]?,U[j]? with
 |some (.dw cO),some (.ot ps [] [])=>if cO.length<16777216 then .ok (.d i ps) (U.set j .no) else .bad
 |_,_=>.bad
def Ci{i j:Nat}{D:Ends}{Z:ð}{H:Hp}(h:tW (kk X cm) E n (vi i j) D Z H):jh (Gf X.K "list" gE (bc i) (Bb (bc j) Ba)) D Z H:=by
 obtain⟨c,F,U,rel,h⟩:=h;unfold vi at h;split at h
 ·rename_i cO ps e1 e2;split at h
  ·rename_i hz;obtain⟨a,ts,z1,z2,z3⟩:=rel.slot i _ e1;obtain⟨p,b,xs,vs,ys,y1,y2,y3,y4,y5,y6,y7,y8⟩:=rel.slot j _ e2;unfold Õ at y7 y8;subst y7 y8;have hl:(ts.map V.ref).length<sizeLine:=by rw[Ŏ,Paired.length z3,ă];exact hz
   refine⟨.ref a,Į z1,.inl ⟨rfl,_,ϐ.of (rel.lent a _ z2).1⟩,.ref p,Į y1,a,_,.ref p,rfl,rfl,(rel.lent a _ z2).1,hl,?_⟩;obtain⟨m1,_⟩:=rel.move ⟨_,_,e2,Į y1,⟨p,xs,[],rfl,y2,y3.length.symm⟩⟩;exact h Z F H _ m1 ċ (λ_ _=>rfl) ⟨a,_,p,xs,b,sX (Į z1),z2,y2,y3,y4,y5,y6,rfl⟩
  ·exact h.elim
 ·exact h.elim
def K8{i j:Nat}{x y:Str}{px py ap cp:Pos}(ho:PE X (.Name x px) (bc i))(he:PE X (.Name y py) (bc j))(bq:ϯ (.Name x px) "append" X.env (eval (.Name x px) X.env)=eval (.Name x px) X.env:=by rfl)
 (ge:((ñ cp (È [.Name y py] X.env)).all (λx=>!x.1) && (ϱ cp (ϲ [] X.env)).all (λx=>x.1.isSome) && decide ([Expr.Name y py].length+([]:List Ł).length+(if([]:List Ł).isEmpty then 0 else 1)<30))=true:=by rfl)
 (br:(ap.endLine== cp.line)=true:=by rfl)(mn:È [.Name y py] X.env=(false,eval (.Name y py) X.env)::È [] X.env:=by exact į rfl)(hpl:(ñ cp (È [] X.env)).any (·.1)=false:=by rfl)(hs:Ĳ (.Call (.Attribute (.Name x px) "append" ap) [.Name y py] [] cp) none pos.line X.env=pure false:=by rfl) :
 Ϡ X [.Expr (.Call (.Attribute (.Name x px) "append" ap) [.Name y py] [] cp) pos] (tW (kk X cm) E n (vi i j)):=
 Ϡ.wk (eK (aX (gS cG gx ja aJ ho (Š he aI mn) bq ge br mn hpl) hs)) λ_ _ _ h=>Ci h
def Fe{α:Type}{l:List α}{x:α}:mF (l ++ [x]) (-1)=some x:=by unfold mF Ge;rw[if_neg (by lia),if_pos (by simp;lia)];show(l ++ [x])[(-1+((l ++ [x]).length:Int)).toNat]?=some x;rw[show(-1+((l ++ [x]).length:Int)).toNat=l.length by simp;lia];simp
abbrev OV(K:Æ)(i:Nat):TE:=Ei (Sj K) (Ei (Sj K) (bc i) (Vz (rU λi=>.int (-i)) (tC (.int 1)))) (tC (.int 2))
theorem zu{α β:Type}{G:α->β->Prop}:∀{l:List α} {m:List β} {y:β},Paired G l m->m.getLast?=some y->∃k x,l=k ++ [x]/\G x y
 |_,_,_,.nil,h=>by cases h
 | [a],[b],y,.cons r .nil,h=>by cases h;exact⟨[],a,rfl,r⟩
 |a::a'::l,b::b'::m,y,.cons r t,h=>by obtain⟨k,x,e,g⟩:=zu t (by rw[xY] at h;exact h);exact⟨a::k,x,by rw[e];rfl,g⟩
def zv{K:KK}{c:Ctx}{F H:Hp}{Z:ð}{U:û}{i:Nat}{cO:List (List PV×List PV)}{d:List PV×List PV}(rel:Ā K c F H Z U)(e:U[i]?=some (.dw cO))(hd:cO.getLast?=some d) :
 ∃a us t xs b vs,Z[i]?=some (some (.ref a))/\c.L a=some (.lst (us ++ [.ref t]))/\F t=some (.tup (xs ++ [.ref b]))/\Õ K F d.1 xs/\c.L b=some (.lst vs)/\Õ K F d.2 vs:=by
 obtain⟨a,ts,z1,z2,z3⟩:=rel.slot i _ e;obtain⟨k,t,rfl,xs,b,vs,k1,k2,k3,k4⟩:=zu z3 hd;exact⟨a,k.map V.ref,t,xs,b,vs,Į z1,by rw[z2,ŀ];rfl,k1,k2,k3,k4⟩
def T9{xs:List V}{y:V}(h:xs.length=2):mF (xs ++ [y]) 2=some y:=by
 match xs,h with
 | [a,b],_=>unfold mF Ge;rw[if_pos (by lia),if_pos (by simp)];rfl
def Cj{K:Æ}{H:Hp}{Z:ð}{i:Nat}{a t b:À}{us xs:List V}{Q:VK}(h1:Z[i]?=some (some (.ref a)))(h2:H a=some (.lst (us ++ [.ref t])))(h3:H t=some (.tup (xs ++ [.ref b])))(hl:xs.length=2)(q:Q (.ref b) H):OV K i Z H Q:=
 ⟨.ref a,h1,1,rfl,.inl ⟨a,_,-1,.ref t,rfl,rfl,ϐ.of h2,Fe,.inr (.inl ⟨t,_,2,.ref b,rfl,rfl,dJ.of h3,T9 hl,q⟩)⟩⟩
def vj(i:Nat)(me:M PV):M WR:=λU=>match U[i]? with
 |some (.dw cO)=>match cO.getLast? with
  |some d=>if d.1.length=2/\d.2.length<16777216 then(me U).bind λp U1=>.ok (.l i p) U1 else .bad
  |none=>.bad
 |_=>.bad
def Ck{i:Nat}{D:Ends}{Z:ð}{H:Hp}(h:tW (kk X cm) E n (vj i me) D Z H):jh (Gf X.K "list" gE (OV X.K i) (tL (kk X cm) E (Í me å))) D Z H:=by
 obtain⟨c,F,U,rel,h⟩:=h;unfold vj at h;split at h
 ·rename_i cO e1;split at h
  ·rename_i d hd;split at h
   ·rename_i hz;obtain⟨a,us,t,xs,b,vs,z1,z2,z3,z4,z5,z6⟩:=zv rel e1 hd;refine Cj z1 (rel.lent a _ z2).1 (rel.sub _ _ z3) (by rw[<-z4.length];exact hz.1) ⟨.inl ⟨rfl,_,ϐ.of (rel.lent b _ z5).1⟩,c,F,U,rel,?_⟩;unfold Í;cases em:me U with
    |bad=>rw[em] at h;exact h
    |exc x U1=>rw[em] at h;exact λC d F' H' ĵ s1 q=>h Z C d F' H' ĵ s1 q
    |ok p U1=>
     rw[em] at h;intro ws F1 H1 Ð s1 s2 r1;have dM:Õ (kk X cm) F1 [p] ws:=r1;cases dM.pr with
     |cons rp u=>rename_i v ac;cases u;exact⟨b,vs,v,rfl,rfl,(Ð.lent b _ z5).1,by rw[<-z6.length,ă];exact hz.2,h Z F1 H1 _ Ð s1 (λ_ _=>rfl) ⟨a,us,t,xs,b,vs,v,sX z1,z2,s1 _ _ z3,z5,rp,rfl⟩⟩
   ·exact h.elim
  ·exact h.elim
 ·exact h.elim
def K9{i:Nat}{o:Å}{ap cp:Pos}(ho:PE X o (OV X.K i))(he:PE X e (tV (kk X cm) E me))(bq:ϯ o "append" X.env (eval o X.env)=eval o X.env:=by rfl)
 (ge:((ñ cp (È [e] X.env)).all (λx=>!x.1) && (ϱ cp (ϲ [] X.env)).all (λx=>x.1.isSome) && decide ([e].length+([]:List Ł).length+(if([]:List Ł).isEmpty then 0 else 1)<30))=true:=by rfl)
 (br:(ap.endLine== cp.line)=true:=by rfl)(mn:È [e] X.env=(false,eval e X.env)::È [] X.env:=by exact į rfl)(hpl:(ñ cp (È [] X.env)).any (·.1)=false:=by rfl)(hs:Ĳ (.Call (.Attribute o "append" ap) [e] [] cp) none pos.line X.env=pure false:=by rfl) :
 Ϡ X [.Expr (.Call (.Attribute o "append" ap) [e] [] cp) pos] (tW (kk X cm) E n (vj i me)):=
 Ϡ.wk (eK (aX (gS cG gx ja aJ ho (Û he Ċ mn) bq ge br mn hpl) hs)) λ_ _ _ h=>Ck h
def La{i:Nat}{x:Str}{px p1 p2 p3 p4 p5:Pos}{j1 j2:Nat}(ho:PE X (.Name x px) (bc i)):PE X (.Subscript (.Subscript (.Name x px) (.UnaryOp .USub (.Constant (.int 1) j1 p1) p2) p3) (.Constant (.int 2) j2 p4) p5) (OV X.K i):=
 Bf wA (Bf wA ho (Gd A5 se) λ_ _=>rfl) se λ_ _=>rfl
noncomputable def nC(i:Nat):M PV:=λU=>match U[i]? with
 |some (.dw cO)=>.ok (.int cO.length) U
 |_=>.bad
noncomputable def vk(i:Nat):M PV:=λU=>match U[i]? with
 |some (.dw cO)=>match cO.getLast? with
  |some d=>if d.1.length=2 then .ok (.int d.2.length) U else .bad
  |none=>.bad
 |_=>.bad
end
inductive FW where
 |ok (w:WR)|exc (x:PX)|bad
abbrev MW:=List Slot->FW
def cV(n k:Nat)(mb:M WR):MW:=λas=>if as.length=n then(match mb (ì k as) with
 | .ok w _=>if w.ix<n then .ok w else .bad
 | .exc x _=>.exc x
 | .bad=>.bad) else .bad
def OW(K:KK)(E:XK)(F H:Hp)(vs:List V)(Q:VK):FW->Prop
 | .ok w=>∀F' H' H2,Gr F H F' H'->vg K (aC F H).L H F' H' (vs[w.ix]?) H2 w->Q .non H2
 | .exc x=>∀C d F' H',Gr F H F' H'->mO K F' x C d->E C d H'
 | .bad=>False
def Lb(K:KK)(n:Nat)(mf:MW):Sp:=λvs H Q E=>∃F as,as.length=n/\Ò F H/\Paired (au K F H) as vs/\OW K E F H vs Q (mf as)
def Az{N:List Str}{vs:List V}{i:Nat}(h:i<vs.length):jR (L2.start N vs) i=vs[i]?:= by
 unfold jR L2.start;rw[Ϫ (by simpa using h),ķ,Ϭ h];rfl
section
variable{Pg:Ù}{w:Ô}{K:Æ}{cm:String->À}{mg:Str->Option Á}{base:Ë}{CX:dh}
def Rb{x ç:Str}{st:Ï}{f:À}{fd:ú}{N ps:List Str}{k n j:Nat}{mb:M WR}{mf:MW}(F:yU K x ç st f fd)(S:Ý N ps (Î st))
 (ϧ:∀(ğ:Á) (A:Ú) (outer:List Env) (s:Â) (H:Hp) (E:XK),Ń k (A.deeper (ê ç (Î st) s.heap.objs.size f ğ))→(A.deeper (ê ç (Î st) s.heap.objs.size f ğ)).units+64<ź→
   Ϡ (Ň CX Pg w K mg base N ç (Î st) f ğ A outer s H E) (ń st) (tW ⟨K,cm⟩ (λ_=>E) ps.length mb))(hn:ps.length=n:=by rfl)(hj:N.length=j:=by rfl)(hf:mf=cV n j mb:=by rfl):Ď Pg w K mg base CX (k+1) f fd ps (Lb ⟨K,cm⟩ n mf):=by
 subst hn hj hf;obtain⟨oc,od,kV,iu,pm,an,ğ,ct,oJ,rfl,lk,cZ⟩:=F.ex;refine uD lk cZ S (λvs H Q E ⟨F,cr,h1,_,h2,_⟩=>by rw[<-Paired.length h2];exact h1) λA outer s H vs Q E hr pq=>?_;obtain⟨F,cr,h1,h2,h3,h4⟩:=pq;refine⟨_,ϧ ğ A outer s H E hr hr.units,aC F H,F,ì N.length cr,Ā.start h2 h3,?_⟩;unfold cV at h4;rw[if_pos h1] at h4;cases e:mb (ì N.length cr) with
 |bad=>rw[e] at h4;exact h4
 |exc x U'=>rw[e] at h4;exact λZ' C d F' H' rel s1 q=>h4 C d F' H' rel.gr q
 |ok w U'=>
  rw[e] at h4;dsimp only at h4;split at h4
  ·rename_i hw;intro Z' F' H' H2 rel s1 hs q;refine h4 F' H' H2 rel.gr ?_;rw[hs _ hw,Az (by rw[<-Paired.length h3,h1];exact hw)] at q;exact q
  ·exact h4.elim
end
noncomputable def fi(U:û):List Nat->Option (List Slot)
 | []=>some []
 |i::is=>((U[i]?).bind bg).bind λs=>(fi U is).map (s:: ·)
theorem nD{K:KK}{c:Ctx}{F H:Hp}{Z:ð}{U:û}(rel:Ā K c F H Z U):∀{ns:List Nat} {as:List Slot},fi U ns=some as->∃vs:List V,ns.map (jR Z)=vs.map some/\Paired (au K F H) as vs
 | [],as,h=>by cases h;exact⟨[],rfl,.nil⟩
 |i::ns,as,h=>by unfold fi at h;obtain⟨s,e1,h⟩:=qL.mp h;obtain⟨Xi,e2,rfl⟩:=iJ.mp h;obtain⟨v,v1,v2⟩:=lU rel e1;obtain⟨vs,q1,q2⟩:=nD rel e2;exact⟨v::vs,by rw[á,á,q1,sX v1],.cons v2 q2⟩
def OX(ns:List Nat):TA:=λZ H Q=>∃vs:List V,ns.map (jR Z)=vs.map some/\Q vs H
def k_:WR->Option Slot->Bool
 | .t _ _,some (.bw _)=>true
 | .d _ _,some (.dw _)=>true
 | .l _ _,some (.dw _)=>true
 |_,_=>false
def Ū(mf:MW)(ns:List Nat):M WR:=λU=>match fi U ns with
 |none=>.bad
 |some as=>match mf as with
  | .ok w=>(match ns[w.ix]? with
    |some j=>if k_ w U[j]?=true then .ok (w.to j) U else .bad
    |none=>.bad)
  | .exc x=>.exc x U
  | .bad=>.bad
section
variable{X:Cx}{cm:String->À}{E:ð->XK}{CX:dh}{k j n m:Nat}{f:À}{fd:ú}{ps:List Str}{mf:MW}{x:Str}{st:Ï}{p pos DW:Pos}{e:Å}{es:List Å}
def sY:PA X [] (OX []):=PA.wk aI λZ H Q ⟨vs,h1,h2⟩=>by
 cases vs with
 |nil=>exact h2
 |cons _ _=>cases h1
def xf{Z:ð}{i:Nat}{v:V}(h:jR Z i=some v):Z[i]?=some (some v):=Į h
def ž(i:Nat){ns:List Nat}{px:Pos}(ho:PE X (.Name x px) (bc i))(hr:PA X es (OX ns))(hs:È (.Name x px::es) X.env=(false,eval (.Name x px) X.env)::È es X.env:=by exact į rfl):PA X (.Name x px::es) (OX (i::ns)):=
 PA.wk (Š ho hr hs) fun Z H Q ⟨vs,h1,h2⟩=>by
   cases vs with
   |nil=>cases h1
   |cons v vs=>
    rw[á,á] at h1;injection h1 with h3 h4
    exact⟨v,xf h3,vs,h4,h2⟩
def jB{sp:Sp}{ta:TA}(F:Ď X.prog X.w X.K X.mg X.base CX k f fd ps sp)(hr:Ń k X.A)(hg:Gl X x)(hm:X.mg x=some (.ref f))(hk:Ō X.K (.ref f)=true)(hb:Binds X.K fd ps [])(hx:Ľ CX X E)
 (ha:PA X (e::es) ta)(gc:(x== ("__debug__" :Str))=false:=by decide)(he:È (e::es) X.env=(false,eval e X.env)::È es X.env:=by exact į rfl)(hpl:(ñ pos (È es X.env)).any (·.1)=false:=by rfl) :
 PE X (.Call (.Name x p) (e::es) [] pos) (λZ H Q=>ta Z H λvs H1=>sp vs H1 Q (E Z)):=by
 intro Ã s Z H Q I h;refine bM (aW I hg hm ?_ gc);refine cK (h₀:= X.base) I.ok.mod.AT hk (ň (ha pos Ã s Z H _ I h) λus s1 ⟨vs,H1,I1,r,q⟩=>⟨I1.fv,?_⟩) he hpl;exact lV F hr hb hx I1 r q
def qf{n k:Nat}{mb:M WR}{ps:List Slot}(h:cV n k mb ps≠ .bad):ps.length=n:=by
 unfold cV at h;by_cases hl:ps.length=n
 ·exact hl
 ·rw[if_neg hl] at h;exact absurd rfl h
def Lc{j:Nat}{p:PV}{o:Option Slot}(h:k_ (.t j p) o=true):∃ps,o=some (.bw ps):=by
 cases o with
 |none=>cases h
 |some s=>cases s<;>first|exact⟨_,rfl⟩|cases h
def Ld{j:Nat}{p:List PV}{o:Option Slot}(h:k_ (.d j p) o=true):∃ps,o=some (.dw ps):=by
 cases o with
 |none=>cases h
 |some s=>cases s<;>first|exact⟨_,rfl⟩|cases h
def Le{j:Nat}{p:PV}{o:Option Slot}(h:k_ (.l j p) o=true):∃ps,o=some (.dw ps):=by
 cases o with
 |none=>cases h
 |some s=>cases s<;>first|exact⟨_,rfl⟩|cases h
def vm{F:Hp}{t b b':À}{xs ys:List V}(h:F t=some (.tup (xs ++ [.ref b])))(h':F t=some (.tup (ys ++ [.ref b']))):b=b':=by
 rw[h] at h';injection h' with h'
 injection h' with h'
 have:=(List.append_inj' h' rfl).2;injection this with this
 injection this
def OY{K:KK}{c:Ctx}{F H F' H' H2:Hp}{Z:ð}{U:û}{i:Nat}{w:WR}(rel:Ā K c F H Z U)(g:Gr F H F' H')(hs:k_ w U[i]?=true)(h:vg K (aC F H).L H F' H' (jR Z i) H2 w):vg K c.L c.B F' H' (jR Z i) H2 w:=by
 have VX:∀{cO:List (List PV×List PV)} {a:À} {us:List V},U[i]?=some (.dw cO)->jR Z i=some (.ref a)->(aC F H).L a=some (.lst us)->c.L a=some (.lst us)/\∃ts:List À,us=ts.map V.ref/\∀t∈ts,∃xs b vs,F t=some (.tup (xs ++ [.ref b]))/\c.L b=some (.lst vs):=by intro cO a us e h1 h2;obtain⟨a',ts,q1,q2,q3⟩:=rel.slot i _ e;have e2:=Į q1;rw[xf h1] at e2;cases e2;have e3:=(rel.lent a _ q2).1;rw[(ű h2).1] at e3;cases e3;refine⟨q2,ts,rfl,λt ht=>?_⟩;obtain⟨j,hj⟩:=xZ ht;obtain⟨d,_,xs,b,vs,k1,_,k3,_⟩:=bu q3 hj;exact⟨xs,b,vs,k1,k3⟩
 cases w with
 |t j p=>obtain⟨ps,e⟩:=Lc hs;obtain⟨a,vs,v,h1,h2,h3⟩:=h;obtain⟨a',ac,q1,q2,q3⟩:=rel.slot i _ e;have e2:=Į q1;rw[xf h1] at e2;cases e2;have e3:=(rel.lent a _ q2).1;rw[(ű h2).1] at e3;cases e3;exact⟨a,vs,v,h1,q2,h3⟩
 |d j ps=>obtain⟨cO,e⟩:=Ld hs;obtain⟨a,us,t,xs,b,h1,h2,h3,h4,h5,h6,h7,h8⟩:=h;exact⟨a,us,t,xs,b,h1,(VX e h1 h2).1,h3,h4,h5,h6,rel.base.free h7,h8⟩
 |l j p=>
  obtain⟨cO,e⟩:=Le hs;obtain⟨a,us,t,xs,b,vs,v,h1,h2,h3,h4,h5⟩:=h;obtain⟨g1,ts,g2,g3⟩:=VX e h1 h2;have ht:t∈ts:=by
   have:V.ref t∈ts.map V.ref:=by rw[<-g2];simp
   obtain⟨t',m1,m2⟩:=ĸ.mp this;injection m2 with m2
   exact m2▸m1
  obtain⟨xs',b',ac,k1,k2⟩:=g3 t ht;have eb:=vm (g.f _ _ k1) h3;subst eb;have e3:=(rel.lent b' _ k2).1;rw[(ű h4).1] at e3;cases e3;exact⟨a,us,t,xs,b',vs,v,h1,g1,h3,k2,h5⟩
def w_call(F:Ď X.prog X.w X.K X.mg X.base CX k f fd ps (Lb (kk X cm) m mf))(D:Df X.K X.mg x st ps f fd)(hr:Ń j X.A)(hx:Ľ CX X E){ns:List Nat}(ha:PA X (e::es) (OX ns))
 (hlen:∀{as:List Slot},mf as≠ .bad->as.length=m:=by exact qf)(hg:Gl X x:=by rfl)(Nf:k<=j:=by decide)(gc:(x== ("__debug__" :Str))=false:=by decide)(he:È (e::es) X.env=(false,eval e X.env)::È es X.env:=by exact į rfl)(hpl:(ñ pos (È es X.env)).any (·.1)=false:=by rfl)(hs:Ĳ (.Call (.Name x p) (e::es) [] pos) none DW.line X.env=pure false:=by rfl) :
 Ϡ X [.Expr (.Call (.Name x p) (e::es) [] pos) DW] (tW (kk X cm) E n (Ū mf ns)):=
 Ϡ.wk (eK (aX (jB F (hr.mono Nf) hg D.m D.F.kp D.b hx ha gc he hpl) hs)) λD Z H ⟨c,F,U,rel,h⟩=>by
  unfold Ū at h;cases el:fi U ns with
  |none=>rw[el] at h;exact h.elim
  |some as=>
   rw[el] at h;dsimp only at h;obtain⟨vs,v1,v2⟩:=nD rel el;refine⟨vs,v1,F,as,hlen λz=>?_,rel.sub,v2,?_⟩
   ·rw[z] at h;exact h
   ·cases em:mf as with
    |bad=>rw[em] at h;exact h
    |exc x=>rw[em] at h;exact λC d F' H' g rx=>h Z C d F' H' (rel.call g) g.f rx
    |ok w=>
     rw[em] at h;dsimp only at h;cases ej:ns[w.ix]? with
     |none=>rw[ej] at h;exact h.elim
     |some i=>
      rw[ej] at h;dsimp only at h;split at h
      ·rename_i hok;intro F' H' H2 g hw;have ev:vs[w.ix]?=jR Z i:=by
        have:=congrArg (λl=>l[w.ix]?) v1;simp only[ķ,ej,Option.map_some] at this;cases ev:vs[w.ix]? with
        |none=>rw[ev] at this;cases this
        |some v=>rw[ev] at this;injection this with this;exact this.symm
       rw[ev] at hw;have:=OY rel g hok hw;refine h Z F' H' H2 (rel.call g) g.f (λ_ _=>rfl) ?_;rw[GO];exact this.to
      ·exact h.elim
end
section
variable{X:Cx}{cm:String->À}{E:ð->XK}{e:Å}{p pos:Pos}
def sZ(i:Nat){x:Str}{px:Pos}(hm:X.mg "len" =none)(ho:PE X (.Name x px) (bc i))(hg:Gl X "len" := by rfl)(he:È [.Name x px] X.env=(false,eval (.Name x px) X.env)::È [] X.env:=by exact į rfl)(hpl:(ñ pos (È [] X.env)).any (·.1)=false:=by rfl) :
 PE X (.Call (.Name "len" p) [.Name x px] [] pos) (tV (kk X cm) E (nC i)):=PE.wk (mE š hg hm Ļ (Š ho aI he) (he:=he) (hpl:=hpl)) λZ H Q ⟨c,F,U,rel,h⟩=>by
 unfold nC at h;split at h
 ·rename_i cO e;obtain⟨a,ts,z1,z2,z3⟩:=rel.slot i _ e;refine⟨.ref a,Į z1,ts.map V.ref,.inl (ϐ.of (rel.lent a _ z2).1),h _ F H rel ċ ċ ?_⟩;show ü _ _ _ _;unfold ü;rw[Ŏ,Paired.length z3]
 ·exact h.elim
def Cm(i:Nat){o:Å}(hm:X.mg "len" =none)(ho:PE X o (OV X.K i))(hg:Gl X "len" := by rfl)(he:È [o] X.env=(false,eval o X.env)::È [] X.env:=by exact į rfl)(hpl:(ñ pos (È [] X.env)).any (·.1)=false:=by rfl) :
 PE X (.Call (.Name "len" p) [o] [] pos) (tV (kk X cm) E (vk i)):=PE.wk (mE š hg hm Ļ (Š ho aI he) (he:=he) (hpl:=hpl)) λZ H Q ⟨c,F,U,rel,h⟩=>by
 unfold vk at h;split at h
 ·rename_i cO e;split at h
  ·rename_i d hd;split at h
   ·rename_i hl;obtain⟨a,us,t,xs,b,vs,z1,z2,z3,z4,z5,z6⟩:=zv rel e hd;refine Cj z1 (rel.lent a _ z2).1 (rel.sub _ _ z3) (by rw[<-z4.length];exact hl) ⟨vs,.inl (ϐ.of (rel.lent b _ z5).1),h _ F H rel ċ ċ ?_⟩;show ü _ _ _ _;unfold ü;rw[z6.length]
   ·exact h.elim
  ·exact h.elim
 ·exact h.elim
end
@[simp] theorem Rc{i:Nat}{U:û}:nC i U=(match U[i]? with
  |some (.dw cO)=>.ok (.int cO.length) U
  |_=>.bad):=rfl
@[simp] theorem OZ{i:Nat}{U:û}:vk i U=(match U[i]? with
  |some (.dw cO)=>match cO.getLast? with
   |some d=>if d.1.length=2 then .ok (.int d.2.length) U else .bad
   |none=>.bad
  |_=>.bad):=rfl
abbrev DL:=List (List PV×List PV)
def aA:Slot->Bool
 | .no=>true
 | .sh _=>true
 | .ow _=>true
 | .bw _=>true
 |_=>false
def kD(s:Slot):Slot:=(bg s).getD .no
def ύ(iT iD:Nat)(T:List PV)(D:DL)(U:û):û:=((U.map kD).set iT (.bw T)).set iD (.dw D)
noncomputable def vn(iT iD:Nat)(w:WR)(T:List PV)(D:DL):Option (List PV×DL):=match w with
 | .t k p=>if k=iT then some (T ++ [p],D) else none
 | .d k ps=>if k=iD then some (T,D ++ [(ps,[])]) else none
 | .l k p=>if k=iD then(match D.getLast? with
   |some d=>some (T,D.dropLast ++ [(d.1,d.2 ++ [p])])
   |none=>none) else none
noncomputable def eV(i j iT iD:Nat)(mw:M WR):List PV->û->List PV->DL->Ġ (List PV×DL)
 | [],U,T,D=>.ok (T,D) U
 |p::ps,U,T,D=>match p with
  | .tup [q1,q2]=>(match mw (ύ iT iD T D ((U.set i (.sh q1)).set j (.sh q2))) with
    | .ok w _=>(match vn iT iD w T D with
      |some (T',D')=>eV i j iT iD mw ps ((U.set i (.sh q1)).set j (.sh q2)) T' D'
      |none=>.bad)
    | .exc x _=>.exc x ((U.set i (.sh q1)).set j (.sh q2))
    | .bad=>.bad)
  |_=>.bad
def Rf(i j iT iD:Nat)(mi:M (List PV))(mw:M WR)(mt:M Fl):M Fl:=fun U=>if U.all aA=true∧iT < U.length∧iD < U.length then
    (match mi ((U.set iT .no).set iD .no) with
    | .ok items U1=>if U1.all aA=true then(eV i j iT iD mw items U1 [] []).bind fun td U2=>(match mt (ύ iT iD td.1 td.2 U2) with
      | .ok (.rt (.sh p)) _=>.ok (.rt (.sh p)) U2
      | .exc x _=>.exc x U2
      |_=>.bad) else .bad
    |_=>.bad)
 else .bad
def nE(K:KK)(F H:Hp)(x:À×À)(d:List PV×List PV):Prop:=∃xs vs,F x.1=some (.tup (xs ++ [.ref x.2]))/\Õ K F d.1 xs/\H x.2=some (.lst vs)/\Õ K F d.2 vs
def Ex(K:KK)(c:Ctx)(F H:Hp)(Z:ð)(U:û)(iT iD:Nat)(T:List PV)(D:DL)(pT pD:À)(tb:List (À×À)):Prop:=
 jR Z iT=some (.ref pT)/\jR Z iD=some (.ref pD)/\(∃us,H pT=some (.lst us)/\Õ K F T us)/\H pD=some (.lst (tb.map λx=>.ref x.1))/\Paired (nE K F H) tb D/\(pT::pD::tb.map (·.2)).Nodup/\∀a∈pT::pD::tb.map (·.2),F a=none/\c.B a=none/\dq F Z U a
section
variable{K:KK}{c:Ctx}{F H F' H':Hp}{Z:ð}{U:û}{iT iD:Nat}{T:List PV}{D:DL}{pT pD:À}{tb:List (À×À)}
def Lf{x:À}(h:Paired (nE K F H) tb D)(hx:x∈tb.map (·.2)):H x≠none:=by obtain⟨y,hy,rfl⟩:=ĸ.mp hx;obtain⟨k,hk⟩:=xZ hy;obtain⟨d,_,xs,vs,_,_,h3,_⟩:=bu h hk;rw[h3];intro z;cases z
def Ex.some(h:Ex K c F H Z U iT iD T D pT pD tb){a:À}(ha:a∈pT::pD::tb.map (·.2)):H a≠none:=by
 obtain⟨_,_,⟨us,h1,_⟩,h2,h3,_⟩:=h;rcases ė.mp ha with rfl|ha
 ·rw[h1];intro z;cases z
 rcases ė.mp ha with rfl|ha
 ·rw[h2];intro z;cases z
 ·exact Lf h3 ha
def Ex.call(rel:Ā K c F H Z U)(h:Ex K c F H Z U iT iD T D pT pD tb)(g:Gr F H F' H'):Ex K c F' H' Z U iT iD T D pT pD tb:=by have hs:=fun{a}=>h.some (a:=a);obtain⟨k1,k2,⟨us,h1,zZ⟩,h2,h3,h4,h5⟩:=h;exact⟨k1,k2,⟨us,g.h _ _ h1,zZ.same g.f T us⟩,g.h _ _ h2,Paired.JB h3 λx d ⟨xs,vs,q1,q2,q3,q4⟩=>⟨xs,vs,g.f _ _ q1,q2.same g.f d.1 xs,g.h _ _ q3,q4.same g.f d.2 vs⟩,h4,λa ha=>⟨g.out a (hs ha) (h5 a ha).1,(h5 a ha).2.1,rel.eO g.f (h5 a ha).2.2⟩⟩
def Ā.xg{a:À}{o:HO}(r:Ā K c F H Z U)(hF:F a=none)(hB:c.B a=none)(hf:dq F Z U a):Ā K c F (upd H a o) Z U where
 sub:=λb u e=>by
  have hb:b≠a:=λz=>by rw[z,hF] at e;cases e
  rw[Ö hb];exact r.sub b u e
 base:=λb u e=>by
  have hb:b≠a:=λz=>by rw[z,hB] at e;cases e
  rw[Ö hb];exact r.base b u e
 f0:=r.f0
 ba:=r.ba
 lent:=λb u e=>by
  have hb:b≠a:=λz=>by rw[z,r.lb a hB] at e;cases e
  rw[Ö hb];exact r.lent b u e
 lb:=r.lb
 len:=r.len
 slot:=λj s e=>(r.slot j s e).grow (Ò.refl F) λb u ⟨y,e1,e2⟩ h1 h2 h3=>by
  have hb:b≠a:=λz=>by subst z;exact hf j ⟨s,y,e,sE e1,e2⟩
  exact⟨by rw[Ö hb];exact h1,h2⟩
 sep:=r.sep
def s_{p:Slot->Bool}{s:Slot}{i:Nat}(h:U.all p=true)(e:U[i]?=some s):p s=true:=by rw[cx] at h;exact h s (lx e)
noncomputable def Ctx.oX(c:Ctx)(A:List À)(H:Hp):Ctx:=⟨λb=>if b∈A then H b else c.B b,c.F₀,c.L,c.S⟩
theorem Ā.oX{A:List À}(r:Ā K c F H Z U)(hA:∀a∈A,H a≠none/\F a=none/\c.B a=none/\dq F Z U a)(hp:U.all aA=true):Ā K (c.oX A H) F H Z U where
 sub:=r.sub
 base:=λb u e=>by
  have e':(if b∈A then H b else c.B b)=some u:=e;split at e'
  ·exact e'
  ·exact r.base b u e'
 f0:=r.f0
 ba:=λa h1 h2=>by
  have zZ:(if a∈A then H a else c.B a)≠none:=h1;split at zZ
  ·rename_i q;exact(hA a q).2.1
  ·exact r.ba a zZ h2
 lent:=r.lent
 lb:=fun a h=>by
   have h':(if a∈A then H a else c.B a)=none:=h;split at h'
   ·rename_i q;exact absurd h' (hA a q).1
   ·exact r.lb a h'
 len:=r.len
 slot:=λi s e=>by
  have hs:=s_ hp e;have q:=r.slot i s e;cases s with
  |no=>trivial
  |sh p=>exact q
  |bw ps=>exact q
  |ow ps=>obtain⟨a,vs,q1,q2,q3,q4,q5⟩:=q;refine⟨a,vs,q1,q2,q3,?_,q5⟩;show(if a∈A then H a else c.B a)=none;rw[if_neg λz=>(hA a z).2.2.2 i ⟨_,_,e,Į q1,rfl⟩];exact q4
  |_=>cases hs
 sep:=r.sep
def Ā.Cn{A:List À}{H₀:Hp}(r:Ā K (c.oX A H₀) F H Z U)(hA:∀a∈A,H₀ a≠none/\c.B a=none)(hl:∀a,c.B a=none->c.L a=none)(hp:U.all aA=true):Ā K c F H Z U where
 sub:=r.sub
 base:=λb u e=>r.base b u (by
  show(if b∈A then H₀ b else c.B b)=some u;rw[if_neg λz=>by rw[(hA b z).2] at e;cases e];exact e)
 f0:=r.f0
 ba:=λa h1 h2=>r.ba a (by
  show(if a∈A then H₀ a else c.B a)≠none;rw[if_neg λz=>h1 (hA a z).2];exact h1) h2
 lent:=r.lent
 lb:=hl
 len:=r.len
 slot:=λi s e=>by
  have hs:=s_ hp e;have q:=r.slot i s e;cases s with
  |no=>trivial
  |sh p=>exact q
  |bw ps=>exact q
  |ow ps=>
   obtain⟨a,vs,q1,q2,q3,q4,q5⟩:=q;have VY:(if a∈A then H₀ a else c.B a)=none:=q4;refine⟨a,vs,q1,q2,q3,?_,q5⟩;split at VY
   ·rename_i z;exact(hA a z).2
   ·exact VY
  |_=>cases hs
 sep:=r.sep
def Ā.lend(r:Ā K c F H Z U)(hp:U.all aA=true)(h:Ex K c F H Z U iT iD T D pT pD tb)(n:iT≠iD):Ā K (aC F H) F H Z (ύ iT iD T D U) where
 sub:=r.sub
 base:=Ò.refl H
 f0:=Ò.refl F
 ba:=λ_ _ h=>h
 lent:=λ_ _ e=>ű e
 lb:=fun a e=>by
   cases q:(aC F H).L a with
   |none=>rfl
   |some u=>have e':H a=none:=e;rw[(ű q).1] at e';cases e'
 len:=by unfold ύ;simpa using r.len
 slot:= λi s e=>by
  obtain⟨k1,k2,⟨us,h1,zZ⟩,h2,h3,h4,h5⟩:=h;have L:∀{a u},H a=some u->F a=none->(aC F H).L a=some u:=fun{a u} e1 e2=>by show(match F a with|none=>H a|some _=>none)=some u;rw[e2];exact e1
  unfold ύ at e;rcases œ e with⟨rfl,rfl,_⟩|⟨hj,e⟩
  ·refine⟨pD,tb.map (·.1),k2,L (by rw[h2,ŷ];rfl) (h5 pD (by simp)).1,?_⟩;have:∀{AR:List (À×À)} {D':DL},(∀x∈AR,F x.2=none)->Paired (nE K F H) AR D'->Paired (λ(t:À) (d:List PV×List PV)=>∃xs b vs,F t=some (.tup (xs ++ [.ref b]))/\Õ K F d.1 xs/\(aC F H).L b=some (.lst vs)/\Õ K F d.2 vs) (AR.map (·.1)) D':=by
    intro AR D' hn hq
    induction hq with
    |nil=>exact .nil
    |@cons x d l m q t ih=>obtain⟨xs,vs,q1,q2,q3,q4⟩:=q;exact .cons ⟨xs,x.2,vs,q1,q2,L q3 (hn x (by simp)),q4⟩ (ih λy hy=>hn y (ù _ hy))
   exact this (λx hx=>(h5 x.2 (ù _ (ù _ (ĸ.mpr ⟨x,hx,rfl⟩)))).1) h3
  ·rcases œ e with⟨rfl,rfl,_⟩|⟨hj2,e⟩
   ·exact⟨pT,us,k1,L h1 (h5 pT (by simp)).1,zZ⟩
   ·rw[ķ] at e;cases e0:U[i]? with
    |none=>rw[e0] at e;cases e
    |some s0=>
     rw[e0] at e;have es:kD s0=s:=Ŋ e;subst es;unfold kD;cases el:bg s0 with
     |none=>trivial
     |some s1=>obtain⟨v,v1,v2⟩:=lU r (show(U[i]?).bind bg=some s1 by rw[e0];exact el);rw[v1];exact(au.slot v2).1
 sep:=λi j a h1 _=>by
  obtain⟨s',y,q1,_,q2⟩:=h1;have q2:=eN q2;exfalso;have:s'.own=false:=by
   unfold ύ at q1;rcases œ q1 with⟨_,rfl,_⟩|⟨_,q1⟩
   ·rfl
   ·rcases œ q1 with⟨_,rfl,_⟩|⟨_,q1⟩
    ·rfl
    ·rw[ķ] at q1;cases e0:U[i]? with
     |none=>rw[e0] at q1;cases q1
     |some s0=>rw[e0] at q1;have es:kD s0=s':=Ŋ q1;subst es;have hs:=s_ hp e0;cases s0<;>first|rfl|cases hs
  rw[this] at q2;cases q2
def qg{A:List À}{a b:À}(h:(a::A).Nodup)(hb:b∈A):b≠a:=λz=>(bJ.mp h).1 (z▸hb)
def xh{a:À}{o:HO}{tb:List (À×À)}{D:DL}(hn:∀x∈tb,x.2≠a)(h:Paired (nE K F H) tb D):Paired (nE K F (upd H a o)) tb D:=by
 induction h with
 |nil=>exact .nil
 |@cons x d l m q t ih=>obtain⟨xs,vs,q1,q2,q3,q4⟩:=q;exact .cons ⟨xs,vs,q1,q2,by rw[Ö (hn x (by simp))];exact q3,q4⟩ (ih λy hy=>hn y (ù _ hy))
theorem vo{α β:Type}{G:α->β->Prop}:∀{l:List α} {m:List β} {d:β},Paired G l m->m.getLast?=Option.some d->∃l0 x,l=l0 ++ [x]/\Paired G l0 m.dropLast/\G x d
 |_,_,_,.nil,h=>by cases h
 | [a],[b],y,.cons r .nil,h=>by cases h;exact⟨[],a,rfl,.nil,r⟩
 |a::a'::l,b::b'::m,y,.cons r t,h=>by obtain⟨k,x,e,g1,g2⟩:=vo t (by rw[xY] at h;exact h);exact⟨a::k,x,by rw[e];rfl,.cons r g1,g2⟩
def Ex.put{H2:Hp}{w:WR}{T':List PV}{D':DL}(rel:Ā K c F H Z U)(h:Ex K c F H Z U iT iD T D pT pD tb)(g:Gr F H F' H')(hw:vg K (aC F H).L H F' H' (jR Z w.ix) H2 w)(hp:vn iT iD w T D=Option.some (T',D')) :
 Ā K c F' H2 Z U/\∃AR,Ex K c F' H2 Z U iT iD T' D' pT pD AR:=by
 have ĵ:=rel.call g;have hs:=fun{a}=>h.some (a:=a);have h0:=h;have h':=Ex.call rel h g;obtain⟨k1,k2,⟨us,h1,zZ⟩,h2,h3,h4,h5⟩:=h';cases w with
 |t k p=>
  unfold vn at hp;dsimp only at hp;split at hp
  ·rename_i ek;subst ek;cases hp;obtain⟨a,vs,v,w1,w2,w3,w4,rfl⟩:=hw;have ea:pT=a:=by
    have:jR Z k=Option.some (.ref a):=w1;rw[k1] at this;injection this with this
    injection this
   subst ea;obtain⟨f1,f2,f3⟩:=h5 pT (by simp);have ev:us=vs:=by have:=g.h _ _ (ű w2).1;rw[h1] at this;cases this;rfl
   subst ev;refine⟨ĵ.xg f1 f2 f3,tb,k1,k2,⟨us ++ [v],Ü,Õ.append zZ (Õ.cons w3 Õ.nil)⟩,?_,?_,h4,h5⟩
   ·rw[Ö (qg h4 (by simp))];exact h2
   ·exact xh (λx hx=>qg h4 (ù _ (ĸ.mpr ⟨x,hx,rfl⟩))) h3
  ·cases hp
 |d k ps=>
  unfold vn at hp;dsimp only at hp;split at hp
  ·rename_i ek;subst ek;cases hp;obtain⟨a,RX,t,xs,b,w1,w2,w3,w4,w5,w6,w7,rfl⟩:=hw;have ea:pD=a:=by
    have:jR Z k=Option.some (.ref a):=w1;rw[k2] at this;injection this with this
    injection this
   subst ea;obtain⟨f1,f2,f3⟩:=h5 pD (by simp);have ev:RX=tb.map λx=>.ref x.1:=by have:=g.h _ _ (ű w2).1;rw[h2] at this;cases this;rfl
   subst ev;have hb:∀x∈pT::pD::tb.map (·.2),x≠b:=λx hx z=>hs hx (by rw[z];exact w7);have bD:b≠pD:=λz=>hb pD (by simp) z.symm;refine⟨ĵ.xg f1 f2 f3,tb ++ [(t,b)],k1,k2,⟨us,?_,zZ⟩,?_,?_,?_,?_⟩
   ·rw[Ö (Ć (qg h4 (by simp)))];exact h1
   ·rw[Ü,ŀ];rfl
   ·refine sy (xh (λx hx=>?_) h3) (.cons ⟨xs,[],w3,w4,by rw[Ö bD];exact w5,Õ.nil⟩ .nil);exact qg (bJ.mp h4).2 (ĸ.mpr ⟨x,hx,rfl⟩)
   ·rw[ŀ,<-cz,<-cz,qD];refine⟨h4,by simp,λx hx y hy=>?_⟩;have:y=b:=by simpa using hy
    subst this;exact hb x hx
   ·intro x hx;rw[ŀ,<-cz,<-cz] at hx;rcases ah.mp hx with hx|hx
    ·exact h5 x hx
    ·have:x=b:=by simpa using hx
     subst this;exact⟨w6,rel.base.free w7,rel.eO g.f (rel.fresh w7)⟩
  ·cases hp
 |l k p=>
  unfold vn at hp;dsimp only at hp;split at hp
  ·rename_i ek;subst ek;split at hp
   ·rename_i d hd;cases hp;obtain⟨a,RX,t,xs,b,vs,v,w1,w2,w3,w4,w5,rfl⟩:=hw;have ea:pD=a:=by
     have:jR Z k=Option.some (.ref a):=w1;rw[k2] at this;injection this with this
     injection this
    subst ea;obtain⟨Rg,x,rfl,p1,⟨ys,ws,p2,p3,p4,p5⟩⟩:=vo h3 hd;have et:x.1=t:=by
     have:=g.h _ _ (ű w2).1;rw[h2,ŀ] at this;injection this with this
     injection this with this
     have:=(List.append_inj' this rfl).2;injection this with this
     injection this
    subst et;have eb:=vm p2 w3;have hx2:x.2∈pT::pD::(Rg ++ [x]).map (·.2):=by simp
    obtain⟨f1,f2,f3⟩:=h5 x.2 hx2;subst eb;have ev:ws=vs:=by have:=g.h _ _ (ű w4).1;rw[p4] at this;cases this;rfl
    subst ev;have n1:=qg h4 (show x.2∈pD::(Rg ++ [x]).map (·.2) by simp);have n2:=qg (bJ.mp h4).2 (show x.2∈(Rg ++ [x]).map (·.2) by simp);refine⟨ĵ.xg f1 f2 f3,Rg ++ [x],k1,k2,⟨us,?_,zZ⟩,?_,?_,h4,h5⟩
    ·rw[Ö (Ć n1)];exact h1
    ·rw[Ö (Ć n2)];exact h2
    ·refine sy (xh (λy hy z=>?_) p1) (.cons ⟨ys,ws ++ [v],p2,p3,Ü,Õ.append p5 (Õ.cons w5 Õ.nil)⟩ .nil);have h6:=(bJ.mp (bJ.mp h4).2).2;rw[ŀ,qD] at h6;exact h6.2.2 y.2 (ĸ.mpr ⟨y,hy,rfl⟩) x.2 (by simp) z
   ·cases hp
  ·cases hp
theorem Ex.oX{U':û}{F3 H3:Hp}(h:Ex K c F H Z U iT iD T D pT pD tb)(r:Ā K (c.oX (pT::pD::tb.map (·.2)) H) F3 H3 Z U')(s:Ò F F3)(f0:Ò c.F₀ F):Ex K c F3 H3 Z U' iT iD T D pT pD tb:=by
 have hs:=fun{a}=>h.some (a:=a);obtain⟨k1,k2,⟨us,h1,zZ⟩,h2,h3,h4,h5⟩:=h;have up:∀a u,a∈pT::pD::tb.map (·.2)->H a=Option.some u->H3 a=Option.some u:=λa u ha e=>r.base a u (by
  show(if a∈pT::pD::tb.map (·.2) then H a else c.B a)=Option.some u;rw[if_pos ha];exact e)
 have bn:∀a,a∈pT::pD::tb.map (·.2)->(c.oX (pT::pD::tb.map (·.2)) H).B a≠none:=λa ha=>by show(if a∈pT::pD::tb.map (·.2) then H a else c.B a)≠none;rw[if_pos ha];exact hs ha
 have go:∀{AR:List (À×À)} {D':DL},(∀x∈AR,x.2∈pT::pD::tb.map (·.2))->Paired (nE K F H) AR D'->Paired (nE K F3 H3) AR D':=by
  intro AR D' hn hq
  induction hq with
  |nil=>exact .nil
  |@cons x d l m q t ih=>obtain⟨xs,vs,q1,q2,q3,q4⟩:=q;exact .cons ⟨xs,vs,s _ _ q1,q2.same s d.1 xs,up _ _ (hn x (by simp)) q3,q4.same s d.2 vs⟩ (ih λy hy=>hn y (ù _ hy))
 refine⟨k1,k2,⟨us,up _ _ (by simp) h1,zZ.same s T us⟩,up _ _ (by simp) h2,go (λx hx=>ù _ (ù _ (ĸ.mpr ⟨x,hx,rfl⟩))) h3,h4,λa ha=>⟨?_,(h5 a ha).2.1,λi q=>?_⟩⟩
 ·refine r.ba a (bn a ha) ?_;cases q:c.F₀ a with
  |none=>exact q
  |some u=>have:=f0 _ _ q;rw[(h5 a ha).1] at this;cases this
 ·exact bn a ha (r.owned q).2.2
def ti{i:Nat}{s:Slot}(h:U.all aA=true)(hs:aA s=true):(U.set i s).all aA=true:=by
 rw[cx] at h ⊢;intro x hx;rcases List.mem_or_eq_of_mem_set hx with q|q
 ·exact h x q
 ·rw[q];exact hs
def Ex.sets{i:Nat}{v:V}{s:Slot}(h:Ex K c F H Z U iT iD T D pT pD tb)(hs:s.own=false)(n1:iT≠i)(n2:iD≠i):Ex K c F H (Z.set i (Option.some v)) (U.set i s) iT iD T D pT pD tb:=by obtain⟨k1,k2,h1,h2,h3,h4,h5⟩:=h;exact⟨by rw[lY n1];exact k1,by rw[lY n2];exact k2,h1,h2,h3,h4,λa ha=>⟨(h5 a ha).1,(h5 a ha).2.1,dE hs (h5 a ha).2.2⟩⟩
def zw{i:Nat}{v:V}(h:i < Z.length):jR (Z.set i (Option.some v)) i=Option.some v:=by unfold jR;rw[iE h];rfl
def Ex.start(rel:Ā K c F H Z U)(lT:iT < U.length)(lD:iD < U.length)(n:iT≠iD)(h1:H pT=none)(h2:upd H pT (.lst []) pD=none) :
 Ā K c F (upd (upd H pT (.lst [])) pD (.lst [])) ((Z.set iT (Option.some (.ref pT))).set iD (Option.some (.ref pD))) ((U.set iT .no).set iD .no)/\Ex K c F (upd (upd H pT (.lst [])) pD (.lst [])) ((Z.set iT (Option.some (.ref pT))).set iD (Option.some (.ref pD))) ((U.set iT .no).set iD .no) iT iD [] [] pT pD []:=by
 have hl:=rel.len;have r1:=(rel.made (o:=.lst []) h1).put (i:=iT) (x:=Option.some (.ref pT)) (s:=.no) rfl trivial;have r2:=(r1.made (o:=.lst []) h2).put (i:=iD) (x:=Option.some (.ref pD)) (s:=.no) rfl trivial;have ne:pD≠pT:=λz=>by rw[z,Ü] at h2;cases h2
 have h3:H pD=none:=by rw[Ö ne] at h2;exact h2
 refine⟨r2,?_,?_,⟨[],?_,Õ.nil⟩,Ü,.nil,?_,λa ha=>?_⟩
 ·rw[lY n];exact zw (by lia)
 ·exact zw (by simp;lia)
 ·rw[Ö (Ć ne)];exact Ü
 ·simp;exact Ć ne
 ·have:a=pT\/a=pD:=by simpa using ha
  rcases this with rfl|rfl
  ·exact⟨rel.sub.free h1,rel.base.free h1,dE rfl (dE rfl (rel.fresh h1))⟩
  ·exact⟨rel.sub.free h3,rel.base.free h3,dE rfl (dE rfl (rel.fresh h3))⟩
end
section
variable{X:Cx}{cm:String->À}{E:ð->XK}{pos:Pos}
def Ua{i j iT iD m:Nat}{s1 s2:Ï}{tg iter:Å}{body tail:List Ï}{mi:M (List PV)}{mf:MW}{ns:List Nat}{mt:M Fl}(h1:PS X s1 (JI (JU Ba) (my iT)))(h2:PS X s2 (JI (JU Ba) (my iD)))
 (hp:PassesOwn (É X.prog X.w) X.A X.env X.xe)(hc:X.calm=true)(hi:PI X tg iter (tI (kk X cm) E mi))(hg:PG X tg (NG X.K 2 (A1 (my i) (A1 (my j) NF))))(hb:Ϡ X body (jh λZ H Q=>OX ns Z H λvs H1=>Lb (kk X cm) m mf vs H1 Q (E Z)))
 (ht:Ϡ X tail (tS (kk X cm) E mt))(hE:∀Z Z',E Z=E Z')(hlen:∀{as:List Slot},mf as≠ .bad->as.length=m:=by exact qf)(n1:iT≠iD:=by decide)(n2:iT≠i:=by decide)(n3:iD≠i:=by decide)(n4:iT≠j:=by decide)(n5:iD≠j:=by decide)
 (hs:∀x,aQ iter X.env x=pure x:=by intro _;rfl):Ϡ X (s1::s2:: .For tg iter body [] pos::tail) (tS (kk X cm) E (Rf i j iT iD mi (Ū mf ns) mt)):=
 Ϡ.wk (be h1 (be h2 (be (A4 hp hc hi hg hb hs) ht))) λD Z H ⟨c,F,U,rel,h⟩=>by
  unfold Rf at h;split at h
  ·rename_i Qw;obtain⟨hpl,lT,lD⟩:=Qw;refine⟨Ÿ _,λpT hT=>⟨Ÿ _,λpD hD=>?_⟩⟩;obtain⟨đ,Rh⟩:=Ex.start rel lT lD n1 hT hD;have Ub:((U.set iT .no).set iD .no).all aA=true:=ti (ti hpl rfl) rfl;generalize (U.set iT .no).set iD .no=U2 at*;have pr:∀{F3 H3:Hp} {Z3:ð} {U3:û} {T:List PV} {D':DL} {tb:List (À×À)},Ā (kk X cm) c F3 H3 Z3 U3->U3.all aA=true->Ex (kk X cm) c F3 H3 Z3 U3 iT iD T D' pT pD tb->Ā (kk X cm) (c.oX (pT::pD::tb.map (·.2)) H3) F3 H3 Z3 U3:=λr hp e=>r.oX (λa ha=>⟨e.some ha,e.2.2.2.2.2.2 a ha⟩) hp;refine⟨_,F,U2,pr đ Ub Rh,?_⟩;cases em:mi U2 with
   |bad=>rw[em] at h;exact h.elim
   |exc x U'=>rw[em] at h;exact h.elim
   |ok items U1=>
    rw[em] at h;dsimp only at h;split at h
    ·rename_i O_;intro J F1 H1 Ð VZ _ M8;have X0:=Rh.oX Ð VZ đ.f0;have Uc:Ā (kk X cm) c F1 H1 _ U1:=Ð.Cn (λa ha=>⟨Rh.some ha,(Rh.2.2.2.2.2.2 a ha).2.1⟩) đ.lb O_;refine⟨λk m' Z' H'=>∃F2 U' T D' tb,k<=items.length/\m'=items.length-k/\Ā (kk X cm) c F2 H' Z' U'/\Ò F1 F2/\U'.all aA=true/\Ex (kk X cm) c F2 H' Z' U' iT iD T D' pT pD tb/\
      Ņ (kk X cm) E c F2 D ((eV i j iT iD (Ū mf ns) (items.drop k) U' T D').bind λtd U2=>(match mt (ύ iT iD td.1 td.2 U2) with
       | .ok (.rt (.sh p)) _=>.ok (.rt (.sh p)) U2
       | .exc x _=>.exc x U2
       |_=>.bad)),⟨_,F1,U1,[],[],[],Ÿ _,rfl,Uc,Ò.refl _,O_,X0,Ņ.mono h VZ⟩,?_⟩
     rintro k m' Z3 H3 ⟨F3,U3,T,D',tb,Ea,rfl,dz,QO,Ff,O0,h3⟩;have X1:=pr dz Ff O0;obtain⟨go,stop⟩:=M8 _ k F3 H3 Z3 U3 X1 QO λb u e=>(dz.lent b u e).1;by_cases ku:k<items.length
     ·obtain⟨g1,g2⟩:=go items[k] (Ϭ ku);rw[dQ ku] at h3;unfold eV at h3;refine .inr ⟨g1,_,λZ' H' z=>z,λx H4 hy=>?_⟩;obtain⟨F4,oP,Ri,_,rp⟩:=g2 x H4 hy;have X2:=O0.oX oP Ri dz.f0;have GQ:Ā (kk X cm) c F4 H4 Z3 U3:=oP.Cn (λa ha=>⟨O0.some ha,(O0.2.2.2.2.2.2 a ha).2.1⟩) dz.lb Ff;cases ep:items[k] with
      |tup qs=>
       rw[ep] at h3 rp;unfold ü at rp;obtain⟨t,xs,rfl,ht,rx⟩:=rp
       match qs,rx,h3 with
       | [q1,q2],rx,h3=>
         unfold Õ at rx;obtain⟨v1,r',rfl,r1,rx⟩:=rx;unfold Õ at rx;obtain⟨v2,r'',rfl,r2,rx⟩:=rx;unfold Õ at rx;subst rx;refine⟨t,[v1,v2],rfl,Ò.tup GQ.sub ht,rfl,v1,[v2],rfl,v2,[],rfl,rfl,?_⟩;have oS:Ā (kk X cm) c F4 H4 ((Z3.set i (some v1)).set j (some v2)) ((U3.set i (.sh q1)).set j (.sh q2)):=(GQ.put (s:=.sh q1) rfl ⟨v1,rfl,r1⟩).put (s:=.sh q2) rfl ⟨v2,rfl,r2⟩;have V_:=(X2.sets (i:=i) (v:=v1) (s:=.sh q1) rfl n2 n3).sets (i:=j) (v:=v2) (s:=.sh q2) rfl n4 n5;have O1:((U3.set i (.sh q1)).set j (.sh q2)).all aA=true:=ti (ti Ff rfl) rfl;generalize (Z3.set i (some v1)).set j (some v2)=Z5 at*;dsimp only at h3;generalize (U3.set i (.sh q1)).set j (.sh q2)=U5 at*;have Ud:=oS.lend O1 V_ n1;unfold Ū at h3;cases el:fi (ύ iT iD T D' U5) ns with
         |none=>rw[el] at h3;exact h3.elim
         |some as=>
          rw[el] at h3;dsimp only at h3;obtain⟨vs,V0,X3⟩:=nD Ud el;refine⟨vs,V0,F4,as,hlen λz=>?_,oS.sub,X3,?_⟩
          ·rw[z] at h3;exact h3
          ·cases Ue:mf as with
           |bad=>rw[Ue] at h3;exact h3.elim
           |exc x=>rw[Ue] at h3;exact λC d F' H' g rx=>h3 Z5 C d F' H' (oS.call g) (Ri.trans g.f) rx
           |ok w=>
            rw[Ue] at h3;dsimp only at h3;cases ej:ns[w.ix]? with
            |none=>rw[ej] at h3;exact h3.elim
            |some i'=>
             rw[ej] at h3;dsimp only at h3;by_cases hok:k_ w (ύ iT iD T D' U5)[i']?=true
             ·rw[if_pos hok] at h3;dsimp only at h3;cases Uf:vn iT iD (w.to i') T D' with
              |none=>rw[Uf] at h3;exact h3.elim
              |some td=>
               rw[Uf] at h3;intro F' H' H6 g hw;have ev:vs[w.ix]?=jR Z5 i':=by
                have:=congrArg (λl=>l[w.ix]?) V0;simp only[ķ,ej,Option.map_some] at this;cases ev:vs[w.ix]? with
                |none=>rw[ev] at this;cases this
                |some v=>rw[ev] at this;injection this with this;exact this.symm
               rw[ev] at hw;obtain⟨wK,AR,X4⟩:=V_.put (w:=w.to i') (T':=td.1) (D':=td.2) oS g (by rw[GO];exact hw.to) Uf;exact⟨items.length-(k+1),by lia,F',U5,td.1,td.2,AR,ku,rfl,wK,(QO.trans Ri).trans g.f,O1,X4,Ņ.mono h3 (Ri.trans g.f)⟩
             ·rw[if_neg hok] at h3;exact h3.elim
       | [],_,h3=>exact h3.elim
       | [_],_,h3=>exact h3.elim
       |_::_::_::_,_,h3=>exact h3.elim
      |_=>rw[ep] at h3;exact h3.elim
     ·have e:k=items.length:=by lia
      refine .inl ⟨stop e,?_⟩;rw[cy (by lia)] at h3;refine⟨_,F3,_,dz.lend Ff O0 n1,?_⟩;have Jw:Ņ (kk X cm) E c F3 D (match mt (ύ iT iD T D' U3) with
       | .ok (.rt (.sh p)) _=>.ok (.rt (.sh p)) U3
       | .exc x _=>.exc x U3
       |_=>.bad):=h3
      cases Ug:mt (ύ iT iD T D' U3) with
      |bad=>rw[Ug] at Jw;exact Jw.elim
      |exc x U6=>rw[Ug] at Jw;exact λZ' C d F' H' ĵ s' q=>by rw[hE Z' Z3];exact Jw Z3 C d F' H' (dz.call ĵ.gr) s' q
      |ok fl U6=>
       rw[Ug] at Jw;cases fl with
       |rt r=>
        cases r with
        |sh p=>exact λv Z' F' H' ĵ s' q=>Jw v Z3 F' H' (dz.call ĵ.gr) s' q
        |_=>exact Jw.elim
       |_=>exact Jw.elim
    ·exact h.elim
  ·exact h.elim
end
end P
namespace PySem
open AutoSeq1 (wpAny_loadPart')
namespace Rj
def O2(a:Á)(t:Tok):checkTypeCall "enumerate" ⟨[a],[(Ä "start",.int 1 t)]⟩=pure ():=by kernel_rfl
def O3(a:Á)(t:Tok):checkBuiltinCall "enumerate.__new__" ⟨[.type "enumerate",a],[(Ä "start",.int 1 t)]⟩=pure ():=by kernel_rfl
def Vi(l:À)(items:Array Á)(n:Nat)(t:Tok)(Vj:Option À)(sl:Array (Option Á)) :
 Meets (gt.«enumerate.__new__» ⟨[.type "enumerate",.ref l],[(Ä "start",.int 1 t)]⟩) (λ_ R s=>s.heap.get? l=some {cls:=.type "list",dict:=Vj,data:=.seq items n,slots:=sl}/\
  R (.ok (.ret (.ref (s.heap.push {cls:=.type "list_iterator",data:=.fields #[.ref l,.int 0 0]}).objs.size)))
    {s with heap:=(s.heap.push {cls:=.type "list_iterator",data:=.fields #[.ref l,.int 0 0]}).push {cls:=.type "enumerate",data:=.fields #[.none,.bool false,.ref s.heap.objs.size,Ĺ 1,.none,.none]}}):=
 .of_wp fun prog w A R s h=>by
   obtain⟨hp,g,d,tk,os⟩:=s;obtain⟨hl,h⟩:=h;have Vk:=sub_enumerate;have hL:Heap.IsList (Shared.heap ⟨hp,g,d,tk,os⟩) l items:=⟨_,hl,rfl,n,rfl⟩
   wp_walk using wpAny_loadPart' hl
   refine wpAny_stack_any λst=>è ?_;split
   ·rename_i c _ _ _ _ _;cases(c== rz "enumerate")
    ·wp_walk using wpAny_loadPart' hl,iU hL
     exact⟨_,rfl,h⟩
    ·wp_walk using wpAny_loadPart' hl,iU hL
     exact⟨_,rfl,h⟩
   ·wp_walk using wpAny_loadPart' hl,iU hL
    exact⟨_,rfl,h⟩
section
variable{prog:Ù}{w:Ô}{A:Ú}{E:Á->Â->Prop}{s:Â}
def O4{self a:Á}{t:Tok}:Meets (gt.«object.__init__» ⟨[self,a],[(Ä "start",.int 1 t)]⟩) (λ_ R s=>s.TypeIs self "enumerate" /\R (.ok (.ret .none)) s):=by
 have hl:=re.init.lookup;have hm:=re.made;refine Meets.of_wp λprog w A R s hs=>?_;obtain⟨hT,hq⟩:=hs
 repeat (any_goals (first|assumption|wp_step))
 exact⟨_,rfl,hq⟩
def O5(a b:Á)(t:Tok):argsOk "object.__init__" ⟨[a,b],[(Ä "start",.int 1 t)]⟩:=by unfold argsOk;kernel_rfl
def O6{l:À}{items:Array Á}{t:Tok}{Q:Á->Â->Prop}(hL:s.heap.IsList l items)
 (h:∀h',ϖ h' (s.heap.objs.size+1) s.heap.objs.size 1 .none->h'.IsListIter s.heap.objs.size l 0->h'.objs.size=s.heap.objs.size+2->(∀b o,s.heap.get? b=some o->h'.get? b=some o)->Q (.ref (s.heap.objs.size+1)) {s with heap:=h'}) :
 Ç (É prog w) A (call (.type "enumerate") [.ref l] [(Ä "start",.int 1 t)]) Q E s:=by
 obtain⟨⟨c,Vj,dt,sl⟩,hl,hc,n,hd⟩:=hL
 replace hc:c=.type "list" := hc
 replace hd:dt=.seq items n:=hd
 subst hc hd;have ft:=re;obtain⟨c,tl,Zaf⟩:=ft.mro;have Xk:=ft.made;have Vk:=ft.sub;have hct:=O2 (.ref l) t;refine dY (codeAny_of_tree ?_);show Ç _ _ (callAny (.type "enumerate") _) _ _ _;refine è ⟨qZ _ (by decide +kernel),codeAny_builtin F.entry_type_call ?_⟩;rw[Around.under_plain (weight_type_call_type "enumerate" [.ref l] [(Ä "start",.int 1 t)]) (units_type_call_type "enumerate" [.ref l] [(Ä "start",.int 1 t)])];have h1:=ft.notType;have h2:=ft.canCreate
 repeat (any_goals (first|assumption|wp_step))
 refine bN (qT ft.plain F.entry_enumerate_new (wpAny_of_eq (O3 (.ref l) t) (Vi l items n t Vj sl prog w A.in1 (wants (λobj s₁=>s₁.TypeIs obj "enumerate" /\Q obj s₁) E) s ⟨hl,?_⟩))) λr s₁ hr=>?_
 ·have hz:(s.heap.push {cls:=.type "list_iterator",data:=.fields #[.ref l,.int 0 0]}).objs.size=s.heap.objs.size+1:=aT ..;show _/\_;rw[hz];have he:ϖ ((s.heap.push {cls:=.type "list_iterator",data:=.fields #[.ref l,.int 0 0]}).push {cls:=.type "enumerate",data:=.fields #[.none,.bool false,.ref s.heap.objs.size,Ĺ 1,.none,.none]}) (s.heap.objs.size+1) s.heap.objs.size 1 .none:=by
   have:=ļ (s.heap.push {cls:=.type "list_iterator",data:=.fields #[.ref l,.int 0 0]}) (o:={cls:=.type "enumerate",data:=.fields #[.none,.bool false,.ref s.heap.objs.size,Ĺ 1,.none,.none]}) rfl;rw[hz] at this;exact this
  exact⟨⟨_,he,rfl⟩,h _ he ⟨_,ô _ (ļ _ rfl),rfl,rfl⟩ (by rw[aT,hz]) λb o x=>ô _ (ô _ x)⟩
 ·cases r with
  |error e=>exact hr
  |ok fl=>
   cases fl with
   |ret obj=>
    obtain⟨hT,hq⟩:=hr;have hli:=ft.init.lookup;have Ny:=ft.init.bind obj
    repeat (any_goals (first|assumption|wp_step))
    refine bN (qT ft.init.plain F.entry_object_init (ft.init.check _ _ _ _ _ _ _ _ hT (O5 _ _ t) (O4 prog w A.in1 (wants (λr s₂=>r=.none/\Q obj s₂) E) s₁ ⟨hT,rfl,hq⟩))) λr₂ s₂ Vl=>?_;cases r₂ with
    |error e=>exact Vl
    |ok fl₂=>
     cases fl₂ with
     |ret r=>
      obtain⟨rfl,hq⟩:=Vl
      repeat (any_goals (first|assumption|wp_step))
     |_=>exact Vl.elim
   |_=>exact hr.elim
def AS{e it l:À}{i:Nat}{k:Int}{items:Array Á}{x iy:Á}{Q:Á->Â->Prop}(he:ϖ s.heap e it k iy)(z_:s.heap.IsListIter it l i)(hl:s.heap.IsList l items)(hx:items[i]?=some x)(kv:e≠it)
 (hQ:∀h',IsEnumOut h' e it (k+1) x s.heap.objs.size->h'.IsListIter it l (i+1)->h'.get? s.heap.objs.size=some {cls:=.type "tuple",data:=.seq #[.int k s.toks,x]}->h'.objs.size=s.heap.objs.size+1->(∀b o,b≠e->b≠it->s.heap.get? b=some o->h'.get? b=some o)->Q (.ref s.heap.objs.size) {s with heap:=h',toks:=s.toks+1}) :
 Ç (É prog w) A (gt.«enumerate.__next__» ⟨[.ref e],[]⟩) (λgR s'=>∃v,gR=.done (.ret v)/\Q v s') E s:=by
 obtain⟨hp,g,d,tk,os⟩:=s;show Ç _ _ (field (.ref e) 2 >>= _) _ _ _;refine Ê (ŋ he rfl (x:=.ref it) rfl ?_);refine Ê (wpAny_nextOf_list_item z_ hl hx λha Qx sa=>?_)
 replace sa:am it hp ha:=sa
 have ea:ϖ ha e it k iy:=(sa.2 e kv).trans he;show Ç _ _ (field (.ref e) 3 >>= _) _ _ ⟨ha,g,d,tk,os⟩;refine Ê (ŋ ea rfl (x:=Ĺ k) rfl ?_);show Ç _ _ (field (.ref e) 4 >>= _) _ _ ⟨ha,g,d,tk,os⟩;refine Ê (ŋ ea rfl (x:=.none) rfl ?_);show Ç _ _ (mkInt k >>= _) _ _ ⟨ha,g,d,tk,os⟩;refine Ê (wpAny_mkInt ?_);show Ç _ _ (setField (.ref e) 3 (Ĺ (k+1)) >>= _) _ _ ⟨ha,g,d,tk+1,os⟩;refine Ê (iY ea (by simp) λhb eb sb=>?_)
 replace sb:am e ha hb:=sb
 replace eb:ϖ hb e it (k+1) iy:=eb
 show Ç _ _ (setField (.ref e) 4 .none >>= _) _ _ ⟨hb,g,d,tk+1,os⟩;refine Ê (iY eb (by simp) λhc ec sc=>?_)
 replace sc:am e hb hc:=sc
 replace ec:ϖ hc e it (k+1) iy:=ec
 show Ç _ _ (newTuple [.int k tk,x] >>= _) _ _ ⟨hc,g,d,tk+1,os⟩;refine Ê (wpAny_newTuple ?_);have ed:ϖ (hc.push {cls:=.type "tuple",data:=.seq #[.int k tk,x]}) e it (k+1) iy:=ô _ ec;generalize Qy:hc.push {cls:=.type "tuple",data:=.seq #[.int k tk,x]}=hd at ed;have xO:hc.objs.size=hp.objs.size:=by rw[sc.1,sb.1,sa.1]
 have Vm:e<hp.objs.size:=í he;have td:hd.get? hp.objs.size=some {cls:=.type "tuple",data:=.seq #[.int k tk,x]}:=by rw[<-Qy,<-xO];exact ļ _ rfl
 have zd:hd.objs.size=hp.objs.size+1:=by rw[<-Qy,aT,xO]
 have kd:∀b o,b≠e->b≠it->hp.get? b=some o->hd.get? b=some o:=λb o uw Ny q=>by rw[<-Qy];exact ô _ (sc.extBut b o uw (sb.extBut b o uw (sa.extBut b o Ny q)))
 have X5:hd.IsListIter it l (i+1):=by rw[<-Qy];obtain⟨o,ho,r⟩:=(Qx.extBut sb.extBut (Ć kv)).extBut sc.extBut (Ć kv);exact⟨o,ô _ ho,r⟩
 show Ç _ _ (yl (.ref e) >>= _) _ _ ⟨hd,g,d,tk+1,os⟩;rw[xO];clear Qy ec sc eb sb ea sa Qx xO hc hb ha;refine Ê ?_
 ·unfold yl;refine Ê (ŋ ed rfl (x:=.none) rfl (è ?_));simp only[if_true];refine Ê (wpAny_rule ?_);refine Ê (ŋ ed rfl (x:=iy) rfl ?_);refine Ê (iY ed (by simp) λh5 e5 s5=>?_)
  replace s5:am e hd h5:=s5
  replace e5:ϖ h5 e it (k+1) x:=e5
  show Ç _ _ (ym (.ref e) (.ref hp.objs.size) >>= _) _ _ ⟨h5,g,d,tk+1,os⟩;refine Ê ?_
  ·unfold ym;refine Ê (iY e5 (by simp) λh6 e6 s6=>?_)
   replace s6:am e h5 h6:=s6
   replace e6:IsEnumOut h6 e it (k+1) x hp.objs.size:=e6
   refine iY e6 (by simp) λh7 e7 s7=>?_
   replace s7:am e h6 h7:=s7
   replace e7:IsEnumOut h7 e it (k+1) x hp.objs.size:=e7
   refine Ê (wpAny_letGo (è ⟨_,rfl,hQ h7 e7 ?_ ?_ ?_ ?_⟩))
   ·exact((X5.extBut s5.extBut (Ć kv)).extBut s6.extBut (Ć kv)).extBut s7.extBut (Ć kv)
   ·exact s7.extBut _ _ (ai Vm) (s6.extBut _ _ (ai Vm) (s5.extBut _ _ (ai Vm) td))
   ·rw[s7.1,s6.1,s5.1,zd]
   ·exact λb o uw Ny q=>s7.extBut b o uw (s6.extBut b o uw (s5.extBut b o uw (kd b o uw Ny q)))
def Lg{e it l:À}{i:Nat}{k:Int}{items:Array Á}{x iy:Á}{Q:Option Á->Â->Prop}(he:ϖ s.heap e it k iy)(z_:s.heap.IsListIter it l i)(hl:s.heap.IsList l items)(hx:items[i]?=some x)(kv:e≠it)
 (hQ:∀h',IsEnumOut h' e it (k+1) x s.heap.objs.size->h'.IsListIter it l (i+1)->h'.get? s.heap.objs.size=some {cls:=.type "tuple",data:=.seq #[.int k s.toks,x]}->h'.objs.size=s.heap.objs.size+1->(∀b o,b≠e->b≠it->s.heap.get? b=some o->h'.get? b=some o)->Q (some (.ref s.heap.objs.size)) {s with heap:=h',toks:=s.toks+1}) :
 Ç (É prog w) A (dS (.ref e)) Q E s:=by
 have hT:s.TypeIs (.ref e) "enumerate" := ⟨_,he,rfl⟩;unfold dS;exact Ê (wpAny_attempt (wpAny_callSpecial?_slot (name:=Ä "__next__") hT lH (wpAny_call_entry lH hT yu (AS he z_ hl hx kv λh' a b c d k=>è (hQ h' a b c d k)) (yw _))))
def xi{e it l:À}{i:Nat}{k:Int}{items:Array Á}{iy:Á}{Q:Option Á->Â->Prop}(hh:A.handled=none)(he:ϖ s.heap e it k iy)(z_:s.heap.IsListIter it l i)(hl:s.heap.IsList l items)(hx:items[i]?=none)
 (hQ:∀h',Heap.ExtBut it s.heap h'->Q none {s with heap:=h'}):Ç (É prog w) A (dS (.ref e)) Q E s:=by
 have hT:s.TypeIs (.ref e) "enumerate" := ⟨_,he,rfl⟩;unfold dS;refine Ê (wpAny_attempt (wpAny_callSpecial?_slot (name:=Ä "__next__") hT lH (wpAny_call_entry lH hT yu ?_ (yw _))));show Ç _ _ (field (.ref e) 2 >>= _) _ _ _;refine Ê (ŋ he rfl (x:=.ref it) rfl ?_);refine Ê (wpAny_nextOf_list_end hh z_ hl hx λh' x Vn FV=>?_);obtain⟨o,ho,hc⟩:=FV;refine Ê (wpAny_isInstance (T:= "StopIteration") (b:=true) ⟨o,ho,hc⟩ isSubtype_stop ?_);exact è (hQ _ Vn)
end
end Rj
end PySem
namespace P
open PySem PySem.Spec PyProof.Rows L2 M2 M3 M4
def Li(K:Æ)(a:À):It:=
 ⟨λi H=>∃xs x,ϐ K H a xs/\xs[i]?=some x,λi H y H'=>∃x T,(∀xs,ϐ K H a xs->xs[i]?=some x)/\H T=none/\y=.ref T/\H'=upd H T (.tup [.int (((i+1:Nat):Int)),x]),λi H=>∃xs,ϐ K H a xs/\xs.length<=i⟩
def xj{P:Ù}{w:Ô}{K:Æ}{elts:List Å}{k:Nat}{pos:Pos}(a e it:À)(kv:e≠it):AO P w K (.Tuple elts k pos) (Li K a) [e,it] e (λi h=>(∃iy,ϖ h e it (((i+1:Nat):Int)) iy)/\h.IsListIter it a i) where
 mem:=by simp
 obj:=λi h st b hb=>by
  obtain⟨⟨iy,he⟩,z_⟩:=st;rcases ė.mp hb with rfl|hb
  ·exact⟨_,he,fun v z=>by have z':Data.fields _=Data.cell v:=z;cases z'⟩
  ·have e':b=it:=by simpa using hb
   subst e';obtain⟨o,e1,c,d⟩:=z_;exact⟨o,e1,λv z=>by rw[d] at z;cases z⟩
 keep:=λi h h' st k=>⟨let ⟨iy,he⟩:=st.1;⟨iy,k e (by simp) _ he⟩,st.2.at λo q=>k it (by simp) o q⟩
 item:=by
  intro X hP hw hK hc i Ã s Z H E I hf st hg;subst hP hw hK;obtain⟨⟨iy,he⟩,z_⟩:=st;obtain⟨xs,x,hq,hx⟩:=hg;obtain⟨Ğ,rv,p,hz⟩:=I.list hq;obtain⟨u,hu,ru⟩:=rv.get hx;have elt:e<s.heap.objs.size:=í he;have X6:it<s.heap.objs.size:=by obtain⟨_,q,_⟩:=z_;exact í q
  refine Rj.Lg he z_ p.isList (x:=u) (by simpa using hu) kv λh' ho Vo hT xO hk=>?_;refine⟨.ref s.heap.objs.size,rfl,wpAny_letOwnedTupleGo_enum ho λRY Vn Qi=>?_⟩;have DK:am e h' RY:=Qi;have ku:∀b∈[e,it],b<s.heap.objs.size:=λb hb=>by
   rcases ė.mp hb with rfl|hb
   ·exact elt
   ·have e':b=it:=by simpa using hb
    subst e';exact X6
  have I2:=wY (fp:=[e,it]) (h':=RY) (t':=s.toks+1) (x1:=.int (((i+1:Nat):Int))) I ⟨s.toks,rfl⟩ ru ⟨_,(DK.2 _ (ai elt)).trans hT,rfl⟩ (λb o hb q=>by have uw:b≠e:=λz=>hb (by simp[z]);have Ny:b≠it:=λz=>hb (by simp[z]);exact(DK.2 b uw).trans (hk b o uw Ny q)) hf ku;refine⟨.ref s.heap.objs.size,_,I2,rfl,⟨x,s.heap.objs.size,λys hy=>by rw[I.uB hy hq];exact hx,I.fresh,rfl,rfl⟩,⟨⟨u,?_⟩,Vo.at λo q=>(DK.2 it kv.symm).trans q⟩,λb hb=>?_⟩
  ·have Jv:ϖ RY e it ((((i+1:Nat):Int))+1) u:=Vn;show ϖ RY e it (((i+1+1:Nat):Int)) u;rw[show(((i+1+1:Nat):Int))=((i+1:Nat):Int)+1 by lia];exact Jv
  ·rw[Ö (Ĥ (ku b hb))];exact(hf b hb).1
 done:=by intro X hP hw hK hc i Ã s Z H E I hf st hg;subst hP hw hK;obtain⟨⟨iy,he⟩,z_⟩:=st;obtain⟨xs,hq,hx⟩:=hg;obtain⟨Ğ,rv,p,hz⟩:=I.list hq;have hl:=rv.length;refine Rj.xi (I.ok.hd hc) he z_ p.isList (by simp;lia) λh' eb=>⟨rfl,turns (fp:=[e,it]) (t':=s.toks) I (λb o hb q=>eb b o (λz=>hb (by simp[z])) q) hf⟩
 self:=λ_ _ _ _ _ st h=>let ⟨_,he⟩:=st.1;wpAny_pyIter_enum he h
section
variable{X:Cx}{elts:List Å}{k:Nat}{tp:Pos}
def Lj(K:Æ)(ta:TA):TI:=λZ H R=>ta Z H λvs H1=>∃a,vs=[.ref a]/\(∃xs,ϐ K H1 a xs)/\R (Li K a) H1
def O7{M:ϔ}{A:Ú}{E:Á->Â->Prop}{s:Â}{pos:Pos}{T:String}{args:List (Bool×Sem Á)}{keywords:List (Option Str×Sem Á)}{Q:Á->Â->Prop}(ff:args.any (·.1)=false)(hkw:keywords.any (·.1.isNone)=false)
 (h:Ç M A (evalArgs (.type T) true args keywords) (λa s₁=>Ç M A (call (.type T) a.pos a.kw) Q E s₁) E s):Ç M A (iV pos (.type T) [] args keywords) Q E s:=by
 unfold iV;refine Ê (iX (ı h (λa s₁ h₁=>Ê (cF ?_)) λ_ _ x=>x));simp only[ff,hkw,qv];refine Ê (è ?_);exact Ê (ı h₁ (λr s₂ hr=>Ê (iX (wpAny_point (è hr)))) λ_ _ x=>x)
def Co{l:Å}{ta:TA}{p pos cp kp:Pos}{j:Nat}(hg:Gl X "enumerate")(hm:X.mg "enumerate" =none)(ha:PA X [l] ta)(hs:È [l] X.env=[(false,eval l X.env)]:=by exact į rfl) :
 PI X (.Tuple elts k tp) (.Call (.Name "enumerate" p) [l] [⟨some "start",.Constant (.int 1) j cp,kp⟩] pos) (Lj X.K ta):=by
 intro Ã s Z H R I h;refine bM (sf I hg hm boot_enumerate (O7 (by rw[hs];rfl) rfl ?_));have h':=ha pos Ã s Z H _ I h;rw[hs] at h' ⊢;refine evalArgs_kwB rfl (ň h' λus s1 ⟨vs,H1,I1,r1,q1⟩=>kws_cons (ň (se Ã s1 Z H1 (λx H'=>x=.int 1/\H'=H1) I1 ⟨rfl,rfl⟩) λv s2 ⟨x,H2,I2,r2,e1,e2⟩=>kws_nil ?_));subst e1 e2;obtain⟨t,rfl⟩:=r2;obtain⟨a,e,⟨xs,hq⟩,q⟩:=q1;subst e;obtain⟨u,rfl,ru⟩:=r1.one;cases ru;obtain⟨Ğ,rv,pl,hz⟩:=I2.list hq;refine Rj.O6 pl.isList λh' he z_ xO hk=>?_;have I3:Inv X Ã Z H2 {s2 with heap:=h'}:=I2.kept (t':=s2.toks) hk;refine wpAny_pyIter_enum (s:={s2 with heap:=h'}) he ⟨s2.heap.objs.size+1,[s2.heap.objs.size+1,s2.heap.objs.size],_,_,H2,rfl,I3,xj a _ _ (Nat.succ_ne_self _),⟨⟨_,he⟩,z_⟩,λb hb=>?_,q⟩;have Xl:s2.heap.objs.size<=b:=by
  rcases ė.mp hb with rfl|hb
  ·exact iI _
  ·have e':b=s2.heap.objs.size:=by simpa using hb
   exact qI e'.symm
 exact I2.A2 Xl (I2.hok.fresh Xl)
end
@[simp] def xk(m:M (List PV))(U:û):Ġ (List PV):= (m U).bind λps U1=>.ok (bG 1 ps) U1
def xl{K:KK}{L F:Hp}{a:À}{ps:List PV}(h:wF K L F (NI K.K a) ps):wF K L F (Li K.K a) (bG 1 ps):=by
 intro c i F2 H2 Z2 U2 rel sF sL;obtain⟨go,st⟩:=h c i F2 H2 Z2 U2 rel sF sL;refine⟨λp hp=>?_,λhi=>st (by rw[hi,qb])⟩;rw[qc] at hp;cases eq:ps[i]? with
 |none=>rw[eq] at hp;cases hp
 |some q=>rw[eq] at hp;have hp':PV.tup [.int ((1+i:Nat):Int),q]=p:=Ŋ hp;subst hp';obtain⟨⟨xs,x,hq,hx⟩,g2⟩:=go q eq;refine⟨⟨xs,x,hq,hx⟩,λy H' ⟨x',T,h1,hT,ey,eH⟩=>?_⟩;subst ey eH;obtain⟨F3,dz,s3,_,rp⟩:=g2 x' H2 ⟨rfl,h1⟩;obtain⟨r1,r2⟩:=Fa (p:=.int (((i+1:Nat):Int))) (x:=.int (((i+1:Nat):Int))) dz hT (by unfold ü;rfl) rp;refine⟨_,r1,s3.trans (Ò.upd (dz.sub.free hT)),Ò.upd hT,?_⟩;rw[Nat.add_comm 1 i];exact r2
section
variable{X:Cx}{cm:String->À}{E:ð->XK}{e:Å}
def Fg{elts:List Å}{k j:Nat}{tp p pos cp kp:Pos}{mi:M (List PV)}(hg:Gl X "enumerate")(hm:X.mg "enumerate" =none)(hl:PE X e (tG (kk X cm) E (VV (kk X cm)) mi))(hs:È [e] X.env=[(false,eval e X.env)]:=by exact į rfl) :
 PI X (.Tuple elts k tp) (.Call (.Name "enumerate" p) [e] [⟨some "start",.Constant (.int 1) j cp,kp⟩] pos) (tI (kk X cm) E (xk mi)):=λÃ s Z H R I h=>Co hg hm (Š hl aI hs) hs Ã s Z H R I (by
 obtain⟨c,F,U,rel,h⟩:=h;refine⟨c,F,U,rel,h.bind λps U1 v F1 H1 Ð s1 s2 q h1=>?_⟩;obtain⟨a,e1,e2,e3⟩:=q;subst e1;exact⟨a,rfl,e2,h1 _ F1 H1 Ð ċ ċ (xl e3)⟩)
end
end P
namespace Sp
open PySem PySem.Builtin PySem.Builtin.Str PySem.StrLaws
abbrev S(l:List Nat):ő:=⟨l.toArray⟩
noncomputable def Ħ(c:Nat):List Nat->List (List Nat)
 | []=>[[]]
 |x::xs=>if x=c then[]::Ħ c xs else(match Ħ c xs with
  | []=>[[x]]
  |p::ps=>(x::p)::ps)
theorem qh(c:Nat):∀l,∃p ps,Ħ c l=p::ps
 | []=>⟨_,_,rfl⟩
 |x::xs=>by
  unfold Ħ;split
  ·exact⟨_,_,rfl⟩
  ·split<;>exact⟨_,_,rfl⟩
noncomputable def la(c:Nat):Nat->List Nat->List Nat
 |_,[]=>[]
 |k,x::xs=>if x=c then k::la c (k+1) xs else la c (k+1) xs
theorem tj(x:ő)(c:Nat):∀(m a:Nat) (st:Array Nat×Nat),a+m=x.length+1->st.1.size<=a->st.2<=a->(forIn (List.range' a m) st (occBody x (S [c]) x.length (x.length+1))).run.fst.toList=st.1.toList++la c a (x.cps.toList.drop a)
 |0,a,st,h,_,_=>by have:x.cps.toList.drop a=[]:=cy (by simp[Ϙ] at h ⊢;lia);rw[this];simp[la]
 |m+1,a,st,h,h1,h2=>by
  rw[List.range'_succ,ly];unfold occBody;have hl:x.cps.toList.length=x.length:=by simp[Ϙ]
  by_cases ha:a<x.length
  ·have hd:x.cps.toList.drop a=x.cps.toList[a]::x.cps.toList.drop (a+1):=dQ (by lia);have hs:subAt x (S [c]) a=decide (x.cps.toList[a]=c):=by
    rw[subAt_eq,hd];show(List.take 1 _== [c])=_;rw[x_,List.take_zero,lq];simp
   by_cases hc:x.cps.toList[a]=c
   ·rw[if_pos ⟨⟨⟨by lia,h2⟩,show a+1<=x.length by lia⟩,by rw[hs];simpa using hc⟩];have ih:=tj x c m (a+1) (st.1.push a,a+1) (by lia) (by simp;lia) (â _);refine ih.trans ?_;rw[hd,la,if_pos hc];simp
   ·rw[if_neg λz=>hc (by have:=z.2;rw[hs] at this;simpa using this)];have ih:=tj x c m (a+1) (st.1,st.2) (by lia) (by show st.1.size<=a+1;lia) (by show st.2<=a+1;lia);refine ih.trans ?_;rw[hd,la,if_neg hc]
  ·rw[if_neg λz=>ha (by have:=z.1.2;show a<x.length;have e:(S [c]).length=1:=rfl;lia)];have ih:=tj x c m (a+1) (st.1,st.2) (by lia) (by show st.1.size<=a+1;lia) (by show st.2<=a+1;lia);refine ih.trans ?_;have e1:x.cps.toList.drop a=[]:=cy (by lia);have e2:x.cps.toList.drop (a+1)=[]:=cy (by lia);rw[e1,e2];rfl
def Lk(x:ő)(c:Nat):dZ x (S [c]) 0 x.length (x.length+1)=la c 0 x.cps.toList:=by rw[occ_eq,tj x c _ 0 _ (by lia) (â _) (â _)];simp
def Cp(x:ő)(i j:Nat):strSub x i j=S ((x.cps.toList.drop i).take (j-i)):=by apply ao;apply Array.toList_inj.mp;rw[strSub_toList]
theorem nF(x:ő)(c:Nat):∀(m a b:Nat),b+m=x.length->a<=b->∀p ps,Ħ c (x.cps.toList.drop b)=p::ps->partsFrom x 1 a (la c b (x.cps.toList.drop b))=S ((x.cps.toList.drop a).take (b-a)++p)::ps.map S
 |0,a,b,h,hab,p,ps,e=>by
  have hl:x.cps.toList.length=x.length:=by simp[Ϙ]
  have:x.cps.toList.drop b=[]:=cy (by lia);rw[this] at e ⊢;cases e;show[strSub x a x.length]=_;rw[Cp,show x.length=b by lia];simp
 |m+1,a,b,h,hab,p,ps,e=>by
  have hl:x.cps.toList.length=x.length:=by simp[Ϙ]
  have hd:x.cps.toList.drop b=x.cps.toList[b]::x.cps.toList.drop (b+1):=dQ (by lia);obtain⟨q,qs,eq⟩:=qh c (x.cps.toList.drop (b+1));rw[hd] at e ⊢;rw[Ħ] at e;rw[la];by_cases hc:x.cps.toList[b]=c
  ·rw[if_pos hc] at e ⊢;cases e;show strSub x a b::partsFrom x 1 (b+1) (la c (b+1) (x.cps.toList.drop (b+1)))=_;rw[nF x c m (b+1) (b+1) (by lia) (â _) q qs eq,Cp,eq];simp
  ·rw[if_neg hc] at e ⊢;rw[eq] at e;injection e with e1 e2
   subst e1 e2;rw[nF x c m a (b+1) (by lia) (by lia) q qs eq];congr 2;have:(x.cps.toList.drop a).take (b+1-a)=(x.cps.toList.drop a).take (b-a) ++ [x.cps.toList[b]]:=by rw[show b+1-a=(b-a)+1 by lia,List.take_succ];congr 1;rw[List.getElem?_drop,show a+(b-a)=b by lia,Ϭ (by lia)];rfl
   rw[this];simp
theorem zx(c:Nat):∀(l:List Nat) (k:Nat),la c k l=[]->Ħ c l=[l]
 | [],k,_=>rfl
 |x::xs,k,h=>by
  unfold la at h;split at h
  ·cases h
  ·rename_i hc;unfold Ħ;rw[if_neg hc,zx c xs (k+1) h]
theorem Ll(c:Nat):∀(l:List Nat),c∉l->Ħ c l=[l]
 | [],_=>rfl
 |x::xs,h=>by unfold Ħ;rw[if_neg λz=>h (by simp[z]),Ll c xs λz=>h (ù _ z)]
def O8{c:Nat}(h:c<256):gw (S [c])=1:=by unfold gw;rw[if_pos (by simpa using h)]
def Fh(x:ő):1<=gw x:=by
 unfold gw;split
 ·lia
 ·split<;>lia
def vp(x:ő){c:Nat}(h:c<256):Txt.split x (S [c])=(Ħ c x.cps.toList).map S:=by
 have hl:x.cps.toList.length=x.length:=by simp[Ϙ]
 have whole:S x.cps.toList=x:=ao (by simp);have hk:=Fh x;unfold Txt.split;split
 ·rename_i h1;rw[O8 h] at h1;have h0:x.length=0:=by
   simp only[Bool.or_eq_true,decide_eq_true_eq] at h1;have e:(S [c]).length=1:=rfl;lia
  have:x.cps.toList=[]:=lA.mp (by lia);have e:Ħ c x.cps.toList=[x.cps.toList]:=Ll c _ (by rw[this];simp);rw[e,á,Ũ,whole]
 ·rw[Lk];split
  ·rename_i h2;rw[zx c _ 0 (by simpa using h2),á,Ũ,whole]
  ·obtain⟨p,ps,e⟩:=qh c x.cps.toList;rw[partsBetween_eq];have:=nF x c x.length 0 0 (by lia) (â _) p ps (by rw[lz];exact e);rw[lz] at this;rw[e];show partsFrom x 1 0 _=_;rw[this];simp
theorem eW(c:Nat):∀(ys:List (List Nat)),ys≠[]->(∀y∈ys,c∉y)->Ħ c (M4.Ĭ [c] ys)=ys
 | [],h,_=>absurd rfl h
 | [x],_,hn=>Ll c x (hn x (by simp))
 |x::y::r,_,hn=>by
  have ih:=eW c (y::r) (by simp) λz hz=>hn z (ù _ hz);have go:∀(x:List Nat),c∉x->Ħ c (x ++ [c]++M4.Ĭ [c] (y::r))=x::y::r:=by
   intro x
   induction x with
   |nil=>intro _;show Ħ c (c::M4.Ĭ [c] (y::r))=_;rw[Ħ,if_pos rfl,ih]
   |cons a x X7=>intro h;show Ħ c (a::(x ++ [c]++M4.Ĭ [c] (y::r)))=_;rw[Ħ,if_neg λz=>h (by simp[z]),X7 λz=>h (ù _ z)]
  exact go x (hn x (by simp))
theorem nG(c:Nat):∀l,(Ħ c l).length<=l.length+1
 | []=>by simp[Ħ]
 |x::xs=>by
  have ih:=nG c xs;unfold Ħ;split
  ·simp;lia
  ·split
   ·simp
   ·rename_i e;rw[e] at ih;simp at ih ⊢;lia
end Sp
namespace P
open PySem PySem.Spec PyProof.Rows L2 M2 M3 M4 PySem.Builtin PySem.Builtin.Str
section
variable{prog:Ù}{w:Ô}{A:Ú}{E:Á->Â->Prop}{s:Â}{x y:ő}{t u:Tok}{Q:Á->Â->Prop}
def Fi(hy:(y.length== 0)=false)(hq:∀l k,l.map (·.1)=Txt.split x y->Q (.ref s.heap.objs.size) {s with heap:=s.heap.push {cls:=.type "list",data:=.seq (strValues l).toArray},toks:=k})
 (xO:x.length<=sizeLine)(Vp:(partsBetween x (dZ x y 0 x.length (x.length+1)) y.length).length<=sizeLine):Ç (É prog w) A (call (.builtin "str.split") [.str x t,.str y u]) Q E s:=by
 cases h1:(decide (x.length<y.length) || decide (gw x<gw y))
 ·cases hf:(dZ x y 0 x.length (x.length+1)).isEmpty
  ·refine gn gy (dW _ _ _) rh (ri _ _) (meets_str_split_sep x y t u h1 hy hf xO Vp) ?_;show wants Q E _ {s with toks:=_,heap:=s.heap.push {cls:=.type "list",data:=.seq (strsFrom s.toks (partsBetween x (dZ x y 0 x.length (x.length+1)) y.length)).toArray}};rw[strsFrom_eq];exact hq (numbered s.toks _) _ ((numbered_texts _ _).trans ((if_neg (ne_true_of_eq_false h1)).trans (if_neg (ne_true_of_eq_false hf))).symm)
  ·exact gn gy (dW _ _ _) rh (ri _ _) (meets_str_split_not_found x y t u h1 hy hf) (hq [(x,t)] s.toks ((if_neg (ne_true_of_eq_false h1)).trans (if_pos hf)).symm)
 ·exact gn gy (dW _ _ _) rh (ri _ _) (meets_str_split_cannot_occur x y t u h1) (hq [(x,t)] s.toks (if_pos h1).symm)
end
theorem gM:∀(l:List (ő×Tok)) (ys:List (List Nat)),l.map (·.1)=ys.map S->ġ (ys.map λy=>V.str (S y)) (strValues l)
 | [],[],_=>.nil
 | [],_::_,h=>by cases h
 |_::_,[],h=>by cases h
 |(a,t)::l,y::ys,h=>by
  rw[á,á] at h;injection h with h1 h2
  have zZ:a=S y:=h1;subst zZ;exact .cons ⟨t,rfl⟩ (gM l ys h2)
def xm:V->List V->Hp->VK->Prop:=λx xs H Q=>match x,xs with
 | .str z,[.str y]=>∃c,y=S [c]/\c<256/\z.length+2<=16777216/\∀p,H p=none->Q (.ref p) (upd H p (.lst ((Sp.Ħ c z.cps.toList).map λl=>.str (S l))))
 |_,_=>False
def nH{X:Cx}:Ni X "str.split" xm:=by
 intro Ã s Z H x xs v us Q I rx rs h;unfold xm at h;split at h
 ·rename_i z y;obtain⟨c,rfl,hc,hz,q⟩:=h;obtain⟨t,rfl⟩:=rx;obtain⟨u,rfl,ru⟩:=vals1 rs;obtain⟨t',rfl⟩:=ru;have hl:z.cps.toList.length=z.length:=by simp[Ϙ]
  refine Fi rfl (λl k e=>?_) (by rw[Ϯ];lia) (by rw[length_partsBetween,Ϯ];have:=StrLaws.occ_length_le z (S [c]) 0 z.length (z.length+1);lia);rw[Sp.vp z hc] at e;have hn:(strValues l).length<=sizeLine:=by have:=(gM l _ e).length;rw[<-this,Ŏ,Ϯ];have:=Sp.nG c z.cps.toList;lia
  refine⟨.ref s.heap.objs.size,_,I.laid (o:=.lst ((Sp.Ħ c z.cps.toList).map λl=>.str (S l))) (t':=k) (λb u q=>ô _ q) (â _) ⟨?_,strValues l,0,gM l _ e,ļ _ rfl⟩,rfl,q _ I.fresh⟩;rw[(gM l _ e).length];exact hn
 ·exact h.elim
def V1(K:KK)(r:V->List V->Hp->VK->Prop)(f:PV->List PV->Option RV):Prop:=∀{c:Ctx} {F H:Hp} {Z:ð} {U:û} {p:PV} {ps:List PV} {pv:RV} {v:V} {vs:List V} {Q:VK},Ā K c F H Z U->rR K c Z U F H p v->Nk K c Z U F H ps vs->f p ps=some pv->
 (∀z F' H',Ā K c F' H' Z U->Ò F F'->Ò H H'->rO K c Z U F' H' pv z->Q z H')->r v vs H Q
@[simp] def AA(f:PV→List PV→Option RV)(mo:M PV)(ms:M (List PV))(U:û):Ġ RV:= (mo U).bind fun p U1=>match p with
  | .str _=>(ms U1).bind λps U2=>Ġ.zc (f p ps) U2
  |_=>.bad
def AB:ő->Option Nat:=λy=>match y.cps.toList with
 | [c]=>some c
 |_=>none
def ϻ:PV->List PV->Option RV
 | .str z,[.str y]=>(AB y).bind λc=>if c<256/\z.length+2<=16777216 then some (.ow ((Sp.Ħ c z.cps.toList).map λl=>.str (S l))) else none
 |_,_=>none
theorem qi{K:KK}{F:Hp}:∀ys:List (List Nat),Õ K F (ys.map λl=>.str (S l)) (ys.map λl=>.str (S l))
 | []=>Õ.nil
 |y::ys=>Õ.cons ü.str (qi ys)
def nI{K:KK}:V1 K xm ϻ:=by
 intro c F H Z U p ps pv v vs Q rel r1 r2 e k;unfold ϻ at e;split at e
 ·rename_i z y;cases r1.str;obtain⟨u,rfl,r3⟩:=uT r2;cases r3.str;obtain⟨c',ec,e⟩:=qL.mp e;split at e
  ·rename_i hz;cases e;have ey:y=S [c']:=by
    unfold AB at ec;split at ec
    ·rename_i c2 e2;cases ec;exact ao (by rw[show y.cps=y.cps.toList.toArray by simp,e2])
    ·cases ec
   refine⟨c',ey,hz.1,hz.2,λq hq=>?_⟩;obtain⟨a1,a2⟩:=dv rel hq (qi (K:=K) (F:=F) (Sp.Ħ c' z.cps.toList));exact k _ F _ a1 ċ (Ò.upd hq) a2
  ·cases e
 ·cases e
section
variable{X:Cx}{cm:String->À}{K:KK}{E:ð->XK}{o e:Å}{es:List Å}{name:Str}{fe Ϩ pos:Pos}{id:String}{r:V->List V->Hp->VK->Prop}{f:PV->List PV->Option RV}{mo m:M PV}{ms:M (List PV)}
def Lm(pa:PlainAttrs "str")(slot:PySem.Slot "str" name id)(gd:typeOf (.builtin id)=pure (.type "method_descriptor"))(hf:V1 (kk X cm) r f)(hm:Ni X id r)(ho:PE X o (tR (kk X cm) E mo))(ha:PA X (e::es) (DZ (kk X cm) E ms))
 (bq:ϯ o name X.env (eval o X.env)=eval o X.env:=by rfl)
 (ge:((ñ Ϩ (È (e::es) X.env)).all (fun x=>!x.1) && (ϱ Ϩ (ϲ [] X.env)).all (fun x=>x.1.isSome)
   && decide ((e::es).length+([]:List Ł).length+(if([]:List Ł).isEmpty then 0 else 1)<30))=true:=by rfl)
 (br:(fe.endLine== Ϩ.line)=true:=by rfl)(hs:È (e::es) X.env=(false,eval e X.env)::È es X.env:=by exact į rfl)(ff:(ñ Ϩ (È es X.env)).any (·.1)=false:=by rfl) :
 PE X (.Call (.Attribute o name fe) (e::es) [] Ϩ) (tO (kk X cm) E (AA f mo ms)):=
 PE.wk (gS pa slot gd hm ho ha bq ge br hs ff) fun Z H Q ⟨c,F,U,rel,h⟩=>⟨c,F,U,rel,Ť.bind h fun p U1 v F1 H1 Ð _ _ r1 h1=>by
   cases p with
   |str z=>
    cases r1.str;refine⟨rfl,c,F1,U1,Ð,Ť.bind h1 λps U2 vs F2 H2 đ sF sH r2 h2=>?_⟩;cases ef:f (.str z) ps with
    |none=>rw[ef] at h2;exact h2.elim
    |some pv=>rw[ef] at h2;exact hf đ (.inl (ü.str (K:=kk X cm) (F:=F2))) r2 ef λz F' H' ĵ s1 s2 q'=>h2 z F' H' ĵ s1 s2 q'
   |_=>exact h1.elim⟩
def AC(m:M PV):M PV:=λU=>(m U).bind λp U1=>match p with
 | .str x=>if x.length<=16777216 then .ok (.str x) U1 else .bad
 | .int i=>if i.natAbs.log2<1920 then .ok (.str (ϙ i)) U1 else .bad
 |_=>.bad
def GR(he:PE X e (tV (kk X cm) E m)):PE X (.FormattedValue e (-1) none pos) (tV (kk X cm) E (AC m)):=by
 intro Ã s Z H Q I ⟨c,F,U,rel,h⟩;refine FormattedValue_plain (ň (he Ã s Z H (λv H1=>(∃x,v=.str x/\x.length<=16777216/\Q (.str x) H1)\/∃i:Int,v=.int i/\i.natAbs.log2<1920/\Q (.str (ϙ i)) H1) I ⟨c,F,U,rel,Ť.bind h λp U1 v F1 H1 Ð _ _ r1 h1=>?_⟩) λv s1 ⟨x,H1,I1,r1,q1⟩=>?_)
 ·cases p with
  |str x=>
   have ev:v=.str x:=by have dM:ü (kk X cm) F1 (.str x) v:=r1;unfold ü at dM;exact dM
   dsimp only at h1;split at h1
   ·rename_i hz;exact .inl ⟨x,ev,hz,h1 _ F1 H1 Ð ċ ċ ü.str⟩
   ·exact h1.elim
  |int i=>
   have ev:v=.int i:=by have dM:ü (kk X cm) F1 (.int i) v:=r1;unfold ü at dM;exact dM
   dsimp only at h1;split at h1
   ·rename_i hz;exact .inr ⟨i,ev,hz,h1 _ F1 H1 Ð ċ ċ ü.str⟩
   ·exact h1.elim
  |_=>exact h1.elim
 ·rcases q1 with⟨y,rfl,hz,q⟩|⟨i,rfl,hz,q⟩
  ·obtain⟨t,rfl⟩:=r1;exact formatField_str (λt' tk=>⟨.str y,H1,I1.tok _,⟨t',rfl⟩,q⟩) (by rw[Ϯ];exact hz)
  ·obtain⟨t,rfl⟩:=r1;exact formatField_int_small hz ⟨.str (ϙ i),H1,I1.tok _,⟨_,rfl⟩,q⟩
noncomputable def Fj:List (M PV)->ő->M PV
 | [],out=>λU=>.ok (.str out) U
 |m::ms,out=>λU=>(m U).bind λp U1=>match p with
  | .str y=>if(out++y).length<=16777216 then Fj ms (out++y) U1 else .bad
  |_=>.bad
def PJ(X:Cx)(cm:String->À)(E:ð->XK)(es:List Å)(ms:List (M PV)):Prop:=∀out Ã s Z H Q,out.length<=sizeLine->Inv X Ã Z H s->tV (kk X cm) E (Fj ms out) Z H Q->Ç (É X.prog X.w) X.A (joinParts out (iZ es X.env)) (EP X Ã Z Q) X.xe s
def Lo:PJ X cm E [] []:=λout Ã s Z H Q hz I ⟨c,F,U,rel,h⟩=>joinParts_nil ⟨.str out,H,I.tok _,⟨_,rfl⟩,h _ F H rel ċ ċ ü.str⟩ hz
def lZ{ms:List (M PV)}(he:PE X e (tV (kk X cm) E m))(hr:PJ X cm E es ms)(hs:iZ (e::es) X.env=eval e X.env::iZ es X.env:=by rfl):PJ X cm E (e::es) (m::ms):=λout Ã s Z H Q hz I ⟨c,F,U,rel,h⟩=>by
 rw[hs];refine joinParts_cons (ň (he Ã s Z H (λv H1=>∃y,v=.str y/\(out++y).length<=16777216/\tV (kk X cm) E (Fj ms (out++y)) Z H1 Q) I ⟨c,F,U,rel,Ť.bind h λp U1 v F1 H1 Ð _ _ r1 h1=>?_⟩) λv s1 ⟨x,H1,I1,r1,y,e1,Vq,q1⟩=>?_)
 ·cases p with
  |str y=>
   have ev:v=.str y:=by have dM:ü (kk X cm) F1 (.str y) v:=r1;unfold ü at dM;exact dM
   dsimp only at h1;split at h1
   ·rename_i Vq;exact⟨y,ev,Vq,c,F1,U1,Ð,h1⟩
   ·exact h1.elim
  |_=>exact h1.elim
 ·subst e1;obtain⟨t,rfl⟩:=r1;have RQ:(out++y).length<=sizeLine:=by rw[Ϯ];exact Vq
  exact⟨RQ,hr (out++y) Ã s1 Z H1 Q RQ I1 q1⟩
def Uh{e2:Å}{m2:M PV}{ms:List (M PV)}(h:PJ X cm E (e::e2::es) (m::m2::ms))(hs:iZ (e::e2::es) X.env=eval e X.env::eval e2 X.env::iZ es X.env:=by rfl):PE X (.JoinedStr (e::e2::es) pos) (tV (kk X cm) E (Fj (m::m2::ms) eh)):=λÃ s Z H Q I hq=>by refine JoinedStr_many ?_;rw[<-hs];exact h eh Ã s Z H Q (by decide) I hq
@[simp] theorem Lp{U:û}:AC m U=(m U).bind fun p U1=>match p with
  | .str x=>if x.length<=16777216 then .ok (.str x) U1 else .bad
  | .int i=>if i.natAbs.log2<1920 then .ok (.str (ϙ i)) U1 else .bad
  |_=>.bad:=rfl
@[simp] theorem Cq{out:ő}{U:û}:Fj [] out U=.ok (.str out) U:= rfl
@[simp] theorem Cr{ms:List (M PV)}{out:ő}{U:û}:Fj (m::ms) out U=(m U).bind fun p U1=>match p with
  | .str y=>if(out++y).length<=16777216 then Fj ms (out++y) U1 else .bad
  |_=>.bad:=rfl
end
section
variable{X:Cx}{K:KK}
def GS:List V->Hp->VK->Prop:=λxs H Q=>B8 xs H Q\/∃z n,xs=[.str z]/\i_ z=some n/\z.length<=640/\Q (.int n) H
def zy:ū X (.type "int") GS:=by
 intro Ã s Z H vs us Q I r h;rcases h with h|⟨z,n,rfl,h1,h2,q⟩
 ·exact KP Ã s Z H vs us Q I r h
 ·obtain⟨u,rfl,ru⟩:=vals1 r;obtain⟨t,rfl⟩:=ru;exact PySem.W.KIN.call_text h1 h2 ⟨.int n,H,I.tok _,⟨_,rfl⟩,q⟩
def fj:List PV->Option PV
 | [.str z]=>if z.length<=640 then(i_ z).map .int else none
 |ps=>wX ps
def zz:fQ K GS fj:=by
 intro c F H Z U ps pv vs Q rel r e k;unfold fj at e;split at e
 ·rename_i z;split at e
  ·rename_i hz;obtain⟨n,e1,rfl⟩:=iJ.mp e;obtain⟨v,rfl,r1⟩:=uT r;cases r1.str;exact .inr ⟨z,n,rfl,e1,hz,k _ F H rel ċ ċ ü.int⟩
  ·cases e
 ·exact .inl (KQ rel r e k)
def GU:List V->Hp->VK->Prop:=λxs H Q=>B9 xs H Q\/∃z,xs=[.str z]/\Q (.str z) H
def aZ:ū X (.type "str") GU:=by
 intro Ã s Z H vs us Q I r h;rcases h with h|⟨z,rfl,q⟩
 ·exact KR Ã s Z H vs us Q I r h
 ·obtain⟨u,rfl,ru⟩:=vals1 r;obtain⟨t,rfl⟩:=ru;exact PySem.P.str_of_str ⟨.str z,H,I,⟨t,rfl⟩,q⟩
def ώ:List PV->Option PV
 | [.str z]=>some (.str z)
 |ps=>E8 ps
def a_:fQ K GU ώ:=by
 intro c F H Z U ps pv vs Q rel r e k;unfold ώ at e;split at e
 ·cases e;obtain⟨v,rfl,r1⟩:=uT r;cases r1.str;exact .inr ⟨_,rfl,k _ F H rel ċ ċ ü.str⟩
 ·exact .inl (KS rel r e k)
@[simp] theorem O9{z:ő}:fj [.str z]=if z.length<=640 then(i_ z).map .int else none:=rfl
@[simp] theorem Pa{i:Int}:fj [.int i]=some (.int i):=rfl
@[simp] theorem Pb{i:Bool}:fj [.bl i]=some (.int (if i then 1 else 0)):=rfl
@[simp] theorem Pc{z:ő}:ώ [.str z]=some (.str z):=rfl
@[simp] theorem dF{i:Int}:ώ [.int i]=if i.natAbs.log2<1920 then some (.str (ϙ i)) else none:=rfl
end
section
end
end P
namespace Sp
open PySem PySem.Builtin PySem.Builtin.Str PySem.StrLaws
def Pd(x:ő)(c:Nat):(!(dZ x (S [c]) 0 x.length 1).isEmpty)=decide (c∈x.cps.toList):=by
 have hl:x.cps.toList.length=x.length:=by simp[Ϙ]
 have h:=occ_none x (S [c]) x.length (List.range' 0 (x.length+1)) 0 (λ_ _=>Ÿ _);have e:(dZ x (S [c]) 0 x.length 1).isEmpty=true↔¬c∈x.cps.toList:=by
  rw[occ_eq];rw[List.isEmpty_iff,Array.toList_eq_nil_iff];refine h.trans ?_;have hs:∀i,(hi:i<x.length)->(subAt x (S [c]) i=true↔x.cps.toList[i]'(by lia)=c):=λi hi=>by rw[subAt_eq,dQ (by lia)];show((List.take 1 _== [c])=true)↔_;rw[x_,List.take_zero];simp
  constructor
  ·intro q z;obtain⟨i,hi,e⟩:=List.getElem_of_mem z;exact q i (by simp;lia) ⟨show i+1<=x.length by lia,(hs i (by lia)).mpr e⟩
  ·intro q i _ ⟨z1,z2⟩;have z1':i+1<=x.length:=z1;exact q ((hs i (by lia)).mp z2▸qB _)
 cases q:(dZ x (S [c]) 0 x.length 1).isEmpty with
 |true=>have:=e.mp q;simp[this]
 |false=>
  have:c∈x.cps.toList:=xU λz=>by rw[e.mpr z] at q;cases q
  simp[this]
end Sp
namespace P
open PySem PySem.Spec PyProof.Rows L2 M2 M3 M4
def Ui:R2:=λx y H Q=>∃c z,x=.str (S [c])/\y=.str z/\Q (.bl (decide (c∈z.cps.toList))) H
def D0(p q:PV):Option PV:=match p,q with
 | .str y,.str z=>(AB y).map λc=>.bl (decide (c∈z.cps.toList))
 |_,_=>DV false p q
def Pe(K:Æ):R2:=λx y H Q=>Ui x y H Q\/KY K false x y H Q
section
variable{X:Cx}{K:KK}
def xp(hu:X.A.units+64<ź):Ϸ X (Ę .In) (Pe X.K):=by
 intro Ã s Z H x y v u Q I rx ry h;rcases h with⟨c,z,rfl,rfl,q⟩|h
 ·obtain⟨t,rfl⟩:=rx;obtain⟨t',rfl⟩:=ry;refine in_str ?_;rw[Sp.Pd z c];exact⟨.bl _,H,I,rfl,q⟩
 ·exact KZ hu Ã s Z H x y v u Q I rx ry h
def xq:gP K (Pe K.K) D0:=by
 intro c F H Z U p q pv v u Q rel r1 r2 e k;unfold D0 at e;split at e
 ·rename_i y z;obtain⟨c',ec,rfl⟩:=iJ.mp e;cases r1.str;cases r2.str;have ey:y=S [c']:=by
   unfold AB at ec;split at ec
   ·rename_i c2 e2;cases ec;exact ao (by rw[show y.cps=y.cps.toList.toArray by simp,e2])
   ·cases ec
  exact .inl ⟨c',z,by rw[ey],rfl,k _ F H rel ċ ċ ü.bl⟩
 ·exact .inr (K_ rel r1 r2 e k)
end
@[simp] theorem Uj{c:Nat}{z:ő}:D0 (.str ⟨#[c]⟩) (.str z)=some (.bl (decide (c∈z.cps.toList))):=rfl
@[simp] theorem Rk{p:PV}{ps:List PV}:D0 p (.lst ps)=DV false p (.lst ps):=by cases p<;>rfl
@[simp] theorem Rl{p:PV}{ps:List PV}:D0 p (.tup ps)=DV false p (.tup ps):=by cases p<;>rfl
section
end
section
end
mutual
def jC(K:Æ)(cm:String->À):PV->Á->Bool
 | .int i,v=>match v with
   | .int j _=>decide (i=j)
   |_=>false
 | .cls C,v=>match v with
   | .ref a=>decide (a=cm C)
   |_=>false
 | .tup ps,v=>match v with
   | .ref a=>match K.lookup a with
     |some o=>(match o.cls with
      | .type t=>decide (t= "tuple")
      |_=>false) && match o.data with
      | .seq Ğ _=>decide (Ğ.size<=16777216) && vq K cm ps Ğ.toList
      |_=>false
     |none=>false
   |_=>false
 |_,_=>false
def vq(K:Æ)(cm:String->À):List PV->List Á->Bool
 | [],vs=>vs.isEmpty
 |p::ps,vs=>match vs with
  |v::r=>jC K cm p v && vq K cm ps r
  | []=>false
end
mutual
theorem vt{K:KK}:∀(p:PV) (v:Á),jC K.K K.cm p v=true->∃x,RelV x v/\∀F,ü K F p x
 | .int i,v,h=>by
   unfold jC at h;split at h
   ·rename_i j t;have:=of_decide_eq_true h;subst this;exact⟨.int i,⟨t,rfl⟩,λF=>by unfold ü;rfl⟩
   ·cases h
 | .cls C,v,h=>by
   unfold jC at h;split at h
   ·rename_i a;have:=of_decide_eq_true h;subst this;exact⟨.ref (K.cm C),rfl,λF=>by unfold ü;rfl⟩
   ·cases h
 | .tup ps,v,h=>by
   unfold jC at h;split at h
   ·rename_i a;split at h
    ·rename_i o ho;rw[Ą] at h;obtain⟨h1,h2⟩:=h;split at h1
     ·rename_i t ht;have et:=of_decide_eq_true h1;subst et;split at h2
      ·rename_i Ğ n hd;rw[Ą] at h2;obtain⟨xs,h3,h4⟩:=qj ps Ğ.toList h2.2;refine⟨.ref a,rfl,λF=>?_⟩;unfold ü;exact⟨a,xs,rfl,.inr ⟨o,Ğ,n,ho,ht,hd,by rw[ă];exact of_decide_eq_true h2.1,h3⟩,h4 F⟩
      ·cases h2
     ·cases h1
    ·cases h
   ·cases h
 | .non,_,h=>by unfold jC at h;cases h
 | .bl _,_,h=>by unfold jC at h;cases h
 | .str _,_,h=>by unfold jC at h;cases h
 | .lst _,_,h=>by unfold jC at h;cases h
 | .ins _ _ _,_,h=>by unfold jC at h;cases h
 | .xc _ _ _,_,h=>by unfold jC at h;cases h
 | .ty _,_,h=>by unfold jC at h;cases h
theorem qj{K:KK}:∀(ps:List PV) (vs:List Á),vq K.K K.cm ps vs=true->∃xs,ġ xs vs/\∀F,Õ K F ps xs
 | [],vs,h=>by
   unfold vq at h;cases vs with
   |nil=>exact⟨[],.nil,λF=>Õ.nil⟩
   |cons _ _=>cases h
 |p::ps,vs,h=>by
  unfold vq at h;cases vs with
  |nil=>cases h
  |cons v r=>rw[Ą] at h;obtain⟨x,h1,h2⟩:=vt p v h.1;obtain⟨xs,h3,h4⟩:=qj ps r h.2;exact⟨x::xs,.cons h1 h3,λF=>Õ.cons (h2 F) (h4 F)⟩
end
noncomputable def AD(K:Æ)(cm:String->À):List (Str×PV)->List iS->Bool
 | [],es=>es.isEmpty
 |(x,p)::t,es=>match es with
  |e::r=>bR x e.key && jC K cm p e.val && AD K cm t r
  | []=>false
theorem nJ{K:Æ}{cm:String->À}(z:Str):∀{Ϗ:List (Str×PV)} {es:List iS},AD K cm Ϗ es=true->(Ϗ.lookup z=none/\(es.find? λe=>bR z e.key)=none)\/∃p e,Ϗ.lookup z=some p/\(es.find? λe=>bR z e.key)=some e/\jC K cm p e.val=true
 | [],es,h=>by
   unfold AD at h;cases es with
   |nil=>exact .inl ⟨rfl,rfl⟩
   |cons _ _=>cases h
 |(x,p)::t,es,h=>by
  unfold AD at h;cases es with
  |nil=>cases h
  |cons e r=>
   dsimp only at h;rw[Ą,Ą] at h;obtain⟨⟨h1,h2⟩,h3⟩:=h;by_cases hz:z=x
   ·subst hz;exact .inr ⟨p,e,by simp,by simp[h1],h2⟩
   ·have n1:bR z e.key=false:=by
     cases q:bR z e.key with
     |false=>rfl
     |true=>exact absurd (Value.isStrOf_inj _ _ _ q h1) hz
    have n2:(z== x)=false:=by simpa using hz
    rcases nJ z h3 with⟨q1,q2⟩|⟨p',e',q1,q2,q3⟩
    ·exact .inl ⟨by rw[İ,n2];exact q1,by rw[List.find?_cons,n1];exact q2⟩
    ·exact .inr ⟨p',e',by rw[İ,n2];exact q1,by rw[List.find?_cons,n1];exact q2,q3⟩
def tq(K:Æ)(cm:String->À)(P:ĺ)(a:À)(Ϗ:List (Str×PV)):Prop:=∃es n,K.lookup a=some ⟨.type "dict",none,.dict es n,#[]⟩/\PySem.W.KeysLit P es.toList/\AD K cm Ϗ es.toList=true/\(a== iL)=false
noncomputable def Fk(nm:String)(Ϗ:List (Str×PV)):PV->PV->Option PV
 | .str z,.cls n=>if n=nm then some (.bl (!(Ϗ.lookup z).isSome)) else none
 |_,_=>none
def Fm(nm:String)(Ϗ:List (Str×PV)):PV->PV->Option PV
 | .cls n,.str z=>if n=nm then Ϗ.lookup z else none
 |_,_=>none
def GV(a:À)(Ϗ:List (Str×PV)):R2:=λx y H Q=>∃z,x=.str z/\y=.ref a/\Q (.bl (!(Ϗ.lookup z).isSome)) H
def GW(K:KK)(a:À)(Ϗ:List (Str×PV)):R2:=λx y H Q=>∃z p,x=.ref a/\y=.str z/\Ϗ.lookup z=some p/\∀v,(∀F,ü K F p v)->Q v H
def kE(z:Str)(es:Array iS):findBy bR es z=(es.toList.find? λe=>bR z e.key).map (·.val):=by obtain⟨l⟩:=es;unfold findBy;rw[List.find?_toArray]
section
variable{X:Cx}{cm:String->À}{a:À}{Ϗ:List (Str×PV)}{nm:String}
def Fn(h:tq X.K cm X.w.params a Ϗ):Ϸ X (Ę .NotIn) (GV a Ϗ):=by
 intro Ã s Z H x y v u Q I rx ry hq;obtain⟨z,rfl,rfl,q⟩:=hq;obtain⟨t,rfl⟩:=rx;cases ry;obtain⟨es,n,h1,h2,h3,h4⟩:=h;refine wpAny_notIn_of (strKind_is X.prog X.w z t) h4 (PySem.W.mapOf_K (prog:=X.prog) I.fv h1 h2) ⟨.bl _,H,I.tok _,rfl,?_⟩;have e:(findBy bR es z).isSome=(Ϗ.lookup z).isSome:=by rw[kE];rcases nJ z h3 with⟨q1,q2⟩|⟨p,e,q1,q2,q3⟩<;>rw[q1,q2]<;>rfl
 rw[e];exact q
def Lq(h:tq X.K cm X.w.params a Ϗ):wb X (GW (kk X cm) a Ϗ):=by
 intro value slice Ã s Z H x y v u Q I rx ry hq hs;obtain⟨z,p,rfl,rfl,hl,q⟩:=hq;cases rx;obtain⟨t,rfl⟩:=ry;obtain⟨es,n,h1,h2,h3,h4⟩:=h;have hm:=PySem.W.mapOf_K (prog:=X.prog) (w:=X.w) I.fv h1 h2;rcases nJ z h3 with⟨q1,q2⟩|⟨p',e,q1,q2,q3⟩
 ·rw[q1] at hl;cases hl
 ·rw[q1] at hl;cases hl;obtain⟨x,r1,r2⟩:=vt (K:=kk X cm) p e.val q3;refine tail_any hm.typeIs slot_dict_getitem.lookup (wpAny_getItem_of (strKind_is X.prog X.w z t) hm (v:=e.val) ?_ ⟨x,H,I.tok _,r1,q x r2⟩) hs;rw[kE,q2];rfl
def Fo(ha:cm nm=a):gP (kk X cm) (GV a Ϗ) (Fk nm Ϗ):=by
 intro c F H Z U p q pv v u Q rel r1 r2 e k;unfold Fk at e;split at e
 ·rename_i z n;split at e
  ·rename_i hn;subst hn;cases e;cases r1.str;have r2':u=.ref (cm n):=by
    rcases r2 with r2|r2
    ·unfold ü at r2;exact r2
    ·exact r2.elim
   subst r2';exact⟨z,rfl,by rw[ha],k _ F H rel ċ ċ (by unfold ü;rfl)⟩
  ·cases e
 ·cases e
def Fp(ha:cm nm=a):gP (kk X cm) (GW (kk X cm) a Ϗ) (Fm nm Ϗ):=by
 intro c F H Z U p q pv v u Q rel r1 r2 e k;unfold Fm at e;split at e
 ·rename_i n z;split at e
  ·rename_i hn;subst hn;cases r2.str;have dM:v=.ref (cm n):=by
    rcases r1 with r1|r1
    ·unfold ü at r1;exact r1
    ·exact r1.elim
   subst dM;exact⟨z,pv,by rw[ha],rfl,e,λx hx=>k x F H rel ċ ċ (hx F)⟩
  ·cases e
 ·cases e
end
@[simp] def Lr(Ϗ:List (String×MF))(mo:M PV)(ms:M (List Slot))(U:û):Ġ RV:= (mo U).bind fun p U1=>match p with
  | .cls C=>(match Ϗ.lookup C with
    |some mf=>(ms U1).bind λas U2=>match mf as with
     | .ret r=>.ok r U2
     | .exc x=>.exc x U2
     | .bad=>.bad
    |none=>.bad)
  |_=>.bad
section
end
def Uk(a:À)(l:Option À)(b:À):Prop:=b=a\/l=some b
structure GX(a:À)(l:Option À)(F H F' H':Hp):Prop where
 h:∀b u,¬Uk a l b->H b=some u->H' b=some u
 f:Ò F F'
 sub:Ò F' H'
 out:∀b,¬Uk a l b->H b≠none->F b=none->F' b=none
def Cs(K:KK)(F H:Hp):Option À->Option (List PV)->Prop
 |none,none=>True
 |some l,some qs=>∃vs,H l=some (.lst vs)/\F l=none/\Õ K F qs vs
 |_,_=>False
def tu(K:KK)(F H:Hp)(a dx:À)(C:String)(l:Option À)(ns:List Str)(ps:List PV)(q:Option (List PV)):Prop:=
 (∃fs,H a=some (.ins (K.cm C) dx fs)/\F a=none/\fs.map (·.1)=ns/\Õ K F ps (fs.map (·.2)))/\Cs K F H l q
inductive MR where
 |ret (p:PV) (ns:List Str) (ps:List PV) (q:Option (List PV))|exc (x:PX) (ns:List Str) (ps:List PV) (q:Option (List PV))|bad
abbrev MM:=List Str->List PV->Option (List PV)->List PV->MR
noncomputable def ŭ(C:String)(ns:List Str)(ps:List PV):Option (List PV)->û
 |none=>[.rc C ns ps]
 |some qs=>[.rc C ns ps,.pw qs]
noncomputable def Ŧ(C:String):Option (List PV)->û->Option (List Str×List PV×Option (List PV))
 |none,.rc C' ns ps::_=>if C'=C then some (ns,ps,none) else none
 |some _,.rc C' ns ps:: .pw qs::_=>if C'=C then some (ns,ps,some qs) else none
 |_,_=>none
def MR.of(C:String)(q:Option (List PV)):Ġ Fl->MR
 | .ok (.rt (.sh p)) U=>match Ŧ C q U with
   |some z=>.ret p z.1 z.2.1 z.2.2
   |none=>.bad
 | .ok .nx U=>match Ŧ C q U with
   |some z=>.ret .non z.1 z.2.1 z.2.2
   |none=>.bad
 | .exc x U=>match Ŧ C q U with
   |some z=>.exc x z.1 z.2.1 z.2.2
   |none=>.bad
 |_=>.bad
def Ů(n k:Nat)(C:String)(mb:M Fl):MM:=λns ps q as=>if(ŭ C ns ps q).length+as.length=n then MR.of C q (mb (ŭ C ns ps q++ì (k-(ŭ C ns ps q).length) (as.map .sh))) else .bad
def Pf(K:KK)(E:XK)(F H:Hp)(Q:VK)(a dx:À)(C:String)(l:Option À):MR->Prop
 | .ret p ns ps q=>∀v F' H',GX a l F H F' H'->tu K F' H' a dx C l ns ps q->ü K F' p v->Q v H'
 | .exc x ns ps q=>∀C' d F' H',GX a l F H F' H'->tu K F' H' a dx C l ns ps q->mO K F' x C' d->E C' d H'
 | .bad=>False
noncomputable def nK(a:À):Option À->List V
 |none=>[.ref a]
 |some l=>[.ref a,.ref l]
def Fq(K:KK)(C:String)(mm:MM):Sp:=λvs H Q E=>∃F a dx l ns ps q ac as,vs=nK a l++ac/\Ò F H/\tu K F H a dx C l ns ps q/\Õ K F as ac/\Pf K E F H Q a dx C l (mm ns ps q as)
noncomputable def oY(a dx:À)(C:String)(l:Option À)(F H:Hp):Ctx:=⟨λb=>if b=a\/l=some b then none else H b,F,λ_=>none,λa' Tt C'=>(a'=a/\Tt=dx/\C'=C)\/(l=some a'/\C'= "")⟩
section
variable{K:KK}{F H F' H':Hp}{a dx:À}{C:String}{l:Option À}{ns:List Str}{ps:List PV}{q:Option (List PV)}{Z:ð}{U:û}{as:List PV}{ac:List V}
def tu.len(h:tu K F H a dx C l ns ps q):(nK a l).length=(ŭ C ns ps q).length:=by
 have h2:=h.2;unfold Cs at h2;cases l with
 |none=>cases q with
  |none=>rfl
  |some _=>exact h2.elim
 |some _=>cases q with
  |none=>exact h2.elim
  |some _=>rfl
def zA{c:Ctx}(h:Õ K F as ac){n i:Nat}{s':Slot}(e:(ì n (as.map .sh))[i]?=some s'):Ĵ K c F H (((ac.map some++Ñ (n-ac.length) none)[i]?).getD none) s'/\s'.own=false:=by
 have hl:=h.length;unfold ì at e;by_cases hi:i<as.length
 ·rw[Ϫ (by simpa using hi),ķ] at e;obtain⟨p,hp⟩:∃p,as[i]?=some p:=⟨_,Ϭ hi⟩;rw[hp] at e;cases e;obtain⟨v,h1,h2⟩:=bu h.pr hp;rw[Ϫ (by simp;lia),ķ,h1];exact⟨⟨v,rfl,h2⟩,rfl⟩
 ·rw[dP (by simp;lia),cw] at e;split at e
  ·cases e;exact⟨trivial,rfl⟩
  ·cases e
def Ā.startM{N:List Str}(s:Ò F H)(o:tu K F H a dx C l ns ps q)(h:Õ K F as ac)(hN:(ŭ C ns ps q).length<=N.length) :
 Ā K (oY a dx C l F H) F H (L2.start N (nK a l++ac)) (ŭ C ns ps q++ì (N.length-(ŭ C ns ps q).length) (as.map .sh)):=by
 have hl:=h.length;obtain⟨⟨fs,o1,o2,o3,o4⟩,o5⟩:=o;have gen:∀b,(b=a\/l=some b)->(oY a dx C l F H).B b=none:=λb hb=>by show(if b=a\/l=some b then none else H b)=none;rw[if_pos hb]
 have V2:Ĵ K (oY a dx C l F H) F H (some (.ref a)) (.rc C ns ps):=⟨a,dx,fs,rfl,o1,o2,gen a (.inl rfl),o3,o4,.inl ⟨rfl,rfl,rfl⟩⟩;have V3:Ò (oY a dx C l F H).B H:=λb u e=>by
  have e':(if b=a\/l=some b then none else H b)=some u:=e;split at e'
  ·cases e'
  ·exact e'
 unfold Cs at o5;cases l with
 |none=>
  cases q with
  |some _=>exact o5.elim
  |none=>
   have Qm:L2.start N (nK a none++ac)=some (.ref a)::(ac.map some++Ñ (N.length-1-ac.length) none):=by unfold L2.start nK;simp;lia
   rw[Qm];refine⟨s,V3,Ò.refl _,λ_ _ z=>z,λ_ _ e=>(by cases e),λ_ _=>rfl,?_,λi s' e=>?_,λi j b h1 h2=>?_⟩
   ·simp[ŭ,ì] at hN ⊢;lia
   ·cases i with
    |zero=>cases e;exact V2
    |succ i=>exact(zA h (n:=N.length-1) (by simpa[ŭ] using e)).1
   ·have Jr:∀{i},Ė F (some (.ref a)::(ac.map some++Ñ (N.length-1-ac.length) none)) (ŭ C ns ps none++ì (N.length-(ŭ C ns ps none).length) (as.map .sh)) i b→i=0:=fun{i} ⟨s',y,q1,_,q2⟩=>by
     have q2:=eN q2;cases i with
     |zero=>rfl
     |succ i=>have:=(zA (K:=K) (H:=H) (c:=oY a dx C none F H) h (n:=N.length-1) (i:=i) (s':=s') (by simpa[ŭ] using q1)).2;rw[this] at q2;cases q2
    rw[Jr h1,Jr h2]
 |some l=>
  cases q with
  |none=>exact o5.elim
  |some qs=>
   obtain⟨us,u1,u2,u3⟩:=o5;have Qm:L2.start N (nK a (some l)++ac)=some (.ref a)::some (.ref l)::(ac.map some++Ñ (N.length-2-ac.length) none):=by unfold L2.start nK;simp;lia
   rw[Qm];have Ol:Ĵ K (oY a dx C (some l) F H) F H (some (.ref l)) (.pw qs):=⟨l,us,rfl,u1,u2,gen l (.inr rfl),u3,.inr ⟨rfl,rfl⟩⟩;have kv:a≠l:=λz=>by rw[z,u1] at o1;cases o1
   refine⟨s,V3,Ò.refl _,λ_ _ z=>z,λ_ _ e=>(by cases e),λ_ _=>rfl,?_,λi s' e=>?_,λi j b h1 h2=>?_⟩
   ·simp[ŭ,ì] at hN ⊢;lia
   ·cases i with
    |zero=>cases e;exact V2
    |succ i=>cases i with
     |zero=>cases e;exact Ol
     |succ i=>exact(zA h (n:=N.length-2) (by simpa[ŭ] using e)).1
   ·have Jr:∀{i},Ė F (some (.ref a)::some (.ref l)::(ac.map some++Ñ (N.length-2-ac.length) none)) (ŭ C ns ps (some qs)++ì (N.length-(ŭ C ns ps (some qs)).length) (as.map .sh)) i b→(i=0∧b=a)∨(i=1∧b=l):=fun{i} ⟨s',y,q1,q3,q2⟩=>by
     cases i with
     |zero=>cases q1;cases q3;exact .inl ⟨rfl,(V.ref.inj q2).symm⟩
     |succ i=>cases i with
      |zero=>cases q1;cases q3;exact .inr ⟨rfl,(V.ref.inj q2).symm⟩
      |succ i=>have q2:=eN q2;have:=(zA (K:=K) (H:=H) (c:=oY a dx C none F H) h (n:=N.length-2) (i:=i) (s':=s') (by simpa[ŭ] using q1)).2;rw[this] at q2;cases q2
    rcases Jr h1 with⟨e1,z1⟩|⟨e1,z1⟩<;>rcases Jr h2 with⟨e2,z2⟩|⟨e2,z2⟩
    ·rw[e1,e2]
    ·exact absurd (z1.symm.trans z2) kv
    ·exact absurd (z2.symm.trans z1) kv
    ·rw[e1,e2]
def Ā.Ul(r:Ā K (oY a dx C l F H) F' H' Z U):GX a l F H F' H':=
 ⟨λb u hb e=>r.base b u (by show(if b=a\/l=some b then none else H b)=_;rw[if_neg (show ¬(b=a\/l=some b) from hb)];exact e),r.f0,r.sub,λb hb h1 h2=>r.ba b (by show(if b=a\/l=some b then none else H b)≠none;rw[if_neg (show ¬(b=a\/l=some b) from hb)];exact h1) h2⟩
def nL(hC:C≠ "")(o:Cs K F H l q)(r:Ā K (oY a dx C l F H) F' H' Z U){z:List Str×List PV×Option (List PV)}(h:Ŧ C q U=some z):tu K F' H' a dx C l z.1 z.2.1 z.2.2:=by
 have Xm:∀{i:Nat} {fB:List Str} {cr:List PV},U[i]?=some (.rc C fB cr)->∃fs,H' a=some (.ins (K.cm C) dx fs)/\F' a=none/\fs.map (·.1)=fB/\Õ K F' cr (fs.map (·.2)):=fun{i fB cr} e=>by
  obtain⟨b,dy,fs,q1,q2,q3,q4,q5,q6,q7⟩:=r.slot i _ e;rcases q7 with⟨rfl,rfl,_⟩|⟨_,z⟩
  ·exact⟨fs,q2,q3,q5,q6⟩
  ·exact absurd z hC
 unfold Cs at o;unfold Ŧ at h;split at h
 ·rename_i C' fB cr t;split at h
  ·rename_i e;subst e;cases h;cases l with
   |none=>exact⟨Xm (i:=0) rfl,trivial⟩
   |some _=>exact o.elim
  ·cases h
 ·rename_i qs0 C' fB cr qs t;split at h
  ·rename_i e;subst e;cases h;cases l with
   |none=>exact o.elim
   |some l=>
    refine⟨Xm (i:=0) rfl,?_⟩;obtain⟨b,vs,q1,q2,q3,q4,q5,q6⟩:=r.slot 1 _ rfl;rcases q6 with⟨_,_,z⟩|⟨z,_⟩
    ·exact absurd z.symm hC
    ·cases z;exact⟨vs,q2,q3,q5⟩
  ·cases h
 ·cases h
end
section
variable{Pg:Ù}{w:Ô}{K:Æ}{cm:String->À}{mg:Str->Option Á}{base:Ë}{CX:dh}
def Um{x ç:Str}{st:Ï}{f:À}{fd:ú}{N ps:List Str}{k n j:Nat}{C:String}{mb:M Fl}{mm:MM}(F:yU K x ç st f fd)(S:Ý N ps (Î st))
 (ϧ:∀(ğ:Á) (A:Ú) (outer:List Env) (s:Â) (H:Hp) (E:XK),Ń k (A.deeper (ê ç (Î st) s.heap.objs.size f ğ))→(A.deeper (ê ç (Î st) s.heap.objs.size f ğ)).units+64<ź→
   Ϡ (Ň CX Pg w K mg base N ç (Î st) f ğ A outer s H E) (ń st) (tS ⟨K,cm⟩ (λ_=>E) mb))(hn:ps.length=n:=by rfl)(hj:N.length=j:=by rfl)(hf:mm=Ů n j C mb:=by rfl)(Ea:n<=j:=by decide)(hC:C≠ "" := by decide):Ď Pg w K mg base CX (k+1) f fd ps (Fq ⟨K,cm⟩ C mm):=by
 subst hn hj hf;obtain⟨oc,od,kV,iu,pm,an,ğ,ct,oJ,rfl,lk,cZ⟩:=F.ex;have key:∀{F H:Hp} {Q:VK} {E:XK} {a dx:À} {l:Option À} {ns:List Str} {qs:List PV} {q:Option (List PV)} {as:List PV},Pf ⟨K,cm⟩ E F H Q a dx C l (Ů ps.length N.length C mb ns qs q as)->(ŭ C ns qs q).length+as.length=ps.length:=by
  intro F H Q E a dx l ns qs q as h;unfold Ů at h;split at h
  ·assumption
  ·exact h.elim
 refine uD lk cZ S (λvs H Q E ⟨F,a,dx,l,ns,qs,q,ac,as,h1,_,h2,h3,h4⟩=>by rw[h1,ϫ,h2.len,<-h3.length];exact key h4) λA outer s H vs Q E hr pq=>?_;obtain⟨F,a,dx,l,ns,qs,q,ac,as,rfl,h2,h3,h4,h5⟩:=pq;have hl:=key h5;refine⟨_,ϧ ğ A outer s H E hr hr.units,oY a dx C l F H,F,_,Ā.startM h2 h3 h4 (by lia),?_⟩;unfold Ů at h5;rw[if_pos hl] at h5;cases e:mb (ŭ C ns qs q++ì (N.length-(ŭ C ns qs q).length) (as.map .sh)) with
 |bad=>rw[e] at h5;exact h5
 |exc x U'=>
  rw[e] at h5;unfold MR.of at h5;dsimp only at h5;cases ep:Ŧ C q U' with
  |none=>rw[ep] at h5;exact h5.elim
  |some z=>rw[ep] at h5;exact λZ' C' d F' H' rel s1 rx=>h5 C' d F' H' rel.Ul (nL hC h3.2 rel ep) rx
 |ok fl U'=>
  rw[e] at h5;unfold MR.of at h5;cases fl with
  |nx=>
   dsimp only at h5;cases ep:Ŧ C q U' with
   |none=>rw[ep] at h5;exact h5.elim
   |some z=>rw[ep] at h5;exact λZ' F' H' rel s1=>h5 .non F' H' rel.Ul (nL hC h3.2 rel ep) (ü.non (K:=⟨K,cm⟩) (F:=F'))
  |bk=>exact h5.elim
  |ct=>exact h5.elim
  |rt r=>
   cases r with
   |sh p=>
    dsimp only at h5;cases ep:Ŧ C q U' with
    |none=>rw[ep] at h5;exact h5.elim
    |some z=>rw[ep] at h5;exact λv Z' F' H' rel s1 rv=>h5 v F' H' rel.Ul (nL hC h3.2 rel ep) rv
   |_=>exact h5.elim
end
def ϟ{α β:Type}(K:KK)(E:ð->XK)(R:RR α β)(c:Ctx)(F:Hp)(Z:ð)(Q:β->Hp->Prop):Ġ α->Prop
 | .ok p U'=>∀v F' H',Ā K c F' H' Z U'->Ò F F'->R c Z U' F' H' p v->Q v H'
 | .exc x U'=>∀C d F' H',Ā K c F' H' Z U'->Ò F F'->mO K F' x C d->E Z C d H'
 | .bad=>False
def wc{α β:Type}(K:KK)(E:ð->XK)(R:RR α β)(m:M α):ð->Hp->(β->Hp->Prop)->Prop:=λZ H Q=>∃c F U,Ā K c F H Z U/\ϟ K E R c F Z Q (m U)
section
variable{α β α' β':Type}{K:KK}{E:ð->XK}{R:RR α β}{R':RR α' β'}{c:Ctx}{F F1 H H1:Hp}{Z:ð}
def ϟ.mono{Q:β->Hp->Prop}{r:Ġ α}(h:ϟ K E R c F Z Q r)(sF:Ò F F1):ϟ K E R c F1 Z Q r:=by
 cases r with
 |ok p U'=>exact λv F' H' rel s1 q=>h v F' H' rel (sF.trans s1) q
 |exc x U'=>exact λC d F' H' rel s1 q=>h C d F' H' rel (sF.trans s1) q
 |bad=>exact h
theorem ϟ.bind{Q:β->Hp->Prop}{Q':β'->Hp->Prop}{r:Ġ α}{f:α->û->Ġ α'}(h:ϟ K E R' c F Z Q' (r.bind f))
 (k:∀p U1 v F1 H1,Ā K c F1 H1 Z U1->Ò F F1->R c Z U1 F1 H1 p v->ϟ K E R' c F1 Z Q' (f p U1)->Q v H1):ϟ K E R c F Z Q r:=by
 cases r with
 |ok p U'=>exact λv F' H' rel s1 q=>k p U' v F' H' rel s1 q (ϟ.mono (show ϟ K E R' c F Z Q' (f p U') from h) s1)
 |exc x U'=>exact h
 |bad=>exact h
def ϟ.bindG{Q:β->Hp->Prop}{Q':β'->Hp->Prop}{r:Ġ α}{f:α->û->Ġ α'}(h:ϟ K E R' c F Z Q' (r.bind f))
 (k:∀p U1 v F1 H1,Ā K c F1 H1 Z U1->Ò F F1->Ò H H1->R c Z U1 F1 H1 p v->ϟ K E R' c F1 Z Q' (f p U1)->Q v H1):Ť K E R c F H Z Q r:=by
 cases r with
 |ok p U'=>exact λv F' H' rel s1 s2 q=>k p U' v F' H' rel s1 s2 q (ϟ.mono (show ϟ K E R' c F Z Q' (f p U') from h) s1)
 |exc x U'=>exact h
 |bad=>exact h
def Ņ.bindM{D:Ends}{Q:β->Hp->Prop}{r:Ġ α}{f:α->û->Ġ Fl}(h:Ņ K E c F D (r.bind f))
 (k:∀p U1 v F1 H1,Ā K c F1 H1 Z U1->Ò F F1->R c Z U1 F1 H1 p v->Ņ K E c F1 D (f p U1)->Q v H1):ϟ K E R c F Z Q r:=by
 cases r with
 |ok p U'=>exact λv F' H' rel s1 q=>k p U' v F' H' rel s1 q (Ņ.mono (show Ņ K E c F D (f p U') from h) s1)
 |exc x U'=>exact λC d F' H' rel s1 q=>h Z C d F' H' rel s1 q
 |bad=>exact h
end
def Ā.GY{K:KK}{c:Ctx}{F H F' H':Hp}{Z:ð}{U:û}{i:Nat}{a:À}{s:Slot}(r:Ā K c F H Z U)(ha:Ė F Z U i a)(hx:Z[i]?=some (some (.ref a)))(g:GX a none F H F' H')(h:Ĵ K c F' H' (some (.ref a)) s)(hs:∀b,s.at_ F' (.ref a) b->b=a):Ā K c F' H' Z (U.set i s):=by
 obtain⟨h1,h2,h3⟩:=r.owned ha;have nx:∀b,b≠a->¬Uk a none b:=λb hb z=>by rcases z with z|z;exact hb z;cases z
 refine⟨g.sub,λb u e=>?_,r.f0.trans g.f,λb k1 k2=>?_,λb u e=>?_,r.lb,by simpa using r.len,λj s' e=>?_,λj k b q1 q2=>?_⟩
 ·have hb:b≠a:=λz=>by rw[z,h3] at e;cases e
  exact g.h b u (nx b hb) (r.base b u e)
 ·have hb:b≠a:=λz=>by rw[z] at k1;exact k1 h3
  refine g.out b (nx b hb) (λz=>k1 ?_) (r.ba b k1 k2);cases q:c.B b with
  |none=>rfl
  |some u=>rw[r.base _ _ q] at z;cases z
 ·have hb:b≠a:=λz=>by rw[z,r.lb a h3] at e;cases e
  obtain⟨e1,e2⟩:=r.lent b u e;exact⟨g.h b u (nx b hb) e1,g.out b (nx b hb) (by rw[e1];intro z;cases z) e2⟩
 ·rcases œ e with⟨rfl,rfl,hl⟩|⟨hj,e⟩
  ·rw[hx];exact h
  ·refine(r.slot j s' e).grow g.f λb u ⟨y,e1,e2⟩ k1 k2 k3=>?_;have hb:b≠a:=λz=>by
    subst z;exact hj (r.sep j i b ⟨s',y,e,sE e1,e2⟩ ha)
   exact⟨g.h b u (nx b hb) k1,g.out b (nx b hb) (by rw[k1];intro z;cases z) k2⟩
 ·have off:∀{j},Ė F' Z (U.set i s) j b→(j=i∧b=a)∨(j≠i∧Ė F' Z U j b):=fun{j} ⟨s',y,q1,q3,q2⟩=>by
   rcases œ q1 with⟨e,rfl,_⟩|⟨hj,q⟩
   ·subst e;rw[hx] at q3;cases q3;exact .inl ⟨rfl,hs b q2⟩
   ·exact .inr ⟨hj,s',y,q,q3,q2⟩
  have uK:=r.uK g.f;have Xn:Ė F' Z U i a:=by obtain⟨s0,y,z1,z2,z3⟩:=ha;exact⟨s0,y,z1,z2,za g.f z3⟩
  rcases off q1 with⟨e1,z1⟩|⟨e1,z1⟩<;>rcases off q2 with⟨e2,z2⟩|⟨e2,z2⟩
  ·rw[e1,e2]
  ·exact absurd (uK k i b z2 (z1▸Xn)) e2
  ·exact absurd (uK j i b z1 (z2▸Xn)) e1
  ·exact uK j k b z1 z2
def Ā.Ls{K:KK}{c:Ctx}{F H F' H':Hp}{Z:ð}{U:û}{i j:Nat}{a l:À}{s t:Slot}{ac:List V}(r:Ā K c F H Z U)(hij:j≠i)(ha:Ė F Z U i a)(hx:Z[i]?=some (some (.ref a)))(hl:Ė F Z U j l)(hy:Z[j]?=some (some (.ref l)))(kv:l≠a)(g:GX a (some l) F H F' H')
 (e2:H' l=some (.lst ac))(e3:F' l=none)(h:∀H2,H2 a=H' a->Ĵ K c F' H2 (some (.ref a)) s)(hs:∀b,s.at_ F' (.ref a) b->b=a)(h2:Ĵ K c F' H' (some (.ref l)) t)(ht:∀b,t.at_ F' (.ref l) b->b=l):Ā K c F' H' Z ((U.set i s).set j t):=by
 have g2:GX a none F H F' (λb=>if b=l then H l else H' b):=⟨λb u hb e=>by
  show(if b=l then H l else H' b)=some u;split
  ·rename_i z;rw[<-z];exact e
  ·rename_i z;exact g.h b u (λq=>by rcases q with q|q;exact hb (.inl q);injection q with q;exact z q.symm) e,g.f,λb u e=>by
  show(if b=l then H l else H' b)=some u;split
  ·rename_i z;rw[z,e3] at e;cases e
  ·exact g.sub b u e,λb hb k1 k2=>by
  by_cases z:b=l
  ·rw[z];exact e3
  ·exact g.out b (λq=>by rcases q with q|q;exact hb (.inl q);injection q with q;exact z q.symm) k1 k2⟩
 have r1:=r.GY ha hx g2 (h _ (by show(if a=l then H l else H' a)=H' a;rw[if_neg (λz=>kv z.symm)])) hs;have eH:H'=upd (λb=>if b=l then H l else H' b) l (.lst ac):=funext λb=>by
  by_cases z:b=l
  ·rw[z,Ü,e2]
  ·rw[Ö z,if_neg z]
 have ol:Ė F' Z (U.set i s) j l:=by obtain⟨s0,y,z1,z2,z3⟩:=hl;exact⟨s0,y,by rw[dN (Ć hij)];exact z1,z2,za g.f z3⟩
 rw[eH] at h2 ⊢;exact r1.write ol hy h2 ht
@[simp] def eX(i:Nat)(C:String)(mm:MM)(mr:M (List PV))(U:û):Ġ PV:= match U[i]? with
  |some (.rc _ _ _)=>(mr U).bind λas U1=>match U1[i]? with
   |some (.rc C' ns ps)=>if C'=C then(match mm ns ps none as with
    | .ret p fB cr none=>.ok p (U1.set i (.rc C fB cr))
    | .exc x fB cr none=>.exc x (U1.set i (.rc C fB cr))
    |_=>.bad) else .bad
   |_=>.bad
  |_=>.bad
@[simp] def nM(i:Nat)(C:String)(oU:Str)(mm:MM)(mr:M (List PV))(U:û):Ġ PV:= match U[i]? with
  |some (.rc C' ns _)=>if C'=C/\ns.contains oU=false then eX i C mm mr U else .bad
  |_=>.bad
@[simp] def xr(i j:Nat)(C:String)(mm:MM)(mr:M (List PV))(U:û):Ġ PV:= match U[i]?,U[j]? with
  |some (.rc _ _ _),some (.ow _)=>(mr U).bind λas U1=>match U1[i]?,U1[j]? with
   |some (.rc C' ns ps),some (.ow qs)=>if C'=C then(match mm ns ps (some qs) as with
    | .ret p fB cr (some zm)=>.ok p ((U1.set i (.rc C fB cr)).set j (.ow zm))
    | .exc x fB cr (some zm)=>.exc x ((U1.set i (.rc C fB cr)).set j (.ow zm))
    |_=>.bad) else .bad
   |_,_=>.bad
  |_,_=>.bad
section
variable{X:Cx}{cm:String->À}{E:ð->XK}{CX:dh}{k j:Nat}{f:À}{fd:ú}{ps:List Str}{mm:MM}{x y:Str}{st:Ï}{p pos py:Pos}{e:Å}{es:List Å}{C:String}{mr:M (List PV)}{i:Nat}
def vv{K:KK}{c:Ctx}{F H:Hp}{Z:ð}{U:û}{C:String}{ns:List Str}{ps:List PV}(rel:Ā K c F H Z U)(e:U[i]?=some (.rc C ns ps)):∃a dx fs,Z[i]?=some (some (.ref a))/\H a=some (.ins (K.cm C) dx fs)/\F a=none/\c.B a=none/\fs.map (·.1)=ns/\Õ K F ps (fs.map (·.2))/\c.S a dx C/\Ė F Z U i a:=by obtain⟨a,dx,fs,q1,q2,q3,q4,q5,q6,q7⟩:=rel.slot i _ e;exact⟨a,dx,fs,Į q1,q2,q3,q4,q5,q6,q7,_,_,e,Į q1,rfl⟩
def qk{c:Ctx}{F F1 H H1:Hp}{Z:ð}{U1:û}{Q:VK}{as:List PV}{vs:List V}{a:À}(hx:Z[i]?=some (some (.ref a)))(Ð:Ā (kk X cm) c F1 H1 Z U1)(r1:Õ (kk X cm) F1 as vs)
 (h:ϟ (kk X cm) E (rV (kk X cm)) c F1 Z Q (match U1[i]? with
 |some (.rc C' ns ps)=>if C'=C then(match mm ns ps none as with
  | .ret p fB cr none=>.ok p (U1.set i (.rc C fB cr))
  | .exc x fB cr none=>.exc x (U1.set i (.rc C fB cr))
  |_=>.bad) else .bad
 |_=>.bad)):Fq (kk X cm) C mm (.ref a::vs) H1 Q (E Z):=by
 split at h
 ·rename_i C' ns ps e;split at h
  ·rename_i hC;subst hC;obtain⟨a2,dx,fs,q1,q2,q3,q4,q5,q6,q7,q8⟩:=vv Ð e;rw[hx] at q1;cases q1;refine⟨F1,a,dx,none,ns,ps,none,vs,as,rfl,Ð.sub,⟨⟨fs,q2,q3,q5,q6⟩,trivial⟩,r1,?_⟩;have go:∀{F' H':Hp} {fB:List Str} {cr:List PV},GX a none F1 H1 F' H'->tu (kk X cm) F' H' a dx C' none fB cr none->Ā (kk X cm) c F' H' Z (U1.set i (.rc C' fB cr)):=fun{F' H' fB cr} g ⟨⟨fs',o1,o2,o3,o4⟩,_⟩=>
    Ð.GY (s:=.rc C' fB cr) q8 hx g ⟨a,dx,fs',rfl,o1,o2,q4,o3,o4,q7⟩ (λb z=>(V.ref.inj z).symm)
   cases em:mm ns ps none as with
   |bad=>rw[em] at h;exact h
   |ret p fB cr q=>
    rw[em] at h;cases q with
    |none=>exact λv F' H' g o rp=>h v F' H' (go g o) g.f rp
    |some _=>exact h.elim
   |exc x fB cr q=>
    rw[em] at h;cases q with
    |none=>exact λC d F' H' g o rp=>h C d F' H' (go g o) g.f rp
    |some _=>exact h.elim
  ·exact h.elim
 ·exact h.elim
def jD(i:Nat)(F:Ď X.prog X.w X.K X.mg X.base CX k f fd ps (Fq (kk X cm) C mm))(D:Df X.K X.mg x st ps f fd)(hr:Ń j X.A)(hx:Ľ CX X E)(ho:PE X (.Name y py) (bc i))(ha:PA X es (tL (kk X cm) E mr))
 (hg:Gl X x:=by rfl)(Nf:k<=j:=by decide)(gc:(x== ("__debug__" :Str))=false:=by decide)(he:È (.Name y py::es) X.env=(false,eval (.Name y py) X.env)::È es X.env:=by exact į rfl)(hpl:(ñ pos (È es X.env)).any (·.1)=false:=by rfl) :
 PE X (.Call (.Name x p) (.Name y py::es) [] pos) (wc (kk X cm) E (rV (kk X cm)) (eX i C mm mr)):=
 PE.wk (jB F (hr.mono Nf) hg D.m D.F.kp D.b hx (Š ho ha he) gc he hpl) fun Z H Q ⟨c,F,U,rel,h⟩=>by
   unfold eX at h;split at h
   ·rename_i C' ns ps e;obtain⟨a,dx,fs,q1,_⟩:=vv rel e;exact⟨.ref a,q1,c,F,U,rel,ϟ.bindG h λas U1 vs F1 H1 Ð s1 s2 r1 h1=>qk (F:=F) (H:=H) q1 Ð r1 h1⟩
   ·exact h.elim
def tw{pl:Sem Bool}{fe:Pos}{oU:Str}(i:Nat)(hc:jS X.K (cm C))(M:ll X.K (cm C) oU f)(F:Ď X.prog X.w X.K X.mg X.base CX k f fd ps (Fq (kk X cm) C mm))(hb:Binds X.K fd ps [])(hr:Ń k X.A)(hx:Ľ CX X E)(ho:PE X (.Name y py) (bc i))(ha:PA X (e::es) (tL (kk X cm) E mr))
 (mn:È (e::es) X.env=(false,eval e X.env)::È es X.env:=by exact į rfl)(hpl:(ñ pos (È es X.env)).any (·.1)=false:=by rfl)
 (ht:eval (.Call (.Attribute (.Name y py) oU fe) (e::es) [] pos) X.env=(do
   let ov <-eval (.Name y py) X.env
   cD fe.atName
   let (f,first) <-holding [ov] (getMethod ov oU pl)
   iV pos f first (ñ pos (È (e::es) X.env)) (ϱ pos (ϲ [] X.env))):=by rfl) :
 PE X (.Call (.Attribute (.Name y py) oU fe) (e::es) [] pos) (wc (kk X cm) E (rV (kk X cm)) (nM i C oU mm mr)):=by
 intro Ã s Z H Q I ⟨c,F',U,rel,h⟩;unfold nM at h;split at h
 ·rename_i C' ns cr e1;split at h
  ·rename_i Vr;obtain⟨Vr,hn⟩:=Vr;subst Vr;obtain⟨a,dx,fs,q1,q2,q3,q4,q5,_⟩:=vv rel e1;unfold eX at h;rw[e1] at h;refine yF (pl:=pl) (ň (ho Ã s Z H (λv H1=>v=.ref a/\H1=H) I ⟨.ref a,q1,rfl,rfl⟩) λu s1 ⟨v,H1,I1,rv,ev,eH⟩=>?_) ht;subst ev eH;obtain rfl:u=ć a:=rv;refine mD I1 q2 hc M (gI (by rw[q5];exact hn)) ?_;refine cK (first:=[.ref a]) (h₀:= X.base) I.ok.mod.AT M.kp (ň (ha pos Ã s1 Z H1 (λvs H2=>Fq (kk X cm) C' mm (.ref a::vs) H2 Q (E Z)) I1 ⟨c,F',U,rel,ϟ.bindG h λas U1 vs F1 H2 Ð s1 s2 r1 h1=>qk (F:=F') (H:=H1) q1 Ð r1 h1⟩) λus s2 ⟨vs,H2,I2,r,q2⟩=>⟨I2.fv,?_⟩) mn hpl;exact lV (us:=.ref a::us) (vs:=.ref a::vs) F hr hb hx I2 (.cons rfl r) q2
  ·exact h.elim
 ·exact h.elim
def Fs(i l:Nat)(F:Ď X.prog X.w X.K X.mg X.base CX k f fd ps (Fq (kk X cm) C mm))(D:Df X.K X.mg x st ps f fd)(hr:Ń j X.A)(hx:Ľ CX X E){z:Str}{pz:Pos}(ho:PE X (.Name y py) (bc i))(hl:PE X (.Name z pz) (bc l))(ha:PA X es (tL (kk X cm) E mr))(hil:l≠i:=by decide)
 (hg:Gl X x:=by rfl)(Nf:k<=j:=by decide)(gc:(x== ("__debug__" :Str))=false:=by decide)(he:È (.Name y py:: .Name z pz::es) X.env=(false,eval (.Name y py) X.env)::È (.Name z pz::es) X.env:=by exact į rfl)(Jv:È (.Name z pz::es) X.env=(false,eval (.Name z pz) X.env)::È es X.env:=by exact į rfl)(hpl:(ñ pos (È (.Name z pz::es) X.env)).any (·.1)=false:=by rfl) :
 PE X (.Call (.Name x p) (.Name y py:: .Name z pz::es) [] pos) (wc (kk X cm) E (rV (kk X cm)) (xr i l C mm mr)):=
 PE.wk (jB F (hr.mono Nf) hg D.m D.F.kp D.b hx (Š ho (Š hl ha Jv) he) gc he hpl) fun Z H Q ⟨c,F,U,rel,h⟩=>by
   unfold xr at h;split at h
   ·rename_i C' ns ps qs e eo;obtain⟨a,dx,fs,q1,_⟩:=vv rel e;obtain⟨b,us,w1,_⟩:=rel.ow eo;refine⟨.ref a,q1,.ref b,w1,c,F,U,rel,ϟ.bindG h λas U1 vs F1 H1 Ð s1 s2 r1 h1=>?_⟩;split at h1
    ·rename_i C' ns ps qs e eo;split at h1
     ·rename_i hC;subst hC;obtain⟨a2,dx,fs,p1,p2,p3,p4,p5,p6,p7,p8⟩:=vv Ð e;obtain⟨b2,us,t1,t2,t3,t4,t5,t6⟩:=Ð.ow eo;rw[q1] at p1;cases p1;rw[w1] at t1;cases t1;have kv:b≠a:=λz=>by rw[z,p2] at t2;cases t2
      refine⟨F1,a,dx,some b,ns,ps,some qs,vs,as,rfl,Ð.sub,⟨⟨fs,p2,p3,p5,p6⟩,us,t2,t3,t5⟩,r1,?_⟩;have go:∀{F' H':Hp} {fB:List Str} {cr zm:List PV},GX a (some b) F1 H1 F' H'->tu (kk X cm) F' H' a dx C' (some b) fB cr (some zm)->Ā (kk X cm) c F' H' Z ((U1.set i (.rc C' fB cr)).set l (.ow zm)):=fun{F' H' fB cr zm} g ⟨⟨fs',o1,o2,o3,o4⟩,RX,o5,o6,o7⟩=>
       Ð.Ls (s:=.rc C' fB cr) (t:=.ow zm) hil p8 q1 t6 w1 kv g o5 o6 (λH2 z=>⟨a,dx,fs',rfl,z.trans o1,o2,p4,o3,o4,p7⟩) (λb z=>(V.ref.inj z).symm) ⟨b,RX,rfl,o5,o6,t4,o7⟩ (λb z=>(V.ref.inj z).symm)
      cases em:mm ns ps (some qs) as with
      |bad=>rw[em] at h1;exact h1
      |ret p fB cr q=>
       rw[em] at h1;cases q with
       |some _=>exact λv F' H' g o rp=>h1 v F' H' (go g o) g.f rp
       |none=>exact h1.elim
      |exc x fB cr q=>
       rw[em] at h1;cases q with
       |some _=>exact λC d F' H' g o rp=>h1 C d F' H' (go g o) g.f rp
       |none=>exact h1.elim
     ·exact h1.elim
    ·exact h1.elim
   ·exact h.elim
end
section
variable{X:Cx}{cm:String->À}{E:ð->XK}{a b e:Å}{pos:Pos}{m ma mb:M PV}{m1 m2:M Fl}{t:M Bool}
def Ct{r:R2}{f:PV->PV->Option PV}(hf:gP (kk X cm) r f){Z:ð}{H:Hp}{Q:VK}(h:wc (kk X cm) E (rV (kk X cm)) (Þ f ma mb) Z H Q):Ei r (wc (kk X cm) E (rV (kk X cm)) ma) (tR (kk X cm) E mb) Z H Q:=by
 obtain⟨c,F,U,rel,h⟩:=h;refine⟨c,F,U,rel,h.bind λp U1 v F1 H1 Ð _ r1 h1=>⟨c,F1,U1,Ð,ϟ.bindG h1 λq U2 u F2 H2 đ sF sH r2 h2=>?_⟩⟩;cases e:f p q with
 |none=>rw[e] at h2;exact h2.elim
 |some pv=>rw[e] at h2;exact hf đ (rR.of (ü.same sF p v r1)) r2 e λz F' H' ĵ s1 s2 q'=>h2 z F' H' ĵ s1 q'
def ki{op:aj}{r:R2}{f:PV->PV->Option PV}(hf:gP (kk X cm) r f)(ho:Ϸ X (Ę op) r)(ha:PE X a (wc (kk X cm) E (rV (kk X cm)) ma))(hb:PE X b (tR (kk X cm) E mb))(hm:cC op b=false):PE X (.Compare a [op] [b] pos) (wc (kk X cm) E (rV (kk X cm)) (Þ f ma mb)):=
 PE.wk (yO ho ha hb hm) λ_ _ _ h=>Ct hf h
def Lu{op:aj}{r:R2}{f:PV->PV->Option PV}(hf:gP (kk X cm) r f)(ho:Ϸ X (Ę op) r)(ha:PE X a (wc (kk X cm) E (rV (kk X cm)) ma))(hb:PE X b (tR (kk X cm) E mb))(hm:cC op b=false):PT X (.Compare a [op] [b] pos) (wc (kk X cm) E rB (cn (Þ f ma mb))):=
 PT.wk (Bm ho ha hb hm) λZ H Q ⟨c,F,U,rel,h⟩=>Ct hf ⟨c,F,U,rel,ϟ.bind (R':=rB) (f:=λp U1=>match p with
 | .bl b=>.ok b U1
 |_=>.bad) h λp U1 v F1 H1 Ð _ r1 h1=>by
  cases p with
  |bl b=>
   have e:v=.bl b:=by have dM:ü (kk X cm) F1 (.bl b) v:=r1;unfold ü at dM;exact dM
   subst e;exact h1 b F1 H1 Ð ċ rfl
  |_=>exact h1.elim⟩
def Lv(ha:PE X a (wc (kk X cm) E (rV (kk X cm)) ma))(he:∀whole,isTrue a X.env whole=(do let v <-whole;cD a.pos;holding [v] (truthy v)):=by intro _;rfl):PT X a (wc (kk X cm) E rB (fN ma)):=PT.wk (uC ha he) λZ H Q ⟨c,F,U,rel,h⟩=>
 ⟨c,F,U,rel,h.bind fun p U1 v F1 H1 Ð _ r1 h1=>by
   cases e:Ki p with
   |none=>rw[e] at h1;exact h1.elim
   |some k=>rw[e] at h1;exact⟨k,Gm (c:=c) (Z:= Z) (U:= U1) Ð.sub (rR.of r1) e,h1 k F1 H1 Ð ċ rfl⟩⟩
def Lw(h:PT X a (wc (kk X cm) E rB t)):PT X (.UnaryOp .Not a pos) (wc (kk X cm) E rB (jq t)):=PT.wk (AZ h) λZ H Q ⟨c,F,U,rel,h⟩=>
 ⟨c,F,U,rel,h.bind λp U1 v F1 H1 Ð _ r1 h1=>h1 _ F1 H1 Ð ċ (by have e:p=v:=r1;rw[e];rfl)⟩
def Lx{i:Nat}{x:Str}{aa:Pos}(hN:X.N.Nodup)(hi:X.N[i]?=some x)(hx:Loc X.env.scope x)(he:PE X e (wc (kk X cm) E (rV (kk X cm)) m))(hs:Ĳ e (some (.Name x aa)) pos.line X.env=pure false:=by rfl)(hf:X.fn x=true\/X.env.scope.names.lookup x=some .local:=by first|exact .inl rfl|exact .inr rfl|assumption) :
 PS X (.Assign [.Name x aa] e pos) (tS (kk X cm) E (Ř i (Ϝ m))):=PS.wk (jU hN hi hx he hs hf) λD Z H ⟨c,F,U,rel,h⟩=>⟨c,F,U,rel,Ņ.bindM (f:=λp U1=>.ok .nx (U1.set i (.sh p))) (by
 revert h
 unfold Ř Ϝ;cases m U <;> exact id) λp U1 v F1 H1 Ð s1 q h1=>h1 _ F1 H1 (Ð.put rfl ⟨v,rfl,q⟩) ċ⟩
def kj(he:PE X e (wc (kk X cm) E (rV (kk X cm)) m)):PS X (.Return (some e) pos) (tS (kk X cm) E (Ī (Ϝ m))):=PS.wk (A0 he) λD Z H ⟨c,F,U,rel,h⟩=>⟨c,F,U,rel,Ņ.bindM (f:=λp U1=>.ok (.rt (.sh p)) U1) (by
 revert h
 unfold Ī Ϝ;cases m U <;> exact id) λp U1 v F1 H1 Ð s1 q h1=>h1 v Z F1 H1 Ð ċ q⟩
def GZ{ss Jq:List Ï}(hc:PT X a (wc (kk X cm) E rB t))(ha:Ϡ X ss (tS (kk X cm) E m1))(hb:Ϡ X Jq (tS (kk X cm) E m2)):PS X (.If a ss Jq pos) (tS (kk X cm) E (dL t m1 m2)):=PS.wk (yL hc ha hb) λD Z H ⟨c,F,U,rel,h⟩=>⟨c,F,U,rel,Ņ.bindM h λr U1 v F1 H1 Ð s1 q h1=>by
 have e:r=v:=q;subst e;cases r with
 |true=>exact⟨c,F1,U1,Ð,h1⟩
 |false=>exact⟨c,F1,U1,Ð,h1⟩⟩
end
@[simp] def zB(i:Nat)(me:M PV)(U:û):Ġ Fl:= match U[i]? with
  |some (.pw _)=>(me U).bind λp U1=>match U1[i]? with
   |some (.pw ps)=>if ps.length<16777216 then .ok .nx (U1.set i (.pw (ps ++ [p]))) else .bad
   |_=>.bad
  |_=>.bad
def ql(i:Nat)(me:M PV):M Fl:=λU=>match U[i]? with
 |some (.pw _)=>(me U).bind λp U1=>match U1[i]?,p with
  |some (.pw ps),.int k=>if 0<=k/\k<1000000/\k.toNat<ps.length then .ok .nx (U1.set i (.pw (ps.eraseIdx k.toNat))) else .bad
  |_,_=>.bad
 |_=>.bad
theorem vw{α β:Type}{G:α->β->Prop}:∀{l:List α} {m:List β} (i:Nat),Paired G l m->Paired G (l.eraseIdx i) (m.eraseIdx i)
 |_,_,_,.nil=>.nil
 |_,_,0,.cons _ t=>t
 |_,_,i+1,.cons r t=>.cons r (vw i t)
section
variable{X:Cx}{cm:String->À}{E:ð->XK}{e:Å}{pos:Pos}{me:M PV}{i:Nat}
def zC{K:KK}{c:Ctx}{F H:Hp}{Z:ð}{U:û}{ps:List PV}(rel:Ā K c F H Z U)(e:U[i]?=some (.pw ps)):∃a vs,Z[i]?=some (some (.ref a))/\H a=some (.lst vs)/\F a=none/\c.B a=none/\Õ K F ps vs/\c.S a a "" /\Ė F Z U i a:=by obtain⟨a,vs,q1,q2,q3,q4,q5,q6⟩:=rel.slot i _ e;exact⟨a,vs,Į q1,q2,q3,q4,q5,q6,_,_,e,Į q1,rfl⟩
def Cu{D:Ends}{Z:ð}{H:Hp}(h:tS (kk X cm) E (zB i me) D Z H):jh (Gf X.K "list" gE (bc i) (tL (kk X cm) E (Í me å))) D Z H:=by
 obtain⟨c,F,U,rel,h⟩:=h;unfold zB at h;split at h
 ·rename_i QL e1;obtain⟨a,QM,z1,z2,z3,z4,z5,z6,z7⟩:=zC rel e1;refine⟨.ref a,z1,.inl ⟨rfl,_,ϐ.of z2⟩,c,F,U,rel,?_⟩;unfold Í;cases em:me U with
  |bad=>rw[em] at h;exact h
  |exc x U1=>rw[em] at h;exact λC d F' H' ĵ s1 q=>h Z C d F' H' ĵ s1 q
  |ok p U1=>
   rw[em] at h;intro us F1 H1 Ð s1 s2 r1;have dM:Õ (kk X cm) F1 [p] us:=r1;cases dM.pr with
   |cons rp t=>
    rename_i v ac;cases t;simp only[Ġ.bW] at h;split at h
    ·rename_i ps e2;obtain⟨a2,vs,w1,w2,w3,w4,w5,w6,w7⟩:=zC Ð e2;rw[z1] at w1;cases w1;split at h
     ·rename_i hz;refine⟨a,vs,v,rfl,rfl,w2,by rw[<-w5.length,ă];exact hz,h Z F1 _ (Ð.write w7 z1 ⟨a,vs ++ [v],rfl,Ü,w3,w4,Õ.append w5 (Õ.cons rp Õ.nil),w6⟩ λ_ z=>(V.ref.inj z).symm) s1⟩
     ·exact h.elim
    ·exact h.elim
 ·exact h.elim
def Ly{x:Str}{px ap cp:Pos}(ho:PE X (.Name x px) (bc i))(he:PE X e (tV (kk X cm) E me))(bq:ϯ (.Name x px) "append" X.env (eval (.Name x px) X.env)=eval (.Name x px) X.env:=by rfl)
 (ge:((ñ cp (È [e] X.env)).all (λx=>!x.1) && (ϱ cp (ϲ [] X.env)).all (λx=>x.1.isSome) && decide ([e].length+([]:List Ł).length+(if([]:List Ł).isEmpty then 0 else 1)<30))=true:=by rfl)
 (br:(ap.endLine== cp.line)=true:=by rfl)(mn:È [e] X.env=(false,eval e X.env)::È [] X.env:=by exact į rfl)(hpl:(ñ cp (È [] X.env)).any (·.1)=false:=by rfl)(hs:Ĳ (.Call (.Attribute (.Name x px) "append" ap) [e] [] cp) none pos.line X.env=pure false:=by rfl) :
 PS X (.Expr (.Call (.Attribute (.Name x px) "append" ap) [e] [] cp) pos) (tS (kk X cm) E (zB i me)):=
 PS.wk (aX (gS cG gx ja aJ ho (Û he Ċ mn) bq ge br mn hpl) hs) λ_ _ _ h=>Cu h
def Cw{D:Ends}{Z:ð}{H:Hp}(h:tS (kk X cm) E (ql i me) D Z H):jh (Gf X.K "list" Bh (bc i) (tL (kk X cm) E (Í me å))) D Z H:=by
 obtain⟨c,F,U,rel,h⟩:=h;unfold ql at h;split at h
 ·rename_i QL e1;obtain⟨a,QM,z1,z2,z3,z4,z5,z6,z7⟩:=zC rel e1;refine⟨.ref a,z1,.inl ⟨rfl,_,ϐ.of z2⟩,c,F,U,rel,?_⟩;unfold Í;cases em:me U with
  |bad=>rw[em] at h;exact h
  |exc x U1=>rw[em] at h;exact λC d F' H' ĵ s1 q=>h Z C d F' H' ĵ s1 q
  |ok p U1=>
   rw[em] at h;intro us F1 H1 Ð s1 s2 r1;have dM:Õ (kk X cm) F1 [p] us:=r1;cases dM.pr with
   |cons rp t=>
    rename_i v ac;cases t;simp only[Ġ.bW] at h;split at h
    ·rename_i ps Lz e2;obtain⟨a2,vs,w1,w2,w3,w4,w5,w6,w7⟩:=zC Ð e2;rw[z1] at w1;cases w1;split at h
     ·rename_i hz;have ev:v=.int Lz:=by have:ü (kk X cm) F1 (.int Lz) v:=rp;unfold ü at this;exact this
      subst ev;have hl:=w5.length;obtain⟨y,hy⟩:∃y,vs[Lz.toNat]?=some y:=⟨_,Ϭ (by lia)⟩;refine⟨a,vs,Lz,Lz.toNat,y,rfl,rfl,w2,by lia,by lia,?_,hy,h Z F1 _ (Ð.write w7 z1 ⟨a,vs.eraseIdx Lz.toNat,rfl,Ü,w3,w4,Õ.of (vw _ w5.pr),w6⟩ λ_ z=>(V.ref.inj z).symm) s1⟩;unfold seqIndex?;have n0:¬Lz<0:=by lia
      simp only[n0,if_false];rw[if_pos (by rw[Ą];exact⟨decide_eq_true hz.1,decide_eq_true (by lia)⟩)]
     ·exact h.elim
    ·exact h.elim
 ·exact h.elim
def LA{x:Str}{px ap cp:Pos}(ho:PE X (.Name x px) (bc i))(he:PE X e (tV (kk X cm) E me))(bq:ϯ (.Name x px) "pop" X.env (eval (.Name x px) X.env)=eval (.Name x px) X.env:=by rfl)
 (ge:((ñ cp (È [e] X.env)).all (λx=>!x.1) && (ϱ cp (ϲ [] X.env)).all (λx=>x.1.isSome) && decide ([e].length+([]:List Ł).length+(if([]:List Ł).isEmpty then 0 else 1)<30))=true:=by rfl)
 (br:(ap.endLine== cp.line)=true:=by rfl)(mn:È [e] X.env=(false,eval e X.env)::È [] X.env:=by exact į rfl)(hpl:(ñ cp (È [] X.env)).any (·.1)=false:=by rfl)(hs:Ĳ (.Call (.Attribute (.Name x px) "pop" ap) [e] [] cp) none pos.line X.env=pure false:=by rfl) :
 PS X (.Expr (.Call (.Attribute (.Name x px) "pop" ap) [e] [] cp) pos) (tS (kk X cm) E (ql i me)):=
 PS.wk (aX (gS cG PySem.F.slot_list_pop PySem.F.type_list_pop Bi ho (Û he Ċ mn) bq ge br mn hpl) hs) λ_ _ _ h=>Cw h
end
def km{M:ϔ}{Γ:PySem.Ctx}{p:Pos}{t:Sem Fin}{fs:List Frame}{s s':Â}{e:End}(h:Runs M Γ p t fs s e s'):s.toks<=s'.toks:=by
 induction h<;>first
  |exact â _
  |assumption
  |(rename_i ih;exact Ő (iI _) ih)
  |(rename_i ih1 ih2;exact Ő ih1 ih2)
def wp_toks{α:Type}{M:ϔ}{Γ:PySem.Ctx}{Q:α->Pos->Â->Prop}{E:Á->Pos->Â->Prop}{n:Nat}:∀(t:Sem α) (p:Pos) (s:Â),n<=s.toks->ę M Γ t Q E p s->ę M Γ t (λa p s'=>Q a p s'/\n<=s'.toks) E p s:=by
 intro t
 induction t with
 |pure a=>intro p s hn h;rw[ę] at h ⊢;exact⟨h,hn⟩
 |raise e=>intro p s hn h;rw[ę] at h ⊢;exact h
 |unsupported w=>intro p s hn h;rw[ę] at h;exact h.elim
 |finish e=>intro p s hn h;rw[ę] at h;exact h.elim
 |rule tag k ih=>intro p s hn h;rw[ę] at h ⊢;exact ih () p s hn h
 | «at» p' k ih=>intro p s hn h;rw[ę] at h ⊢;exact ih () p' s hn h
 |load a part k ih=>intro p s hn h;rw[ę] at h ⊢;obtain⟨o,h1,h2⟩:=h;exact⟨o,h1,ih o p s hn h2⟩
 |update a part f k ih=>intro p s hn h;rw[ę] at h ⊢;exact⟨h.1,ih () p _ hn h.2⟩
 |loadIfAlive a k ih=>intro p s hn h;rw[ę] at h ⊢;exact ih _ p s hn h
 |point l k ih=>intro p s hn h;rw[ę] at h ⊢;exact ih () p s hn h
 |register a k ih=>intro p s hn h;rw[ę] at h;exact h.elim
 |alloc o k ih=>intro p s hn h;rw[ę] at h ⊢;exact ih _ p _ hn h
 |fresh k ih=>intro p s hn h;rw[ę] at h ⊢;exact ih _ p _ (Nat.le_succ_of_le hn) h
 |ask k ih=>intro p s hn h;rw[ę] at h ⊢;exact ih _ p s hn h
 |choose src m k ih=>intro p s hn h;rw[ę] at h ⊢;exact⟨h.1,ih _ p _ hn h.2⟩
 |os q l k ih=>intro p s hn h;rw[ę] at h ⊢;exact ih _ p _ hn h
 |call c h0 g l k ih=>intro p s hn h;rw[ę] at h ⊢;obtain⟨r,s',h1,h2⟩:=h;exact⟨r,s',h1,ih r p s' (Ő hn (km h1)) h2⟩
 |handled own k ih=>intro p s hn h;rw[ę] at h ⊢;exact ih _ p s hn h
 |genState g k ih=>intro p s hn h;rw[ę] at h ⊢;obtain⟨o,h1,h2⟩:=h;exact⟨o,h1,ih _ p s hn h2⟩
 |newGen c k ih=>intro p s hn h;rw[ę] at h ⊢;exact ih _ p _ hn h
 |resume g r l k ih=>
  intro p s hn h;rw[ę] at h ⊢;obtain⟨res,s',h1,h2⟩:=h;refine⟨res,s',h1,ih res p s' (Ő hn ?_) h2⟩;unfold Wakes at h1;split at h1
  ·exact h1.elim
  ·split at h1
   ·obtain⟨e,s1,q1,_,_,rfl⟩:=h1;have:=km q1;exact this
   ·obtain⟨_,rfl⟩:=h1;exact â _
   ·obtain⟨_,rfl⟩:=h1;exact â _
  ·obtain⟨e,s1,q1,_,_,rfl⟩:=h1;have:=km q1;exact this
  ·obtain⟨_,rfl⟩:=h1;exact â _
  ·obtain⟨_,rfl⟩:=h1;exact â _
 |yield v g l k ih=>intro p s hn h;rw[ę] at h;exact h.elim
 |stack k ih=>intro p s hn h;rw[ę] at h ⊢;exact ih _ p s hn h
 |thread k ih=>intro p s hn h;rw[ę] at h ⊢;exact ih _ p s hn h
 |fork=>intro p s hn h;rw[ę] at h;exact h.elim
 |await=>intro p s hn h;rw[ę] at h;exact h.elim
def jE{α:Type}{M:ϔ}{A:Ú}{t:Sem α}{Q:α->Â->Prop}{E:Á->Â->Prop}{s:Â}{n:Nat}(hn:n<=s.toks)(h:Ç M A t Q E s):Ç M A t (λa s'=>Q a s'/\n<=s'.toks) E s:=λΓ p hΓ=>wp_toks t p s hn (h Γ p hΓ)
structure gZ(Pg:Ù)(w:Ô)(K:Æ)(mg:Str->Option Á)(base:Ë)(CX:dh)(k:Nat)(f:À)(fd:ú)(ps:List Str)(sp:Sp):Prop where
 len:∀vs H Q E,sp vs H Q E->vs.length=ps.length
 run:∀(A:Ú) (outer:List Env) (s:Â) (H:Hp) (args:Args) (us:List Á) (vs:List V) (Q:VK) (E:XK),0<s.toks->Ń k A->oM Pg w K mg base A outer s H->aR s fd args (ps.zip us)->ġ vs us->sp vs H Q E->
  ϕ (É Pg w) A (.call (.ref f) args) (CR CX outer Pg w H s Q E) s
section
variable{Pg:Ù}{w:Ô}{K:Æ}{mg:Str->Option Á}{base:Ë}{CX:dh}{k:Nat}{f:À}{fd:ú}{ps:List Str}{sp:Sp}
def Ď.pos(F:Ď Pg w K mg base CX k f fd ps sp):gZ Pg w K mg base CX k f fd ps sp:=⟨F.len,λA outer s H args us vs Q E _=>F.run A outer s H args us vs Q E⟩
theorem gZ.mono{j:Nat}(F:gZ Pg w K mg base CX j f fd ps sp)(h:j<=k):gZ Pg w K mg base CX k f fd ps sp:=⟨F.len,λA outer s H args us vs Q E h0 hr=>F.run A outer s H args us vs Q E h0 (hr.mono h)⟩
end
def Uo(X:Cx)(ss:List Ï)(t:TS):Prop:=∀(Ã:List (À×Obj)) (s:Â) (Z:ð) (H:Hp) (D:Ends),Inv X Ã Z H s->1<=s.toks->t D Z H->Ç (É X.prog X.w) X.A (execs ss X.env) (SP X Ã D) X.xe s
def LB{CX:dh}{Pg:Ù}{w:Ô}{K:Æ}{mg:Str->Option Á}{base:Ë}{k:Nat}{f:À}{name ç:Str}{params:aS}{body:List Ï}{scope:ë}{dV kV iu pm ğ ct oc:Á}{an od:Option À}
 {oJ:Array (Option Á)}{N ps:List Str}{sp:Sp}(lk:K.lookup f=some ⟨oc,od,.func (ş name ç params body scope dV kV iu pm an ğ ct),oJ⟩)(cZ:ei K ğ ç=true)(S:Ý N ps scope)
 (len:∀vs H Q E,sp vs H Q E->vs.length=ps.length)
 (ϧ:∀(A:Ú) (outer:List Env) (s:Â) (H:Hp) (vs:List V) (Q:VK) (E:XK),Ń k (A.deeper (ê ç scope s.heap.objs.size f ğ))→sp vs H Q E→
   ∃t,Uo (Ň CX Pg w K mg base N ç scope f ğ A outer s H E) body t/\t {nx:=λ_ H'=>Q .non H',rt:=Q} (L2.start N vs) H) :
 gZ Pg w K mg base CX (k+1) f (ş name ç params body scope dV kV iu pm an ğ ct) ps sp:=by
 refine⟨len,λA outer s H args us vs Q E h0 hr e0 hb r pq=>?_⟩;have hl:=len _ _ _ _ pq;have KX:K.In s.heap:=e0.mod.AT.keeps λb o e=>(e0.bs b o e).1;have Qd:s.heap.NoLimit:=e0.mod.nolimit.keeps λb o e=>(e0.bs b o e).1;have vW:∀y∈ps.zip us,scope.names.lookup y.1=some .local\/(scope.names.lookup y.1=some .cell/\((ĥ (s.heap.objs.size+1) scope.names []).lookup y.1).isSome=true):=λ⟨n,v⟩ hy=>by
  rcases S.par n (iF hy).1 with q|q
  ·exact .inl q
  ·exact .inr ⟨q,lN _ _ _ (.inl q)⟩
 refine qQ hr.depth (KX _ _ lk) rfl S.co S.gen rfl (rS KX cZ) (hb _ _ _ _ ?_);refine ň (jE (n:=1) h0 (qR S.kind vW λenv he s1 x=>And.intro he x)) λenv s1 ⟨⟨he,x⟩,hp⟩=>?_;subst he;refine⟨Qd.keeps x.toInCall.keep,codeAny_func ?_⟩;obtain⟨t,ht,hq⟩:=ϧ A outer s H vs Q E (hr.deeper _) pq;have I:Inv (Ň CX Pg w K mg base N ç scope f ğ A outer s H E) [] (L2.start N vs) H s1:=jX S hr.hd e0 hl r x;refine ı (ht [] s1 (L2.start N vs) H _ I hp hq) (λfl s' hs=>?_) λe s' hs=>hs;have gR:∀{Z':ð} {H':Hp} {v:V} {u:Á},Inv (Ň CX Pg w K mg base N ç scope f ğ A outer s H E) [] Z' H' s'->RelV v u->Q v H'->CE outer Pg w H s Q u s':=
  fun{Z' H' v u} J rv q=>⟨v,H',J.os,J.bare,J.base,J.hok,rv,q⟩
 cases fl with
 |ret u=>obtain⟨v,Z',H',J,rv,q⟩:=hs;exact gR J rv q
 |next=>obtain⟨Z',H',J,q⟩:=hs;exact gR (v:=V.non) (u:=Value.none) J rfl q
 |brk=>obtain⟨_,_,_,q⟩:=hs;exact ě q
 |cont=>obtain⟨_,_,_,q⟩:=hs;exact ě q
section
variable{Pg:Ù}{w:Ô}{K:Æ}{cm:String->À}{mg:Str->Option Á}{base:Ë}{CX:dh}
def X8{x ç:Str}{st:Ï}{f:À}{fd:ú}{N ps:List Str}{k n j:Nat}{mb:M Fl}{mf:MF}(F:yU K x ç st f fd)(S:Ý N ps (Î st))
 (ϧ:∀(ğ:Á) (A:Ú) (outer:List Env) (s:Â) (H:Hp) (E:XK),Ń k (A.deeper (ê ç (Î st) s.heap.objs.size f ğ))→
   Uo (Ň CX Pg w K mg base N ç (Î st) f ğ A outer s H E) (ń st) (tS ⟨K,cm⟩ (λ_=>E) mb))(hn:ps.length=n:=by rfl)(hj:N.length=j:=by rfl)(hf:mf=Ţ n j mb:=by rfl):gZ Pg w K mg base CX (k+1) f fd ps (bX ⟨K,cm⟩ n mf):=by
 subst hn hj hf;obtain⟨oc,od,kV,iu,pm,an,ğ,ct,oJ,rfl,lk,cZ⟩:=F.ex;refine LB lk cZ S (λvs H Q E ⟨F,cr,h1,_,h2,_⟩=>by rw[<-Paired.length h2];exact h1) λA outer s H vs Q E hr pq=>?_;obtain⟨F,cr,h1,h2,h3,h4⟩:=pq;refine⟨_,ϧ ğ A outer s H E hr,aC F H,F,ì N.length cr,Ā.start h2 h3,?_⟩;unfold Ţ at h4;rw[if_pos h1] at h4;cases e:mb (ì N.length cr) with
 |bad=>rw[e] at h4;exact h4
 |exc x U'=>rw[e] at h4;exact λZ' C d F' H' rel s1 q=>h4 C d F' H' rel.gr q
 |ok fl U'=>
  rw[e] at h4;cases fl with
  |nx=>exact λZ' F' H' rel s1=>h4 .non F' H' rel.gr (ü.non (K:=⟨K,cm⟩) (F:=F'))
  |bk=>exact h4.elim
  |ct=>exact h4.elim
  |rt r=>
   intro v Z' F' H' rel s1 q;refine h4 v F' H' rel.gr ?_;cases r with
   |sh p=>exact q
   |ow qs=>obtain⟨a,ac,e1,e2,e3,e4,_,e5⟩:=q;exact⟨a,ac,e1,e2,e3,e4,e5⟩
   |ot qs ts rs=>obtain⟨p,a,xs,ac,ys,e1,e0,ex,e2,e3,e4,_,e5⟩:=q;exact⟨p,a,xs,ac,ys,e1,e0,ex,e2,e3,e4,e5⟩
   |bn t ps qs rows=>exact q
end
@[simp] def Cy(y z:Str)(m:M PV)(U:û):Ġ PV:= (m U).bind fun p U1=>match p with
  | .str t=>if t.length+(t.length+1)*z.length<=16777216 then .ok (.str (jd t y z)) U1 else .bad
  |_=>.bad
section
variable{X:Cx}{cm:String->À}{E:ð->XK}{o:Å}{m:M PV}{ap cp pos p1 p2:Pos}{j1 j2:Nat}{y z:Str}
def xt{M:ϔ}{A:Ú}{env:Env}{E:Á->Â->Prop}{s:Â}{Q:List Á->Â->Prop}(h:Q [.str y s.toks,.str z (s.toks+1)] {s with toks:=s.toks+1+1}):Ç M A (spliced (ñ cp (È [.Constant (.str y) j1 p1,.Constant (.str z) j2 p2] env))) Q E s:=by rw[į rfl];refine qX (qW (k:=j1) (pos:=p1) ?_);show Ç M A (spliced (ñ cp (È [.Constant (.str z) j2 p2] env))) _ _ _;rw[į rfl];refine qX (qW (k:=j2) (pos:=p2) ?_);exact Calls.spliced_nil h
def LC(ho:PE X o (tV (kk X cm) E m))(hyz:(y== z)=false:=by decide +kernel)(bq:ϯ o "replace" X.env (eval o X.env)=eval o X.env:=by rfl)
 (ge:((ñ cp (È [.Constant (.str y) j1 p1,.Constant (.str z) j2 p2] X.env)).all (fun x=>!x.1) && (ϱ cp (ϲ [] X.env)).all (fun x=>x.1.isSome)
   && decide ([Expr.Constant (.str y) j1 p1,Expr.Constant (.str z) j2 p2].length+([]:List Ł).length+(if([]:List Ł).isEmpty then 0 else 1)<30))=true:=by rfl)
 (br:(ap.endLine== cp.line)=true:=by rfl)(ff:(ñ cp (È [.Constant (.str y) j1 p1,.Constant (.str z) j2 p2] X.env)).any (·.1)=false:=by rfl) :
 Uo X [.Return (some (.Call (.Attribute o "replace" ap) [.Constant (.str y) j1 p1,.Constant (.str z) j2 p2] [] cp)) pos] (tS (kk X cm) E (Ī (Ϝ (Cy y z m)))):=by
 intro Ã s Z H D I h0 ⟨c,F,U,rel,h⟩;have key:Ç (É X.prog X.w) X.A (eval (.Call (.Attribute o "replace" ap) [.Constant (.str y) j1 p1,.Constant (.str z) j2 p2] [] cp) X.env) (EP X Ã Z λv H1=>D.rt v H1) X.xe s:=by
  have hm:tV (kk X cm) E m Z H λx H1=>∃t,x=.str t/\t.length+(t.length+1)*z.length<=16777216/\D.rt (.str (jd t y z)) H1:=by
   refine⟨c,F,U,rel,Ņ.bind (D:=D) (f:=λp U1=>match p with
    | .str t=>if t.length+(t.length+1)*z.length<=16777216 then .ok (.rt (.sh (.str (jd t y z)))) U1 else .bad
    |_=>.bad) (by
    revert h
    unfold Ī Ϝ Cy;cases m U with
    |ok p U1=>
     cases p with
     |str t=>simp only[Ġ.bW];split<;>exact id
     |_=>exact id
    |exc x U1=>exact id
    |bad=>exact id) λp U1 v F1 H1 Ð s1 q h1=>?_⟩
   cases p with
   |str t=>
    dsimp only at h1;split at h1
    ·rename_i hl;have e:v=.str t:=by have q':ü (kk X cm) F1 (.str t) v:=q;unfold ü at q';exact q'
     exact⟨t,e,hl,h1 _ Z F1 H1 Ð ċ (ü.str (K:=kk X cm) (F:=F1))⟩
    ·exact h1.elim
   |_=>exact h1.elim
  refine wpAny_Call_method_late bq ge br rfl (ň (jE h0 (ho Ã s Z H _ I hm)) λv s1 ⟨⟨x,H1,I1,r1,t,ex,hl,q1⟩,hp⟩=>?_);subst ex;obtain⟨tk,rfl⟩:=r1;refine⟨"str","str.replace",ż,PySem.F.slot_str_replace,PySem.F.type_str_replace,dW _ _ _,(λ_ e=>nomatch e),?_⟩;refine yo ff (yq ?_);refine xt ?_;exact PySem.SC.replace (ai hp) (Nat.succ_ne_zero _) (Ĥ (qJ _)) hyz hl λt' k=>⟨.str _,H1,I1.tok _,⟨_,rfl⟩,q1⟩
 have k2:Ç (É X.prog X.w) X.A (exec (.Return (some (.Call (.Attribute o "replace" ap) [.Constant (.str y) j1 p1,.Constant (.str z) j2 p2] [] cp)) pos) X.env) (SP X Ã D) X.xe s:=wpAny_Return_some (ň key λv s1 ⟨x,H1,I1,r1,q1⟩=>⟨x,Z,H1,I1,r1,q1⟩);refine lB (ň k2 λf s1 q=>?_);cases f with
 |next=>exact iO q
 |_=>exact q
end
def Cz(X:Cx)(cm:String->À)(CX:dh)(k n:Nat)(C:String)(mf:MF):Prop:=∃fd ps,Ō X.K (.ref (cm C))=true/\gZ X.prog X.w X.K X.mg X.base CX k (cm C) fd ps (bX (kk X cm) n mf)/\Binds X.K fd ps []/\
 ∀{ps:List Slot},(∃r,mf ps=r/\∀z,r=z->z≠ .bad)->ps.length=n
section
variable{X:Cx}{cm:String->À}{E:ð->XK}{CX:dh}{k n:Nat}{Ϗ:List (String×MF)}{m ma:M PV}{ms:M (List Slot)}{a e:Å}{es:List Å}{pos p1 p2:Pos}{f:À}{fd:ú}{ps:List Str}{jx:Int}{j1:Nat}
def Ft{sp:Sp}{Ã:List (À×Obj)}{Z:ð}{H:Hp}{s:Â}{Q:VK}{us:List Á}{vs:List V}(F:gZ X.prog X.w X.K X.mg X.base CX k f fd ps sp)(hr:Ń k X.A)(hb:Binds X.K fd ps [])(hx:Ľ CX X E)(h0:0<s.toks)
 (I:Inv X Ã Z H s)(r:ġ vs us)(h:sp vs H Q (E Z)):Ç (É X.prog X.w) X.A (call (.ref f) us) (EP X Ã Z Q) X.xe s:=by
 have hl:(us ++ []).length=ps.length:=by rw[ϩ,<-r.length];exact F.len _ _ _ _ h
 have zY:=hb s us I.fv hl;rw[ϩ] at zY;refine dY (bN (F.run X.A X.stack s H ⟨us,[]⟩ us vs Q (E Z) h0 hr I.env0 zY r h) λr s' hq=>?_);cases r with
 |error e=>exact hx Ã Z H s e s' I hq
 |ok fl=>
  cases fl with
  |ret u=>exact I.after hq
  |next=>exact ě hq
  |brk=>exact ě hq
  |cont=>exact ě hq
def LD(ha:PE X a (tR (kk X cm) E ma)){Ã:List (À×Obj)}{s:Â}{Z:ð}{H:Hp}{Q:VK}(I:Inv X Ã Z H s)(h:tV (kk X cm) E (Þ Ķ ma (mC (.int jx))) Z H Q) :
 Ç (É X.prog X.w) X.A (eval (.Subscript a (.Constant (.int jx) j1 p1) p2) X.env) (λv s'=>EP X Ã Z Q v s'/\1<=s'.toks) X.xe s:=by
 have h2:=uL Gz h;refine Subscript_ (ň (ha Ã s Z H _ I h2) λv s1 ⟨x,H1,I1,rx,q1⟩=>?_);refine wpAny_Constant_int ?_;obtain⟨c,F,U,rel,q1⟩:=q1;have q2:=q1 (.int jx) F H1 rel ċ ċ (rR.of (ü.int (K:=kk X cm) (F:=F)));exact jE (n:=1) (Nat.succ_le_succ (Ÿ _)) (Gh a _ Ã _ Z H1 x (.int jx) v _ Q (I1.tok _) rx ⟨_,rfl⟩ q2 rfl)
def CA{c:Ctx}{F H:Hp}{Z:ð}{U:û}{Q:VK}(h:Ť (kk X cm) E (rO (kk X cm)) c F H Z Q (Lr Ϗ m ms U))(wN:wM (λC mf=>Cz X cm CX k n C mf) Ϗ) :
 Ť (kk X cm) E (rV (kk X cm)) c F H Z (λx H1=>∃g fd ps mf,x=.ref g/\Ō X.K (.ref g)=true/\gZ X.prog X.w X.K X.mg X.base CX k g fd ps (bX (kk X cm) n mf)/\Binds X.K fd ps []/\
  tA (kk X cm) E ms Z H1 λvs H2=>bX (kk X cm) n mf vs H2 Q (E Z)) (m U):=
 Ť.bind h λp U1 v F1 H1 Ð _ _ r1 h1=>by
  cases p with
  |cls C=>
   dsimp only at h1;cases el:Ϗ.lookup C with
   |none=>rw[el] at h1;exact h1.elim
   |some mf=>rw[el] at h1;dsimp only at h1;obtain⟨fd,qs,k2,k3,k4,k5⟩:=wN.get el;have dM:ü (kk X cm) F1 (.cls C) v:=r1;unfold ü at dM;subst dM;exact⟨_,fd,qs,mf,rfl,k2,k3,k4,c,F1,U1,Ð,Ť.bind h1 λas U2 vs F2 H2 đ sF sH r3 h3=>mX k5 đ r3 h3⟩
  |_=>exact h1.elim
def LF(wN:wM (λC mf=>Cz X cm CX k n C mf) Ϗ)(hr:Ń k X.A)(hx:Ľ CX X E)(ho:PE X a (tR (kk X cm) E ma))(ha:PA X (e::es) (tA (kk X cm) E ms))
 (mn:È (e::es) X.env=(false,eval e X.env)::È es X.env:=by exact į rfl)(hpl:(ñ pos (È es X.env)).any (·.1)=false:=by rfl)
 (ht:eval (.Call (.Subscript a (.Constant (.int jx) j1 p1) p2) (e::es) [] pos) X.env=(do iV pos (<-eval (.Subscript a (.Constant (.int jx) j1 p1) p2) X.env) [] (ñ pos (È (e::es) X.env)) (ϱ pos (ϲ [] X.env))):=by rfl) :
 PE X (.Call (.Subscript a (.Constant (.int jx) j1 p1) p2) (e::es) [] pos) (tO (kk X cm) E (Lr Ϗ (Þ Ķ ma (mC (.int jx))) ms)):=by
 intro Ã s Z H Q I ⟨c,F,U,rel,h⟩;rw[ht];refine Ê (ň (LD ho I ⟨c,F,U,rel,CA h wN⟩) λu s1 ⟨⟨x,H1,I1,rx,g,fd,ps,mf,ex,k2,k3,k4,q⟩,hp⟩=>?_);subst ex;obtain rfl:u=ć g:=rx;refine cK (h₀:= X.base) I.ok.mod.AT k2 (ň (jE hp (ha pos Ã s1 Z H1 _ I1 q)) λus s2 ⟨⟨vs,H2,I2,r,q2⟩,Qu⟩=>⟨I2.fv,?_⟩) mn hpl;exact Ft k3 hr k4 hx Qu I2 r q2
end
def kn:Slot->Slot
 | .rc _ _ _=>.no
 | .pw _=>.no
 |s=>s
def Ph(c:Ctx):Ctx:=⟨c.B,c.F₀,c.L,λ_ _ _=>True⟩
theorem Ā.Ph{K:KK}{c:Ctx}{F H:Hp}{Z:ð}{U:û}(r:Ā K c F H Z U):Ā K (Ph c) F H Z U:= ⟨r.sub,r.base,r.f0,r.ba,r.lent,r.lb,r.len,λi s e=>(r.slot i s e).ctx (λ_ _ z=>z) (λ_ _ _ _=>trivial) (λ_ _ _ _ z=>z) (λ_ _ _ z=>z),r.sep⟩
def Ā.blank{K:KK}{c:Ctx}{F H:Hp}{Z:ð}{U:û}(r:Ā K (P.Ph c) F H Z U):Ā K c F H Z (U.map kn) where
 sub:=r.sub
 base:=r.base
 f0:=r.f0
 ba:=r.ba
 lent:=r.lent
 lb:=r.lb
 len:=by rw[Ŏ];exact r.len
 slot:=λi s e=>by
  rw[ķ] at e;cases e1:U[i]? with
  |none=>rw[e1] at e;cases e
  |some t=>rw[e1] at e;have e':kn t=s:=Ŋ e;subst e';have q:=r.slot i t e1;cases t<;>first|exact q|trivial
 sep:=λi j a h1 h2=>by
  have off:∀{i},Ė F Z (U.map kn) i a->Ė F Z U i a:=fun{i} ⟨s,x,q1,q2,q3⟩=>by
   rw[ķ] at q1;cases e1:U[i]? with
   |none=>rw[e1] at q1;cases q1
   |some t=>rw[e1] at q1;have e':kn t=s:=Ŋ q1;subst e';refine⟨t,x,e1,q2,?_⟩;cases t<;>first|exact q3|exact q3.elim
  exact r.sep i j a (off h1) (off h2)
def xu(i:Nat)(C:String)(mi:MI)(ms:M (List Slot))(m2:M Fl):M Fl:=λU=>(ms U).bind λas U1=>match mi as with
 | .ok ns ps=>(match m2 (U1.set i (.rc C ns ps)) with
   | .ok (.rt (.sh p)) U2=>.ok (.rt (.sh p)) (U2.map kn)
   | .exc x U2=>.exc x (U2.map kn)
   |_=>.bad)
 | .exc x=>.exc x U1
 | .bad=>.bad
section
variable{X:Cx}{cm:String->À}{E:ð->XK}{e:Å}{es:List Å}{pos p DW aa:Pos}{CX:dh}{k n:Nat}{f:À}{fd:ú}{ps:List Str}{C:String}{mi:MI}{ms:M (List Slot)}{x y:Str}{m2:M Fl}{rest:List Ï}{i:Nat}
def AE{c:Ctx}{F1 H1:Hp}{Z:ð}{U1:û}{Q:VK}{as:List Slot}{vs:List V}(hlen:(∃r,mi as=r/\∀z,r=z->z≠ .bad)->as.length+1=n)(Ð:Ā (kk X cm) c F1 H1 Z U1)(r1:Paired (au (kk X cm) F1 H1) as vs)
 (h:match mi as with
   | .ok ns qs=>∀x dx fs F' H',Gr F1 H1 F' H'->H1 x=none->H' x=some (.ins (cm C) dx fs)->F' x=none->fs.map (·.1)=ns->Õ (kk X cm) F' qs (fs.map (·.2))->Q (.ref x) H'
   | .exc y=>∀C' d F' H',Gr F1 H1 F' H'->mO (kk X cm) F' y C' d->E Z C' d H'
   | .bad=>False) :
 ∀x dx,H1 x=none->H1 dx=none->dx≠x->wO (kk X cm) n C mi (.ref x::vs) (upd (upd H1 dx (.own x)) x (.ins (cm C) dx [])) (λv H2=>v=.non/\Q (.ref x) H2) (E Z):=by
 intro x dx hx Qqq2 kv;have up:∀b u,H1 b=some u->upd (upd H1 dx (.own x)) x (.ins (cm C) dx []) b=some u:=λb u e=>by rw[Ö (æ e hx),Ö (æ e Qqq2)];exact e
 have wP:∀{F' H':Hp},Ox x F1 (upd (upd H1 dx (.own x)) x (.ins (cm C) dx [])) F' H'->Gr F1 H1 F' H':=fun{F' H'} g=>
  ⟨fun b u e=>g.h b u (æ e hx) (up b u e),g.f,g.sub,fun b hb hf=>by
    obtain⟨u,hu⟩:∃u,H1 b=some u:=by
     cases q:H1 b with
     |none=>exact absurd q hb
     |some u=>exact⟨u,rfl⟩
    exact g.out b (æ hu hx) (by rw[up b u hu];intro z;cases z) hf⟩
 refine⟨F1,x,dx,vs,as,rfl,?_,Ü,Ð.sub.free hx,λb u e=>up b u (Ð.sub b u e),?_,?_⟩
 ·exact hlen ⟨_,rfl,λz hz hb=>by rw[hz,hb] at h;exact h⟩
 ·refine Paired.mono (λs v hs=>?_) r1;cases s with
  |sh p=>exact hs
  |bw qs=>obtain⟨b,ws,q1,q2,q3,q4⟩:=hs;exact⟨b,ws,q1,up b _ q2,q3,q4⟩
  |dw cO=>obtain⟨b,ts,q1,q2,q3,q4⟩:=hs;exact⟨b,ts,q1,up b _ q2,q3,cP q4 λt d _ ⟨xs,y,ws,k1,k2,k3,k4⟩=>⟨xs,y,ws,k1,k2,⟨up y _ k3.1,k3.2⟩,k4⟩⟩
  |_=>exact hs.elim
 ·cases em:mi as with
  |bad=>rw[em] at h;exact h
  |exc y=>rw[em] at h;exact λC' d F' H' g rx=>h C' d F' H' (wP g) rx
  |ok ns qs=>rw[em] at h;exact λF' H' fs g FV Qn hn hr=>⟨rfl,h x dx fs F' H' (wP g) hx FV Qn hn hr⟩
def Fu(hN:X.N.Nodup)(hi:X.N[i]?=some y)(hy:Loc X.env.scope y)(M:Mk X.K (cm C) f)(F:Ď X.prog X.w X.K X.mg X.base CX k f fd ps (wO (kk X cm) n C mi))(hlen:∀{as:List Slot},(∃r,mi as=r/\∀z,r=z->z≠ .bad)->as.length+1=n)(hr:Ń (k+1) X.A)(hg:Gl X x)(hm:X.mg x=some (.ref (cm C)))(hb:Binds X.K fd ps [])(hx:Ľ CX X E)
 (ha:PA X (e::es) (tA (kk X cm) E ms))(h2:Ϡ X rest (tS (kk X cm) E m2))(gc:(x== ("__debug__" :Str))=false:=by decide)(he:È (e::es) X.env=(false,eval e X.env)::È es X.env:=by exact į rfl)(hpl:(ñ pos (È es X.env)).any (·.1)=false:=by rfl)
 (hs:Ĳ (.Call (.Name x p) (e::es) [] pos) (some (.Name y aa)) DW.line X.env=pure false:=by rfl)(hf:X.fn y=true\/X.env.scope.names.lookup y=some .local:=by first|exact .inl rfl|exact .inr rfl|assumption) :
 Ϡ X (.Assign [.Name y aa] (.Call (.Name x p) (e::es) [] pos) DW::rest) (tS (kk X cm) E (xu i C mi ms m2)):=
 Ϡ.wk (be (jU hN hi hy (OR M F hr hg hm hb hx ha gc he hpl) hs hf) h2) λD Z H ⟨c,F,U,rel,h⟩=>⟨c,F,U,rel,Ņ.bind (D:=D) h λas U1 vs F1 H1 Ð s1 r1 h1=>AE (C:=C) (Q:=λv H2=>my i v Z H2 (tS (kk X cm) E m2 D)) hlen Ð r1 (by
  cases em:mi as with
  |bad=>rw[em] at h1;exact h1
  |exc y=>rw[em] at h1;exact λC' d F' H' g rx=>h1 Z C' d F' H' (Ð.call g) g.f rx
  |ok ns qs=>
   rw[em] at h1;intro x dx fs F' H' g q1 q2 q3 q4 q5;have r2:=(Ð.call g).Ph;show tS (kk X cm) E m2 D (Z.set i (some (.ref x))) H';refine⟨Ph c,F',_,r2.wE (i:=i) (s:=.rc C ns qs) ⟨x,dx,fs,rfl,q2,q3,Ð.base.free q1,q4,q5,trivial⟩ (λb z=>by rw[<-V.ref.inj z];exact Ð.eO g.f (Ð.fresh q1)),?_⟩;dsimp only at h1;cases e2:m2 (U1.set i (.rc C ns qs)) with
   |bad=>rw[e2] at h1;exact h1
   |exc x U2=>rw[e2] at h1;exact λZ' C' d F2 H2 ĵ s2 q=>h1 Z' C' d F2 H2 ĵ.blank (g.f.trans s2) q
   |ok fl U2=>
    rw[e2] at h1;cases fl with
    |rt r=>
     cases r with
     |sh p=>exact λv Z' F2 H2 ĵ s2 q=>h1 v Z' F2 H2 ĵ.blank (g.f.trans s2) q
     |_=>exact h1.elim
    |_=>exact h1.elim)⟩
end
def Fv{K:Æ}{cm:String->À}{pm:ĺ}{a:À}{Ϗ:List (Str×PV)}{es:Array iS}{n:Nat}(h1:K.lookup a=some ⟨.type "dict",none,.dict es n,#[]⟩)(h2:PySem.W.KeysLit pm es.toList)(h3:AD K cm Ϗ es.toList=true)(h4:(a== iL)=false):tq K cm pm a Ϗ:=⟨es,n,h1,h2,h3,h4⟩
@[simp] theorem Fw{i:Nat}{me:M PV}{U:û}:ql i me U=(match U[i]? with
  |some (.pw _)=>(me U).bind λp U1=>match U1[i]?,p with
   |some (.pw ps),.int k=>if 0<=k/\k<1000000/\k.toNat<ps.length then .ok .nx (U1.set i (.pw (ps.eraseIdx k.toNat))) else .bad
   |_,_=>.bad
  |_=>.bad):=rfl
end P
namespace My
end My
namespace Hu
abbrev Pt:=Int×Int
noncomputable def tn(a b c:Pt):Int:=(b.1-a.1)*(c.2-a.2)-(b.2-a.2)*(c.1-a.1)
section
end
abbrev Ln:=Int×Int×Int
def hd(l:Ln)(p:Pt):Bool:=decide (l.1*p.1+l.2.1*p.2<=l.2.2)
def at_(S:List Pt)(i:Nat):Pt:=S.getD i (0,0)
structure Z2K(S:List Pt)(p:Pt)(w:List Int)(q:List Nat):Prop where
 len:w.length=q.length
 sum:w.sum≠0
 sign:∀s∈w,0<=s*w.sum
 nd:q.Nodup
 lt:∀i∈q,i<S.length
 x:((w.zip q).map λa=>a.1*(at_ S a.2).1).sum=w.sum*p.1
 y:((w.zip q).map λa=>a.1*(at_ S a.2).2).sum=w.sum*p.2
end Hu
namespace Fr
end Fr
namespace T
open PySem L2 M2 M3 M4 P
noncomputable section
def top(i:Nat):Ï:=PySem.Challenge.pw_shadowpost_k74_full_yards.main.body.getD i (.Pass ⟨0,0,0,0⟩)
abbrev G_:Ï:=top 109
abbrev G0:Ï:=top 110
abbrev G1:Ï:=top 112
abbrev G2:Ï:=top 114
abbrev G3:Ï:=top 115
abbrev G4:Ï:=top 119
abbrev LG:Ï:=b_ (top 75) 0
abbrev G5:Ï:=top 33
abbrev G6:Ï:=top 118
abbrev G7:Ï:=top 122
abbrev G8:Ï:=top 111
abbrev G9:Ï:=top 117
abbrev CB:Ï:=top 121
abbrev Ha:Ï:=top 52
abbrev Hb:Ï:=top 53
abbrev Hd:Ï:=top 55
abbrev Pj:Ï:=b_ (top 62) 0
abbrev He:Ï:=top 56
abbrev Hf:Ï:=top 57
abbrev Pk:Ï:=top 58
abbrev Pm:Ï:=top 54
abbrev Hg:Ï:=top 59
abbrev Hh:Ï:=top 68
abbrev Hi:Ï:=top 116
abbrev Hj:Ï:=top 120
abbrev Hk:Ï:=top 123
abbrev Hl:Ï:=top 124
abbrev Hm:Ï:=b_ (top 146) 0
abbrev Pn:Ï:=top 142
abbrev Hn:Ï:=b_ (top 62) 1
abbrev Ho:Ï:=top 125
abbrev Hq:Ï:=top 126
abbrev Hr:Ï:=top 131
abbrev Hs:Ï:=top 128
abbrev Ht:Ï:=top 129
abbrev Hv:Ï:=top 143
abbrev Hw:Ï:=top 144
abbrev Po:Ï:=top 145
abbrev Hx:Ï:=b_ (top 146) 1
abbrev Hy:Ï:=top 148
abbrev Hz:Ï:=top 149
abbrev HA:Ï:=top 150
abbrev Up:Ï:=b_ (top 4) 0
abbrev Uq:Ï:=b_ (top 5) 0
abbrev Pp:Ï:=b_ (top 6) 0
abbrev Pq:Ï:=b_ (top 8) 0
def X9:List ((String×String)×Bool):=[]
def Ya:List ((String×String)×Bool):=[]
def Yb:List String:=[]
def Yc:List String:=[]
def ZJ:List (Str×PV):=[("show",.tup [.int 0,.int 0,.cls "answer_show"]),("dark",.tup [.int 1,.int 1,.cls "answer_dark"]),("who",.tup [.int 1,.int 3,.cls "answer_who"]),("lit",.tup [.int 1,.int 2,.cls "answer_lit"]),("hours",.tup [.int 0,.int 2,.cls "answer_hours"]),("first",.tup [.int 0,.int 2,.cls "answer_first"]),("walk",.tup [.int 1,.int 4,.cls "answer_walk"]),("dial",.tup [.int 0,.int 3,.cls "answer_dial"])]
def Yd(c0:À)(c1:À)(c2:À)(c3:À)(c4:À)(c5:À)(c6:À)(c7:À)(c8:À)(c9:À)(Pr:À)(Ye:À)(c12:À)(Yf:À)(Yg:À)(Yh:À)(c16:À)(Yi:À)(Yj:À)(Yk:À)(Yl:À)(c21:À)(Ym:À)(Yn:À)(Yo:À):String->À:=λs=>match s with
 | "YardError" =>c0
 | "NoNumber" =>c1
 | "BadThing" =>c2
 | "NoStone" =>c3
 | "NoTurn" =>c4
 | "BadRow" =>c5
 | "NoRow" =>c6
 | "NoDay" =>c7
 | "Thing" =>c8
 | "Post" =>c9
 | "Fence" =>Pr
 | "Sail" =>Ye
 | "Cloth" =>c12
 | "House" =>Yf
 | "Yard" =>Yg
 | "Desk" =>Yh
 | "ROWS" =>c16
 | "answer_dark" =>Yi
 | "answer_who" =>Yj
 | "answer_lit" =>Yk
 | "answer_hours" =>Yl
 | "answer_first" =>c21
 | "answer_walk" =>Ym
 | "answer_dial" =>Yn
 | "answer_show" =>Yo
 |_=>0
def tz:M Fl:=(Ī (Ϝ (fw (mS eQ eQ (Ø 1) (bt bY (Í (Ì 0) å)) (Ì 2)) (bt nj (Í (ä (Ϥ [1] 1 (av 0) (gN 1) ś (Þ D0 (Ì 1) (Ì 0)))) å)))))
def nN:MF:=Ţ 3 3 tz
def tD:M Fl:=(Ē (Ř 1 (dL (fN (Cb jy (Ì 0) (Í (mC (.str "-")) å))) (sK (Ì 0) (mP (Ø 1)) jt) (Ϝ (Ĉ 0))))
 (Ē (dL (jq (fN (ä (Ĕ nN (é 1 (Č (mC (.str "0123456789")) (Č (mC (.int (10))) ý)))))))
 (Ī (Ϝ (mC (.bl false))))
 fC)
 (Ī (Ϝ (QJ (Þ Ŀ (Ì 0) (mC (.str "0"))) (Of (Cb jy (Ì 1) (Í (mC (.str "0")) å))))))))
def jF:MF:=Ţ 1 2 tD
def CC:M Fl:=(Ē (dL (fN (bt nj (Í (ä (Ϥ [] 1 (av 0) (gN 0) ś (ä (Ĕ jF (é 0 ý))))) å)))
 (Ī (Ϥ [] 1 (av 0) (gN 0) ś (bt fj (Í (Ì 0) å))))
 fC)
 (Ī (Ϝ (mC .non))))
def vx:MF:=Ţ 1 1 CC
def CD:M Fl:=(Ē (Ř 2 (Ĕ vx (é 0 ý)))
 (Ē (dL (cn (Þ Aq (Ì 2) (mC .non)))
 (ũ "BadRow" 2 [("row",1)] (Í (Ĉ 1) å))
 fC)
 (Ī (jp 2))))
def nO:MF:=Ţ 2 3 CD
def CG:M Fl:=(Ē (dL (uM (cn (Þ da (Þ Ķ (Ì 0) (Ø 0)) (mC (.str "yard")))) (cn (Þ da (bt bY (Í (Ì 0) å)) (Ø 3))))
 (ũ "BadRow" 2 [("row",1)] (Í (Ĉ 1) å))
 fC)
 (Ē (Ř 2 (Ĕ nO (Č (ä (sK (Ì 0) (mP (Ø 1)) jt)) (é 1 ý))))
 (Ē (dL (jq (fN (bt nj (Í (ä (Ϥ [] 1 (av 2) (gN 0) ś (mS eQ eQ (Ø 1) (Ì 0) (mC (.int (20)))))) å))))
 (ũ "BadRow" 2 [("row",1)] (Í (Ĉ 1) å))
 fC)
 (Ī (jp 2)))))
def zD:MF:=Ţ 2 3 CG
def tE:M Fl:=(Ī (Ϝ (fw (Þ EU (nC 0) (Ø 0)) (Þ Ŀ (vk 0) (Ø 0)))))
def kF:MF:=Ţ 1 1 tE
def zE:M Fl:=(Ē (aD 0 ["Yard"] "width" (Ĉ 1))
 (Ē (aD 0 ["Yard"] "height" (Ĉ 2))
 (Ē (aD 0 ["Yard"] "things" (ä (oQ fh (Í (Ì 3) å))))
 (aD 0 ["Yard"] "days" (ä (OS (Fd 4) (kg [] 3 (kh 4) (gD 0 1 2) ś (gQ (Í (Ĉ 0) (Í (Ĉ 1) (Í (ä (oQ fh (Í (Ì 2) å))) å))))) (Ϥ [] 3 (av 4) (gT 3 (ř (gN 0) (ř (gN 1) (ř (gN 2) kz)))) ś (gQ (Í (Ĉ 0) (Í (Ĉ 1) (Í (ä (oQ fh (Í (Ì 2) å))) å)))))))))))
def bZ:MI:=bj 5 5 "Yard" zE
def CH:M Fl:=(Ī (Ϝ (fw (Þ eQ (bt BM (Í (Þ Ķ (Ì 0) (Ø 0)) å)) (mC (.int (1000000)))) (fw (Þ eQ (bt BM (Í (Þ Ķ (Ì 0) (Ø 1)) å)) (mC (.int (1000000)))) (mS eQ eQ (Ø 1) (Þ Ķ (Ì 0) (Ø 2)) (mC (.int (1000000))))))))
def zF:MF:=Ţ 1 1 CH
def xv:M Fl:=(Ē (dL (cn (Þ Ŀ (Ì 0) (ä (fO (Í (mC (.str "night")) å)))))
 (Ī (Ϝ (mC .non)))
 fC)
 (Ē (dL (uM (cn (Þ da (Þ Ķ (Ì 0) (Ø 0)) (mC (.str "ray")))) (cn (Þ da (bt bY (Í (Ì 0) å)) (Ø 4))))
 (ũ "BadRow" 2 [("row",1)] (Í (Ĉ 1) å))
 fC)
 (Ē (Ř 2 (Ϝ (bt nh (Í (ä (Ĕ nO (Č (ä (sK (Ì 0) (mP (Ø 1)) jt)) (é 1 ý)))) å))))
 (Ē (dL (jq (fN (ä (Ĕ zF (é 2 ý)))))
 (ũ "BadRow" 2 [("row",1)] (Í (Ĉ 1) å))
 fC)
 (Ī (jp 2))))))
def vy:MF:=Ţ 2 3 xv
def CI:M WR:=(nB (uM (cn (Þ Ŀ (nC 2) (Ø 0))) (cn (Þ Ŀ (vk 2) (mC (.int (24)))))) (ũ "BadRow" 2 [("row",1)] (Í (Ĉ 1) å)) (vj 2 (ä (Ĕ vy (é 0 (é 1 ý))))))
def zG:MW:=cV 3 3 CI
def CJ:M Fl:=(Ī (Ĕ nN (é 0 (Č (mC (.str "abcdefghijklmnopqrstuvwxyz")) (Č (mC (.int (8))) ý)))))
def zH:MF:=Ţ 1 1 CJ
def CK:M Fl:=(Ē (dL (uM (cn (Þ da (bt bY (Í (Ì 0) å)) (Ø 3))) (jq (fN (ä (Ĕ zH (Č (Þ Ķ (Ì 0) (Ø 1)) ý))))))
 (ũ "BadRow" 2 [("row",1)] (Í (Ĉ 1) å))
 fC)
 (Ē (Ř 2 (Ϝ (Þ Ķ (ä (Ĕ nO (Č (ä (sK (Ì 0) (mP (Ø 2)) jt)) (é 1 ý)))) (Ø 0))))
 (Ē (dL (jq (cn (mS eQ eQ (Ø 1) (Ì 2) (mC (.int (1000000000))))))
 (ũ "BadRow" 2 [("row",1)] (Í (Ĉ 1) å))
 fC)
 (Ī (GL (wZ (Þ Ķ (Ì 0) (Ø 1)) (wZ (Ĉ 2) (GK (fO å)))))))))
def zI:MF:=Ţ 2 3 CK
def CL:M WR:=(nB (uM (fN (ä (Ĕ kF (é 2 ý)))) (cn (Þ Ŀ (nC 2) (mC (.int (12)))))) (ũ "BadRow" 2 [("row",1)] (Í (Ĉ 1) å)) (GP 3 (Ĕ zI (é 0 (é 1 ý))) (nB (ve 3 (cn (Þ D0 (Þ Ķ (Ì 3) (Ø 0)) (ä (kg [] 3 (kh 2) (gD 0 1 2) ś (Ĉ 0)))))) (ũ "BadRow" 2 [("row",1)] (Í (Ĉ 1) å)) (vi 2 3))))
def zJ:MW:=cV 3 4 CL
def CM:M Fl:=(Ī (Ϝ (mS eQ eQ (kX zh (mC (.int (1000000000)))) (Ì 0) (mC (.int (1000000000))))))
def kG:MF:=Ţ 1 1 CM
def CN:M Fl:=(Ī (Ϝ (mS eQ eQ (Ø 1) (Ì 0) (mC (.int (1000000000))))))
def vz:MF:=Ţ 1 1 CN
def xw:M Fl:=(Ī (Ϝ (fw (Þ Ŀ (bt bY (Í (Ì 0) å)) (Ø 3)) (fw (ä (Ĕ kG (Č (Þ Ķ (Ì 0) (Ø 0)) ý))) (fw (ä (Ĕ kG (Č (Þ Ķ (Ì 0) (Ø 1)) ý))) (ä (Ĕ vz (Č (Þ Ķ (Ì 0) (Ø 2)) ý))))))))
def vA:MF:=Ţ 1 1 xw
def fk:M Fl:=(Ē (aD 0 ["Thing","Post","Fence","Sail","Cloth","House"] "word" (Ĉ 1))
 (aD 0 ["Thing","Post","Fence","Sail","Cloth","House"] "numbers" (ä (oQ fh (Í (Ì 2) å)))))
def tF:MI:=bj 3 3 "Post" fk
def nP:MI:=bj 3 3 "Fence" fk
def tH:MI:=bj 3 3 "Sail" fk
def nQ:MI:=bj 3 3 "Cloth" fk
def nR:MI:=bj 3 3 "House" fk
def xx:M Fl:=(Ī (Ϝ (fw (Þ Ŀ (bt bY (Í (Ì 0) å)) (Ø 5)) (fw (bt nj (Í (ä (Ϥ [] 1 (ϸ (ä (sK (Ì 0) jt (mP (Ø 4))))) (gN 0) ś (ä (Ĕ kG (é 0 ý))))) å)) (ä (Ĕ vz (Č (Þ Ķ (Ì 0) (Ø 4)) ý)))))))
def qm:MF:=Ţ 1 1 xx
def xy:M Fl:=(Ī (Ϝ (fw (ä (Ĕ qm (é 0 ý))) (Þ da (ä (sK (Ì 0) jt (mP (Ø 2)))) (ä (sK (Ì 0) (mP (Ø 2)) (mP (Ø 4))))))))
def vB:MF:=Ţ 1 1 xy
def CO:M Fl:=(Ī (Ϝ (fw (ä (Ĕ qm (é 0 ý))) (fw (Þ wL (Þ Ķ (Ì 0) (Ø 0)) (Þ Ķ (Ì 0) (Ø 2))) (Þ wL (Þ Ķ (Ì 0) (Ø 1)) (Þ Ķ (Ì 0) (Ø 3)))))))
def AF:MF:=Ţ 1 1 CO
def HB:M Fl:=(Ī (Ϝ (fw (ä (Ĕ kG (Č (Þ Ķ (Ì 0) (Ø 0)) ý))) (fw (ä (Ĕ kG (Č (Þ Ķ (Ì 0) (Ø 1)) ý))) (mS eQ eQ (Ø 0) (Þ Ķ (Ì 0) (Ø 2)) (mC (.int (1000000000))))))))
def Fx:MF:=Ţ 1 1 HB
def xz:M Fl:=(Ī (Ϝ (fw (Þ Ŀ (bt bY (Í (Ì 0) å)) (Ø 9)) (bt nj (Í (ä (Ϥ [0] 1 (ϸ (gQ (Í (Ø 0) (Í (Ø 3) (Í (Ø 6) å))))) (gN 1) ś (ä (Ĕ Fx (Č (ä (sK (Ì 0) (mP (Ĉ 1)) (mP (ä (Ě ø (Ì 1) (Ø 3)))))) ý))))) å)))))
def vC:MF:=Ţ 1 1 xz
def il:M Fl:=(Ē (dL (pS (cn (Þ Ŀ (Ì 0) (mC (.str "post")))) (fN (ä (Ĕ vA (é 1 ý)))))
 (Ī (Ϝ (bE "Post" tF (é 0 (é 1 ý)))))
 fC)
 (Ē (dL (pS (cn (Þ Ŀ (Ì 0) (mC (.str "fence")))) (fN (ä (Ĕ vB (é 1 ý)))))
 (Ī (Ϝ (bE "Fence" nP (é 0 (é 1 ý)))))
 fC)
 (Ē (dL (pS (cn (Þ Ŀ (Ì 0) (mC (.str "sail")))) (fN (ä (Ĕ AF (é 1 ý)))))
 (Ī (Ϝ (bE "Sail" tH (é 0 (é 1 ý)))))
 fC)
 (Ē (dL (pS (cn (Þ Ŀ (Ì 0) (mC (.str "cloth")))) (fN (ä (Ĕ vC (é 1 ý)))))
 (Ī (Ϝ (bE "Cloth" nQ (é 0 (é 1 ý)))))
 fC)
 (Ē (dL (pS (cn (Þ Ŀ (Ì 0) (mC (.str "house")))) (fN (ä (Ĕ AF (é 1 ý)))))
 (Ī (Ϝ (bE "House" nR (é 0 (é 1 ý)))))
 fC)
 (Ϲ "BadThing"))))))
def dG:MF:=Ţ 2 2 il
def CP:M Fl:=(Ē (Ř 2 (Ĕ nO (Č (ä (sK (Ì 0) (mP (Ø 1)) jt)) (é 1 ý))))
 (wQ (Ī (Ĕ dG (Č (Þ Ķ (Ì 0) (Ø 0)) (é 2 ý)))) (sR ["BadThing"] ["YardError","NoNumber","NoStone","NoTurn","BadRow","NoRow","NoDay"] (TJ "BadRow" 2 [("row",1)] (Í (Ĉ 1) å)) ny)))
def zK:MF:=Ţ 2 3 CP
def CQ:M WR:=(nB (uM (cn (Þ EU (nC 3) (Ø 0))) (cn (Þ Ŀ (bt bY (Í (Ì 2) å)) (mC (.int (40)))))) (ũ "BadRow" 2 [("row",1)] (Í (Ĉ 1) å)) (vh 2 (ä (Ĕ zK (é 0 (é 1 ý))))))
def vD:MW:=cV 4 4 CQ
def tJ:M WR:=(K6 (cn (Þ D0 (Þ Ķ (Ì 0) (Ø 0)) (gQ (Í (mC (.str "ray")) (Í (mC (.str "night")) å))))) (Ū zG [0,1,3]) (K6 (cn (Þ Ŀ (Þ Ķ (Ì 0) (Ø 0)) (mC (.str "day")))) (Ū zJ [0,1,3]) (Ū vD [0,1,2,3])))
def aE:MW:=cV 4 4 tJ
def CS:M Fl:=(Ē (Ř 1 (Ϥ [] 1 (ϸ (ä (AA ϻ (Ì 0) (Í (mC (.str "\n")) å)))) (gN 0) ś (ä (AA ϻ (Ì 0) (Í (mC (.str " ")) å)))))
 (Ē (Ř 2 (Ĕ zD (Č (Þ Ķ (Ì 1) (Ø 0)) (Č (Ø 0) ý))))
 (Rf 5 6 3 4 (xk (Q6 (ä (sK (Ì 1) (mP (Ø 1)) jt)))) (Ū aE [6,5,3,4]) (Ē (dL (fN (ä (Ĕ kF (é 4 ý))))
 (ũ "BadRow" 2 [("row",1)] (Í (bt bY (Í (Ì 1) å)) å))
 fC)
 (Ī (Ϝ (bE "Yard" bZ (Č (Þ Ķ (Ì 2) (Ø 0)) (Č (Þ Ķ (Ì 2) (Ø 1)) (é 3 (é 4 ý)))))))))))
def vE:MF:=Ţ 1 7 CS
def xA:M Fl:=(aD 0 ["Desk"] "yard" (ä (Ĕ vE (é 1 ý))))
def l_:MI:=bj 2 2 "Desk" xA
def HC:M Fl:=(Ē (Ř 2 (Ĕ vx (Č (ä (sK (Ì 0) (mP (Ĉ 1)) jt)) ý)))
 (Ē (dL (cn (Þ Aq (Ì 2) (mC .non)))
 (Ϲ "NoRow")
 fC)
 (Ī (jp 2))))
def im:MF:=Ţ 2 3 HC
def CT:M Fl:=(Ī (Ϝ (Cb bF (mC (.str " ")) (Í (ä (Ě ø (ä (fO (Í (kX (ī ["Thing","Post","Fence","Sail","Cloth","House"] "word") (Ì 0)) å))) (ä (Ϥ [] 1 (ϸ (kX (ī ["Thing","Post","Fence","Sail","Cloth","House"] "numbers") (Ì 0))) (gN 0) ś (bt ώ (Í (Ì 0) å)))))) å))))
def ľ:MF:=Ţ 1 1 CT
def xB:M Fl:=(Ē (dL (cn (Þ Aq (Ì 0) (mC .non)))
 (Ī (Ϝ (mC (.str "night"))))
 fC)
 (Ī (Ϝ (Cb bF (mC (.str " ")) (Í (ä (Ě ø (ä (fO (Í (mC (.str "ray")) å))) (ä (Ϥ [] 1 (av 0) (gN 0) ś (bt ώ (Í (Ì 0) å)))))) å)))))
def nS:MF:=Ţ 1 1 xB
def tK:M Fl:=(Ē (Kl 1 (Fj [(mC (.str "day ")),(AC (Ĉ 2)),(mC (.str " ")),(AC (Ĉ 3))] eh))
 (Fb 1 (Ϥ [] 1 (av 4) (gN 0) ś (ä (Ĕ nS (é 0 ý))))))
def CU:M Fl:=(Ē (Ř 1 (fO (Í (Cb bF (mC (.str " ")) (Í (ä (fO (Í (mC (.str "yard")) (Í (bt ώ (Í (kX (ī ["Yard"] "width") (Ì 0)) å)) (Í (bt ώ (Í (kX (ī ["Yard"] "height") (Ì 0)) å)) å))))) å)) å)))
 (Ē (Fb 1 (Ϥ [] 1 (ϸ (kX (ī ["Yard"] "things") (Ì 0))) (gN 0) ś (ä (uV "shown" [("Thing",ľ),("Post",ľ),("Fence",ľ),("Sail",ľ),("Cloth",ľ),("House",ľ)] (Ĉ 0) ý))))
 (Ē (Ao (ϸ (kX (ī ["Yard"] "days") (Ì 0))) (gT 3 (ř (gN 2) (ř (gN 3) (ř (gN 4) kz)))) tK)
 (Ī (Ϝ (Cb bF (mC (.str "\n")) (Í (Ì 1) å)))))))
def vF:MF:=Ţ 1 5 CU
def CV:M Fl:=(Ī (Ϝ (Cy "\n" "; " (ä (Ĕ vF (é 0 ý))))))
def vG:MF:=Ţ 2 2 CV
def LH:M Fl:=(Ī (Ϝ (Þ Ķ (Þ Ķ (kX (ī ["Yard"] "days") (Ì 0)) (Ì 1)) (Ø 0))))
def HD:MF:=Ţ 2 2 LH
def LI:M Fl:=(dL (cn (Þ Ŀ (ä (Ĕ HD (é 0 (é 2 ý)))) (Ì 1)))
 (Ī (jp 2))
 fC)
def LJ:M Fl:=(Ē (Ao (wH pU (Í (bt bY (Í (kX (ī ["Yard"] "days") (Ì 0)) å)) å)) (gN 2) LI)
 (ũ "NoDay" 2 [("name",1)] (Í (Ĉ 1) å)))
def HE:MF:=Ţ 2 3 LJ
def CW:M Fl:=(Ē (dL (cn (Þ (Fk "ROWS" ZJ) (Þ Ķ (Ì 1) (Ø 0)) (mC (.cls "ROWS"))))
 (Ϲ "NoRow")
 fC)
 (Ē (Ř 2 (Ϝ (Þ (Fm "ROWS" ZJ) (mC (.cls "ROWS")) (Þ Ķ (Ì 1) (Ø 0)))))
 (Ē (Ř 3 (sK (Ì 1) (mP (Ø 1)) (mP (ä (Ě ø (Ø 1) (Þ Ķ (Ì 2) (Ø 0)))))))
 (Ē (dL (cn (Þ da (bt bY (Í (Ì 1) å)) (ä (Ě ø (ä (Ě ø (Ø 1) (Þ Ķ (Ì 2) (Ø 0)))) (Þ Ķ (Ì 2) (Ø 1))))))
 (Ϲ "NoRow")
 fC)
 (Ē (Ř 4 (Ĕ im (é 1 (Č (ä (Ě ø (Ø 1) (Þ Ķ (Ì 2) (Ø 0)))) ý))))
 (Ī (Lr [("answer_show",vG)] (Þ Ķ (Ì 2) (Ø 2)) (é 0 (Č (ä (Ě ø (ä (Ϥ [0] 1 (av 3) (gN 1) ś (ä (Ĕ HE (é 0 (é 1 ý)))))) (Ì 4))) ý)))))))))
def zL:MF:=Ţ 2 5 CW
def ko:M Fl:=(Ē (dL (cn (Þ wL (bt bY (Í (Ì 1) å)) (Ø 2)))
 (Ϲ "NoRow")
 fC)
 (Ē (Ř 2 (Ĕ im (é 1 (Č (Ø 2) ý))))
 (Ē (dL (cn (Þ Ŀ (bt bY (Í (kX (ī ["Yard"] "things") (Ì 0)) å)) (mC (.int (40)))))
 (Ϲ "NoRow")
 fC)
 (Ī (Ϝ (bE "Yard" bZ (Č (kX (ī ["Yard"] "width") (Ì 0)) (Č (kX (ī ["Yard"] "height") (Ì 0)) (Č (ä (Ě ø (kX (ī ["Yard"] "things") (Ì 0)) (ä (fO (Í (ä (Ĕ dG (Č (Þ Ķ (Ì 1) (Ø 1)) (é 2 ý)))) å))))) (Č (kX (ī ["Yard"] "days") (Ì 0)) ý))))))))))
def cW:MF:=Ţ 2 3 ko
def qo:M Fl:=(Ē (dL (cn (Þ da (bt bY (Í (Ì 1) å)) (Ø 2)))
 (Ϲ "NoRow")
 fC)
 (Ē (Ř 2 (Ϝ (Þ Ķ (ä (Ĕ im (é 1 (Č (Ø 1) ý)))) (Ø 0))))
 (Ē (dL (jq (cn (mS eQ wL (Ø 0) (Ì 2) (bt bY (Í (kX (ī ["Yard"] "things") (Ì 0)) å)))))
 (Ϲ "NoRow")
 fC)
 (Ī (Ϝ (bE "Yard" bZ (Č (kX (ī ["Yard"] "width") (Ì 0)) (Č (kX (ī ["Yard"] "height") (Ì 0)) (Č (ä (Ě ø (ä (sK (kX (ī ["Yard"] "things") (Ì 0)) jt (mP (Ĉ 2)))) (ä (sK (kX (ī ["Yard"] "things") (Ì 0)) (mP (ä (Ě ø (Ì 2) (Ø 1)))) jt)))) (Č (kX (ī ["Yard"] "days") (Ì 0)) ý))))))))))
def lc:MF:=Ţ 2 3 qo
def kq:M Fl:=(Ē (Ř 2 (AA ϻ (Ì 1) (Í (mC (.str " ")) å)))
 (Ē (dL (cn (Þ Ŀ (Þ Ķ (Ì 2) (Ø 0)) (mC (.str "put"))))
 (Ē (aD 0 ["Desk"] "yard" (ä (Ĕ cW (Č (kX (ī ["Desk"] "yard") (Ì 0)) (é 2 ý)))))
 (Ī (Ϝ (mC (.str "ok")))))
 fC)
 (Ē (dL (cn (Þ Ŀ (Þ Ķ (Ì 2) (Ø 0)) (mC (.str "take"))))
 (Ē (aD 0 ["Desk"] "yard" (ä (Ĕ lc (Č (kX (ī ["Desk"] "yard") (Ì 0)) (é 2 ý)))))
 (Ī (Ϝ (mC (.str "ok")))))
 fC)
 (Ī (Ĕ zL (Č (kX (ī ["Desk"] "yard") (Ì 0)) (é 2 ý)))))))
def cX:MM:=Ů 2 3 "Desk" kq
def tM:M Fl:=(Ē (Ř 2 (Ϝ (mC (.str "none"))))
 (Ē (wQ (Ř 2 (Ϝ (nM 0 "Desk" "say" cX (Í (Ĉ 1) å)))) (nA ["NoRow"] ["YardError","NoNumber","BadThing","NoStone","NoTurn","BadRow","NoDay"] (Ř 2 (Ϝ (gQ (Í (mC (.str "row")) å)))) (nA ["BadThing"] ["YardError","NoNumber","NoStone","NoTurn","BadRow","NoRow","NoDay"] (Ř 2 (Ϝ (gQ (Í (mC (.str "thing")) å)))) ny)))
 (Ī (jp 2))))
def aF:MM:=Ů 2 3 "Desk" tM
def ce:M Fl:=(Ē (Ř 3 (Ϝ (Þ ae (Þ m_ (Ì 2) (Ø 3)) (Þ pW (Ø 10) (Ø 9)))))
 (Ē (dL (cn (Þ Ŀ (Þ ae (Ì 2) (Ø 3)) (Ø 0)))
 (Ē (Ř 5 (fO (Í (Þ pV (Þ ae (Ì 3) (Ø 2001)) (Ø 1000)) (Í (Þ ae (Þ m_ (Ì 3) (Ø 2001)) (Ø 7)) (Í (ä (Ě ø (Ø 1) (Þ ae (Ì 3) (Ø 50)))) å)))))
 (Ē (dL (cn (Þ Ŀ (Þ ae (Ì 3) (Ø 11)) (Ø 5)))
 (Ř 5 (fO (Í (Þ pW (Ø 10) (Ø 9)) (Í (Þ pV (Ø 0) (Þ pW (Ø 10) (Ø 9))) (Í (Þ pW (Ø 10) (Ø 9)) å)))))
 fC)
 (Ē (Ř 6 (Ϝ (Cb bF (mC (.str " ")) (Í (ä (Ě ø (ä (fO (Í (mC (.str "post")) å))) (ä (Ϥ [] 1 (av 5) (gN 0) ś (bt ώ (Í (Ì 0) å)))))) å))))
 (Ē (Ř 7 (Ϝ (mC (.str "ok"))))
 (Ē (dL (cn (Þ Ŀ (bt bY (Í (Ì 1) å)) (Ø 40)))
 (Ř 7 (Ϝ (gQ (Í (mC (.str "row")) å))))
 (zB 1 (Ĉ 6)))
 (Ī (Ϝ (Þ Ŀ (eX 0 "Desk" aF (Í (ä (Ě ø (mC (.str "put ")) (Ì 6))) å)) (Ì 7)))))))))
 fC)
 (Ē (dL (cn (Þ Ŀ (Þ ae (Ì 2) (Ø 3)) (Ø 1)))
 (Ē (Ř 8 (fO (Í (mC (.str "post 1 1 0")) (Í (mC (.str "posts 1 1 1")) (Í (mC (.str "fence 1 1 1 1 1")) (Í (mC (.str "cloth 1 1 1")) (Í (mC (.str "sail 1 1 0 2 3")) (Í (mC (.str "post")) (Í (mC (.str "")) (Í (mC (.str "5")) å))))))))))
 (Ē (Ř 6 (Ϝ (Þ Ķ (Ì 8) (Þ ae (Ì 3) (Ø 8)))))
 (Ē (Ř 7 (Ϝ (Þ Ķ (ä (fO (Í (gQ (Í (mC (.str "thing")) å)) (Í (gQ (Í (mC (.str "row")) å)) å)))) (bt fj (Í (Þ Ŀ (bt bY (Í (Ì 1) å)) (Ø 40)) å)))))
 (Ī (Ϝ (Þ Ŀ (eX 0 "Desk" aF (Í (ä (Ě ø (mC (.str "put ")) (Ì 6))) å)) (Ì 7)))))))
 fC)
 (Ē (dL (cn (Þ Ŀ (Þ ae (Ì 3) (Ø 9)) (Ø 4)))
 (Ē (Ř 6 (Ϝ (Þ Ķ (ä (fO (Í (mC (.str "put")) (Í (mC (.str "take")) (Í (mC (.str "take 1 1")) (Í (mC (.str "put post 1 1 x")) (Í (mC (.str "put post 1  1")) å))))))) (Þ ae (Þ m_ (Ì 3) (Ø 9)) (Ø 5)))))
 (Ī (Ϝ (Þ Ŀ (eX 0 "Desk" aF (Í (Ĉ 6) å)) (gQ (Í (mC (.str "row")) å))))))
 fC)
 (Ē (Ř 4 (Ϝ (Þ pV (Þ ae (Ì 3) (Ø 42)) (Ø 1))))
 (Ē (dL (uM (cn (Þ wL (Ì 4) (Ø 0))) (cn (Þ Kv (Ì 4) (bt bY (Í (Ì 1) å)))))
 (Ī (Ϝ (Þ Ŀ (eX 0 "Desk" aF (Í (ä (Ě ø (mC (.str "take ")) (bt ώ (Í (Ì 4) å)))) å)) (gQ (Í (mC (.str "row")) å)))))
 fC)
 (Ē (ql 1 (Ĉ 4))
 (Ī (Ϝ (Þ Ŀ (eX 0 "Desk" aF (Í (ä (Ě ø (mC (.str "take ")) (bt ώ (Í (Ì 4) å)))) å)) (mC (.str "ok"))))))))))))
def ci:MM:=Ů 3 9 "Desk" ce
def nU:M Fl:=(Ē (dL (jq (fN (xr 5 4 "Desk" ci (Í (Ĉ 2) å))))
 (Ī (Ϝ (mC (.bl false))))
 fC)
 (dL (cn (Þ da (nM 5 "Desk" "say" cX (Í (mC (.str "show")) å)) (Cb bF (mC (.str "; ")) (Í (ä (Ě ø (ä (fO (Í (mC (.str "yard 1 1")) å))) (Ì 4))) å))))
 (Ī (Ϝ (mC (.bl false))))
 fC))
def nV:M Fl:=(Ř 3 (Ϝ (Þ ae (Ì 2) (Ø 1000))))
def nW:M Fl:=(Ř 1 (Ě ø (Ø 36) (Þ ae (Ì 2) (Ø 5))))
def CY:M Fl:=(Ē (Ř 1 (Ϝ (Ø 40)))
 (Ē (Ao (ϸ (ä (sK (Ì 0) jt (mP (Ø 1))))) (gN 2) nW)
 (Ē (Ř 3 (Ϝ (Ø 0)))
 (Ē (Ao (ϸ (ä (sK (Ì 0) (mP (Ø 1)) (mP (Ø 2))))) (gN 2) nV)
 (Ē (Ř 4 (Ϥ [3] 1 (wH pU (Í (Ĉ 1) å)) (gN 1) ś (ä (Ě ø (ä (Ě ø (ä (Ě ø (ä (Ě ø (ä (Ě ø (mC (.str "post ")) (bt ώ (Í (ä (Ě ø (Ì 0) (Ì 1))) å)))) (mC (.str " ")))) (bt ώ (Í (Ì 1) å)))) (mC (.str " ")))) (bt ώ (Í (ä (Ě ø (Ø 1) (Þ ae (Ì 1) (Ø 9)))) å))))))
 (xu 5 "Desk" l_ (Č (Cb bF (mC (.str "\n")) (Í (ä (Ě ø (ä (fO (Í (mC (.str "yard 1 1")) å))) (Ì 4))) å)) ý)
 (Ē (Ao (ϸ (ä (sK (Ì 0) (mP (Ø 2)) (mP (Ø 26))))) (gN 2) nU)
 (Ī (Ϝ (Þ Ŀ (nM 5 "Desk" "say" cX (Í (mC (.str "show")) å)) (Cb bF (mC (.str "; ")) (Í (ä (Ě ø (ä (fO (Í (mC (.str "yard 1 1")) å))) (Ì 4))) å))))))))))))
def qr:MF:=Ţ 1 6 CY
set_option genInjectivity false
set_option genSizeOf false
set_option genInjectivity false in
set_option genSizeOf false in
structure vH where
 {HF HG HH HI HJ HK LK HL HM HN HP HQ HR HS HU HV le HW HX Ps Pu HY HZ H_ H0 Ia Ib CZ Pw kH Ic Ie C_ Ig Ih Ii Ij Px C0 Ik Il Im Py Pz LM LO kI nX nY kr nZ n_ zM tN mj C4 zN C5 zO zP xC tQ xD g_ jG jH fY fZ hG hJ:À}
 {Io Ip Iq Ir Iv Ix PB Iy Iz IA IB IC ID IE IF IG AG IH II PC PD IJ IK IL IM IN IP IQ PF IS IT IU IV IW IX IY IZ PK I_ I0 Ja C6 Ur Us PL PM:ú}
 {AH AI vI oa oZ og tU xE vJ o_ tX tY:Tok}
def Đ(a:vH):String->À:=Yd a.kI a.nX a.nY a.kr a.nZ a.n_ a.zM a.tN a.mj a.C4 a.zN a.C5 a.zO a.zP a.xC a.tQ a.xD a.g_ a.jG a.jH a.fY a.fZ a.hG a.hJ a.C_
set_option genInjectivity false in
set_option genSizeOf false in
structure Tx(K:Æ)(mg:Str->Option Á)(a:vH)(pm:ĺ):Prop where
 Jb:mg "YardError" =some (.ref a.kI)
 LP:mg "NoNumber" =some (.ref a.nX)
 xF:mg "BadThing" =some (.ref a.nY)
 Nq:mg "NoStone" =some (.ref a.kr)
 PN:mg "NoTurn" =some (.ref a.nZ)
 C7:mg "BadRow" =some (.ref a.n_)
 Fy:mg "NoRow" =some (.ref a.zM)
 Fz:mg "NoDay" =some (.ref a.tN)
 Rm:mg "Thing" =some (.ref a.mj)
 LQ:mg "Post" =some (.ref a.C4)
 FA:mg "Fence" =some (.ref a.zN)
 LR:mg "Sail" =some (.ref a.C5)
 FC:mg "Cloth" =some (.ref a.zO)
 FD:mg "House" =some (.ref a.zP)
 LS:mg "Yard" =some (.ref a.xC)
 LU:mg "Desk" =some (.ref a.tQ)
 LV:mg "ROWS" =some (.ref a.xD)
 D1:mg "answer_dark" =some (.ref a.g_)
 FE:mg "answer_who" =some (.ref a.jG)
 FF:mg "answer_lit" =some (.ref a.jH)
 C8:mg "answer_hours" =some (.ref a.fY)
 C9:mg "answer_first" =some (.ref a.fZ)
 D2:mg "answer_walk" =some (.ref a.hG)
 D3:mg "answer_dial" =some (.ref a.hJ)
 eY:Df K mg "is_made_of" G_ ["word","signs","most"] a.HF a.Io
 kJ:Df K mg "is_number" G0 ["word"] a.HG a.Ip
 eZ:Df K mg "numbers_of" G1 ["words"] a.HH a.Iq
 ay:Df K mg "numbers_in" G2 ["words","row"] a.HI a.Ir
 kK:Df K mg "read_size" G3 ["words","row"] a.HJ a.Iv
 db:Df K mg "lacks_turns" G4 ["days"] a.HK a.Ix
 ϶:Dm K a.xC "__init__" "Yard.__init__" LG ["self","width","height","things","days"] a.LK a.PB
 vK:Df K mg "is_ray" G5 ["ray"] a.HL a.Iy
 kL:Df K mg "read_turn" G6 ["words","row"] a.HM a.Iz
 kM:Df K mg "take_turn" G7 ["words","row","days"] a.HN a.IA
 qt:Df K mg "is_name" G8 ["word"] a.HP a.IB
 oi:Df K mg "read_day" G9 ["words","row"] a.HQ a.IC
 oj:Df K mg "take_day" CB ["words","row","days"] a.HR a.ID
 aM:Df K mg "is_place" Ha ["number"] a.HS a.IE
 f_:Df K mg "is_height" Hb ["number"] a.HU a.IF
 jI:Df K mg "makes_post" Hd ["numbers"] a.HV a.IG
 ĕ:Dm K a.mj "__init__" "Thing.__init__" Pj ["self","word","numbers"] a.le a.AG
 cj:Df K mg "has_two_ends" He ["numbers"] a.HW a.IH
 hR:Df K mg "makes_fence" Hf ["numbers"] a.HX a.II
 ų:Df K mg "makes_sail_or_house" Pk ["numbers"] a.Ps a.PC
 cY:Df K mg "is_cloth_corner" Pm ["numbers"] a.Pu a.PD
 hU:Df K mg "makes_cloth" Hg ["numbers"] a.HY a.IJ
 io:Df K mg "thing_of" Hh ["word","numbers"] a.HZ a.IK
 jJ:Df K mg "read_thing" Hi ["words","row"] a.H_ a.IL
 jK:Df K mg "take_thing" Hj ["words","row","things","days"] a.H0 a.IM
 e_:Df K mg "take_row" Hk ["words","row","things","days"] a.Ia a.IN
 kN:Df K mg "read_yard" Hl ["text"] a.Ib a.IP
 fm:Dm K a.tQ "__init__" "Desk.__init__" Hm ["self","text"] a.CZ a.IQ
 ϛ:Df K mg "numbers_behind" Pn ["words","place"] a.Pw a.PF
 Ś:Dm K a.mj "shown" "Thing.shown" Hn ["self"] a.kH a.IS
 kO:Df K mg "show_turn" Ho ["turn"] a.Ic a.IT
 kP:Df K mg "show_yard" Hq ["yard"] a.Ie a.IU
 de:Df K mg "answer_show" Hr ["yard","values"] a.C_ a.IV
 qu:Df K mg "name_of" Hs ["yard","day"] a.Ig a.IW
 jL:Df K mg "day_called" Ht ["yard","name"] a.Ih a.IX
 vL:Df K mg "answer" Hv ["yard","words"] a.Ii a.IY
 jM:Df K mg "with_thing" Hw ["yard","words"] a.Ij a.IZ
 fq:Df K mg "without_thing" Po ["yard","words"] a.Px a.PK
 fb:Dm K a.tQ "say" "Desk.say" Hx ["self","row"] a.C0 a.I_
 af:Df K mg "_law_said" Hy ["_law_desk","_law_row"] a.Ik a.I0
 kQ:Df K mg "_law_done" Hz ["_law_desk","_law_rows","_law_cell"] a.Il a.Ja
 Db:Df K mg "law" HA ["_law_script"] a.Im a.C6
 xG:Dm K a.kr "__init__" "NoStone.__init__" Up ["self","stone"] a.Py a.Ur
 zQ:Dm K a.nZ "__init__" "NoTurn.__init__" Uq ["self","day","turn"] a.Pz a.Us
 ï:Dm K a.n_ "__init__" "BadRow.__init__" Pp ["self","row"] a.LM a.PL
 dH:Dm K a.tN "__init__" "NoDay.__init__" Pq ["self","name"] a.LO a.PM
 AJ:mg "FIGURES" =some (.str "0123456789" a.AH)
 AK:mg "LETTERS" =some (.str "abcdefghijklmnopqrstuvwxyz" a.AI)
 vM:mg "MOST_DAYS" =some (.int (12) a.vI)
 om:mg "MOST_FIGURES" =some (.int (10) a.oa)
 hV:mg "MOST_HEIGHT" =some (.int (1000000000) a.oZ)
 on:mg "MOST_LETTERS" =some (.int (8) a.og)
 jN:mg "MOST_PLACE" =some (.int (1000000000) a.tU)
 ip:mg "MOST_RAY" =some (.int (1000000) a.xE)
 vN:mg "MOST_SIDE" =some (.int (20) a.vJ)
 hX:mg "MOST_THINGS" =some (.int (40) a.o_)
 tZ:mg "MOST_TIMES" =some (.int (1000000000) a.tX)
 t_:mg "MOST_TURNS" =some (.int (24) a.tY)
 Jc:mg "abs" =none
 vO:mg "all" =none
 vP:mg "enumerate" =none
 Jd:mg "int" =none
 ſ:mg "len" =none
 gb:mg "list" =none
 zR:mg "range" =none
 hZ:mg "str" =none
 FG:mg "tuple" =none
 Je:eD K (Đ a "YardError") zl KE=true
 Jf:Ō K (.ref (Đ a "YardError"))=true
 Jg:ax K (Đ a "YardError")=true
 LW:eD K (Đ a "NoNumber") zl KE=true
 LX:Ō K (.ref (Đ a "NoNumber"))=true
 LY:ax K (Đ a "NoNumber")=true
 xH:eD K (Đ a "BadThing") zl KE=true
 LZ:Ō K (.ref (Đ a "BadThing"))=true
 L_:ax K (Đ a "BadThing")=true
 Nr:E3 K (Đ a "NoStone") a.Py
 Nt:ax K (Đ a "NoStone")=true
 AW:ĉ K (Đ a "NoStone") "stone"
 PP:E3 K (Đ a "NoTurn") a.Pz
 PQ:ax K (Đ a "NoTurn")=true
 FH:ĉ K (Đ a "NoTurn") "day"
 D4:ĉ K (Đ a "NoTurn") "turn"
 Ŗ:E3 K (Đ a "BadRow") a.LM
 vQ:ax K (Đ a "BadRow")=true
 jO:ĉ K (Đ a "BadRow") "row"
 fc:eD K (Đ a "NoRow") zl KE=true
 Rn:Ō K (.ref (Đ a "NoRow"))=true
 Ro:ax K (Đ a "NoRow")=true
 FI:E3 K (Đ a "NoDay") a.LO
 FJ:ax K (Đ a "NoDay")=true
 ua:ĉ K (Đ a "NoDay") "name"
 ub:jS K (Đ a "Thing")
 Rq:Mk K (Đ a "Thing") a.le
 uc:ĉ K (Đ a "Thing") "word"
 lf:ĉ K (Đ a "Thing") "numbers"
 pb:ll K (Đ a "Thing") "shown" a.kH
 xI:jS K (Đ a "Post")
 L0:Mk K (Đ a "Post") a.le
 vR:ĉ K (Đ a "Post") "word"
 oo:ĉ K (Đ a "Post") "numbers"
 ud:ll K (Đ a "Post") "shown" a.kH
 ue:jS K (Đ a "Fence")
 FK:Mk K (Đ a "Fence") a.le
 uf:ĉ K (Đ a "Fence") "word"
 lh:ĉ K (Đ a "Fence") "numbers"
 pd:ll K (Đ a "Fence") "shown" a.kH
 xJ:jS K (Đ a "Sail")
 L1:Mk K (Đ a "Sail") a.le
 vS:ĉ K (Đ a "Sail") "word"
 oq:ĉ K (Đ a "Sail") "numbers"
 ug:ll K (Đ a "Sail") "shown" a.kH
 uh:jS K (Đ a "Cloth")
 FL:Mk K (Đ a "Cloth") a.le
 ui:ĉ K (Đ a "Cloth") "word"
 li:ĉ K (Đ a "Cloth") "numbers"
 pe:ll K (Đ a "Cloth") "shown" a.kH
 uj:jS K (Đ a "House")
 FM:Mk K (Đ a "House") a.le
 uk:ĉ K (Đ a "House") "word"
 lj:ĉ K (Đ a "House") "numbers"
 pf:ll K (Đ a "House") "shown" a.kH
 ul:jS K (Đ a "Yard")
 xK:Mk K (Đ a "Yard") a.LK
 um:ĉ K (Đ a "Yard") "width"
 ph:ĉ K (Đ a "Yard") "height"
 pi:ĉ K (Đ a "Yard") "things"
 vT:ĉ K (Đ a "Yard") "days"
 uo:jS K (Đ a "Desk")
 L5:Mk K (Đ a "Desk") a.CZ
 vU:ĉ K (Đ a "Desk") "yard"
 iq:ll K (Đ a "Desk") "say" a.C0
 ou:ar K (Đ a "BadThing") (.type "BaseException")=some true
 kR:bz (λc=>aq K (.ref (Đ a c)) (.ref (Đ a "BadThing"))=some true) ["BadThing"]
 kS:bz (λc=>aq K (.ref (Đ a c)) (.ref (Đ a "BadThing"))=some false) ["YardError","NoNumber","NoStone","NoTurn","BadRow","NoRow","NoDay"]
 FN:ar K (Đ a "NoRow") (.type "BaseException")=some true
 Dc:bz (λc=>aq K (.ref (Đ a c)) (.ref (Đ a "NoRow"))=some true) ["NoRow"]
 Dd:bz (λc=>aq K (.ref (Đ a c)) (.ref (Đ a "NoRow"))=some false) ["YardError","NoNumber","BadThing","NoStone","NoTurn","BadRow","NoDay"]
 iC:B2 (λC D b=>p_ K (Đ a C)=true/\ϵ K (.ref (Đ a C)) (.ref (Đ a D))=some b) X9
 iT:B2 (λC D b=>p_ K (Đ a C)=true/\ϵ K (.ref (Đ a C)) (.type D)=some b) Ya
 iD:bz (λD=>ϵ K (.type "NoneType") (.ref (Đ a D))=some false) Yb
 iN:bz (λD=>ϵ K (.type "NoneType") (.type D)=some false) Yc
 De:tq K (Đ a) pm a.xD ZJ
def ZI{K:Æ}{mg:Str->Option Á}{a:vH}{pm:ĺ}(T:Tx K mg a pm):mg "BadThing" =some (.ref (Đ a "BadThing")):=T.xF
def Qqj9{K:Æ}{mg:Str->Option Á}{a:vH}{pm:ĺ}(T:Tx K mg a pm):mg "BadRow" =some (.ref (Đ a "BadRow")):=T.C7
def Zl{K:Æ}{mg:Str->Option Á}{a:vH}{pm:ĺ}(T:Tx K mg a pm):mg "NoRow" =some (.ref (Đ a "NoRow")):=T.Fy
def Yp{K:Æ}{mg:Str->Option Á}{a:vH}{pm:ĺ}(T:Tx K mg a pm):mg "NoDay" =some (.ref (Đ a "NoDay")):=T.Fz
def Yq{K:Æ}{mg:Str->Option Á}{a:vH}{pm:ĺ}(T:Tx K mg a pm):mg "Post" =some (.ref (Đ a "Post")):=T.LQ
def Yr{K:Æ}{mg:Str->Option Á}{a:vH}{pm:ĺ}(T:Tx K mg a pm):mg "Fence" =some (.ref (Đ a "Fence")):=T.FA
def Ys{K:Æ}{mg:Str->Option Á}{a:vH}{pm:ĺ}(T:Tx K mg a pm):mg "Sail" =some (.ref (Đ a "Sail")):=T.LR
def Yt{K:Æ}{mg:Str->Option Á}{a:vH}{pm:ĺ}(T:Tx K mg a pm):mg "Cloth" =some (.ref (Đ a "Cloth")):=T.FC
def Yu{K:Æ}{mg:Str->Option Á}{a:vH}{pm:ĺ}(T:Tx K mg a pm):mg "House" =some (.ref (Đ a "House")):=T.FD
def Ut{K:Æ}{mg:Str->Option Á}{a:vH}{pm:ĺ}(T:Tx K mg a pm):mg "Yard" =some (.ref (Đ a "Yard")):=T.LS
def Yv{K:Æ}{mg:Str->Option Á}{a:vH}{pm:ĺ}(T:Tx K mg a pm):mg "Desk" =some (.ref (Đ a "Desk")):=T.LU
def V4{K:Æ}{mg:Str->Option Á}{a:vH}{pm:ĺ}(T:Tx K mg a pm):mg "ROWS" =some (.ref (Đ a "ROWS")):=T.LV
def L6:Ý ["word","signs","most"] ["word","signs","most"] (Î G_):=cT
def Dg:Ý ["word","figures"] ["word"] (Î G0):=cT
def L7:Ý ["words"] ["words"] (Î G1):=cT
def Dh:Ý ["words","row","numbers"] ["words","row"] (Î G2):=cT
def Di:Ý ["words","row","size"] ["words","row"] (Î G3):=cT
def L8:Ý ["days"] ["days"] (Î G4):=cT
def PU:Ý ["self","width","height","things","days"] ["self","width","height","things","days"] (Î LG):=cT
def L9:Ý ["ray"] ["ray"] (Î G5):=cT
def Dj:Ý ["words","row","ray"] ["words","row"] (Î G6):=cT
def Ma:Ý ["words","row","days"] ["words","row","days"] (Î G7):=cT
def Mb:Ý ["word"] ["word"] (Î G8):=cT
def Dk:Ý ["words","row","times"] ["words","row"] (Î G9):=cT
def Dl:Ý ["words","row","days","day"] ["words","row","days"] (Î CB):=cT
def Mc:Ý ["number"] ["number"] (Î Ha):=cT
def Md:Ý ["number"] ["number"] (Î Hb):=cT
def Me:Ý ["numbers"] ["numbers"] (Î Hd):=cT
def vV:Ý ["self","word","numbers"] ["self","word","numbers"] (Î Pj):=cT
def Mf:Ý ["numbers"] ["numbers"] (Î He):=cT
def Mg:Ý ["numbers"] ["numbers"] (Î Hf):=cT
def PY:Ý ["numbers"] ["numbers"] (Î Pk):=cT
def PZ:Ý ["numbers"] ["numbers"] (Î Pm):=cT
def Mh:Ý ["numbers"] ["numbers"] (Î Hg):=cT
def Mi:Ý ["word","numbers"] ["word","numbers"] (Î Hh):=cT
def Do:Ý ["words","row","numbers"] ["words","row"] (Î Hi):=cT
def Mj:Ý ["words","row","things","days"] ["words","row","things","days"] (Î Hj):=cT
def Ml:Ý ["words","row","things","days"] ["words","row","things","days"] (Î Hk):=cT
def ir:Ý ["text","rows","size","things","days","row","words"] ["text"] (Î Hl):=cT
def Mm:Ý ["self","text"] ["self","text"] (Î Hm):=cT
def Jh:Ý ["words","place","numbers"] ["words","place"] (Î Pn):=cT
def Mn:Ý ["self"] ["self"] (Î Hn):=cT
def Mo:Ý ["turn"] ["turn"] (Î Ho):=cT
def oz:Ý ["yard","rows","name","times","turns"] ["yard"] (Î Hq):=cT
def Mp:Ý ["yard","values"] ["yard","values"] (Î Hr):=cT
def Mq:Ý ["yard","day"] ["yard","day"] (Î Hs):=cT
def Dp:Ý ["yard","name","day"] ["yard","name"] (Î Ht):=cT
def uq:Ý ["yard","words","form","names","numbers"] ["yard","words"] (Î Hv):=cT
def Dq:Ý ["yard","words","numbers"] ["yard","words"] (Î Hw):=cT
def Ji:Ý ["yard","words","number"] ["yard","words"] (Î Po):=cT
def Dr:Ý ["self","row","words"] ["self","row"] (Î Hx):=cT
def oA:Ý ["_law_desk","_law_row","_law_found"] ["_law_desk","_law_row"] (Î Hy):=cT
def bB:Ý ["_law_desk","_law_rows","_law_cell","_law_rest","_law_k","_law_numbers","_law_row","_law_due","_law_some"] ["_law_desk","_law_rows","_law_cell"] (Î Hz):=cT
def df:Ý ["_law_script","_law_many","_law_cell","_law_first","_law_rows","_law_desk"] ["_law_script"] (Î HA):=cT
def Jj:Ý ["self","row"] ["self","row"] (Î Pp):=cT
def P_:Ý ["self","name"] ["self","name"] (Î Pq):=cT
section
variable{P:Ù}{w:Ô}{K:Æ}{mg:Str->Option Á}{base:Ë}{a:vH}
seal PE PT PW PA PS Ϡ PG yM PI Bt
def ZB(T:Tx K mg a w.params):bz (λC=>jS K (Đ a C)/\ĉ K (Đ a C) "width") ["Yard"]:=⟨⟨T.ul,T.um⟩,trivial⟩
def Zy(T:Tx K mg a w.params):bz (λC=>jS K (Đ a C)/\ĉ K (Đ a C) "height") ["Yard"]:=⟨⟨T.ul,T.ph⟩,trivial⟩
def Ze(T:Tx K mg a w.params):bz (λC=>jS K (Đ a C)/\ĉ K (Đ a C) "things") ["Yard"]:=⟨⟨T.ul,T.pi⟩,trivial⟩
def Zo(T:Tx K mg a w.params):bz (λC=>jS K (Đ a C)/\ĉ K (Đ a C) "days") ["Yard"]:=⟨⟨T.ul,T.vT⟩,trivial⟩
def Zp(T:Tx K mg a w.params):bz (λC=>jS K (Đ a C)/\ĉ K (Đ a C) "word") ["Thing","Post","Fence","Sail","Cloth","House"]:=⟨⟨T.ub,T.uc⟩,⟨⟨T.xI,T.vR⟩,⟨⟨T.ue,T.uf⟩,⟨⟨T.xJ,T.vS⟩,⟨⟨T.uh,T.ui⟩,⟨⟨T.uj,T.uk⟩,trivial⟩⟩⟩⟩⟩⟩
def Zg(T:Tx K mg a w.params):bz (λC=>jS K (Đ a C)/\ĉ K (Đ a C) "numbers") ["Thing","Post","Fence","Sail","Cloth","House"]:=⟨⟨T.ub,T.lf⟩,⟨⟨T.xI,T.oo⟩,⟨⟨T.ue,T.lh⟩,⟨⟨T.xJ,T.oq⟩,⟨⟨T.uh,T.li⟩,⟨⟨T.uj,T.lj⟩,trivial⟩⟩⟩⟩⟩⟩
def Zq(T:Tx K mg a w.params):bz (λC=>jS K (Đ a C)/\ĉ K (Đ a C) "yard") ["Desk"]:=⟨⟨T.uo,T.vU⟩,trivial⟩
def fu(T:Tx K mg a w.params):Ď P w K mg base (Ϟ P w) 1 a.LM a.PL ["self","row"] (E0 2 (Đ a "BadRow") [("row",1)]):=
 fnX T.ï.F Jj rfl λğ A outer s H E=>(sP (B1 T.vQ T.jO (pv 0) (pv 1)) wS)
def ZQ(T:Tx K mg a w.params){X:Cx}(h1:X.prog=P)(h2:X.w=w)(h3:X.K=K)(h4:X.mg=mg){k:Nat}(hr:Ń (k+1) X.A):XRun X (Đ a "BadRow") 2 [("row",1)]:=by subst h1 h2 h3 h4;exact TU hr T.Ŗ T.ï.F Jj rfl T.ï.b λğ A outer s H E v=>(sP (B1 T.vQ T.jO (pv 0) (pv 1)) wS)
def P0(T:Tx K mg a w.params):Ď P w K mg base (Ϟ P w) 1 a.LO a.PM ["self","name"] (E0 2 (Đ a "NoDay") [("name",1)]):=
 fnX T.dH.F P_ rfl λğ A outer s H E=>(sP (B1 T.FJ T.ua (pv 0) (pv 1)) wS)
def Ds(T:Tx K mg a w.params):Ď P w K mg base (Ϟ P w) 1 a.HF a.Io ["word","signs","most"] (bX ⟨K,Đ a⟩ 3 nN):=by refine Ϻ T.eY.F L6 λ_ _ _ _ _ _ _ hu=>?_;exact ϥ (v_and (pQ bi bi bf bf à (ó (bA š Ų T.ſ Ļ (ß (Ó 0) î))) (Ó 2)) (gX (bA (mJ rfl) nk T.vO iK (ß (ó (ď (kf (eP 0) fW ϋ (ky xq (xp hu) (Ó 1) (Ó 0) (by with_unfolding_all rfl))))) î))))
def Mr(T:Tx K mg a w.params):Ď P w K mg base (Ϟ P w) 2 a.HG a.Ip ["word"] (bX ⟨K,Đ a⟩ 1 jF):=by refine Ϻ T.kJ.F Dg λ_ _ _ _ _ _ hr hu=>?_;exact aL Dg (SK (du (ó (oW ż yx yy qa pN (Ó 0) (ß ņ î)))) (Ŕ (Ó 0) (ō Ŭ) bv) (dr (v_var 0))) (ã (ϡ (pR (du (ó (ď (ò (Ds T) T.eY hr õ (ē 1 (þ (mQ (.str "0123456789") (ł (v:=.str "0123456789") rfl T.AJ ⟨_,rfl⟩)) (þ (mQ (.int 10) (ł (v:=.int 10) rfl T.om ⟨_,rfl⟩)) ö)))))))) (ϥ Kh) ĝ) (ϥ (v_or (v_eq hu (Ó 0) ņ) (gX (v_not (oW ż yx yy qa pN (Ó 1) (ß ņ î)))))))
def Dt(T:Tx K mg a w.params):Ď P w K mg base (Ϟ P w) 3 a.HH a.Iq ["words"] (bX ⟨K,Đ a⟩ 1 vx):=by refine Ϻ T.eZ.F L7 λ_ _ _ _ _ _ hr _=>?_;exact ã (ϡ (du (ó (bA (mJ rfl) nk T.vO iK (ß (ó (ď (kf (eP 0) fW ϋ (ď (ò (Mr T) T.kJ hr ka (ē 0 ö)))))) î)))) (dC (kf (eP 0) fW ϋ (ke zy zz T.Jd yg (ß (Ó 0) î)))) ĝ) (ϥ BC)
def ur(T:Tx K mg a w.params):Ď P w K mg base (Ϟ P w) 4 a.HI a.Ir ["words","row"] (bX ⟨K,Đ a⟩ 2 nO):=by refine Ϻ T.ay.F Dh λ_ _ _ _ _ _ hr _=>?_;exact aL Dh (ò (Dt T) T.eZ hr õ (ē 0 ö)) (ã (ϡ (fg BL wq (Ó 2) Cf (ŉ _)) (ā (ţ (C:= "BadRow") rfl rfl ĳ T.Ŗ (fu T) hr.mo rfl (Qqj9 T) T.ï.b õ (Û (v_var 1) Ċ))) ĝ) (dC (pP 2)))
def Ms(T:Tx K mg a w.params):Ď P w K mg base (Ϟ P w) 5 a.HJ a.Iv ["words","row"] (bX ⟨K,Đ a⟩ 2 zD):=by refine Ϻ T.kK.F Di λ_ _ _ _ _ _ hr hu=>?_;exact ã (ϡ (PW.pt (w_or (w_ hu (cq (Ó 0) à) ņ) (mV (w_ hu (ó (bA š Ų T.ſ Ļ (ß (Ó 0) î))) à)))) (ā (ţ (C:= "BadRow") rfl rfl ĳ T.Ŗ (fu T) hr.mo rfl (Qqj9 T) T.ï.b õ (Û (v_var 1) Ċ))) ĝ) (aL Di (ò (ur T) T.ay hr õ (þ (ď (Ŕ (Ó 0) (ō Ŭ) bv)) (ē 1 ö))) (ã (ϡ (pR (du (ó (bA (mJ rfl) nk T.vO iK (ß (ó (ď (kf (eP 2) fW ϋ (pQ bi bi bf bf à (Ó 0) (ó (mQ (.int 20) (ł (v:=.int 20) rfl T.vN ⟨_,rfl⟩))))))) î))))) (ā (ţ (C:= "BadRow") rfl rfl ĳ T.Ŗ (fu T) hr.mo rfl (Qqj9 T) T.ï.b õ (Û (v_var 1) Ċ))) ĝ) (dC (pP 2))))
def Du(T:Tx K mg a w.params):Ď P w K mg base (Ϟ P w) 1 a.HK a.Ix ["days"] (bX ⟨K,Đ a⟩ 1 kF):=by refine Ϻ T.db.F L8 λ_ _ _ _ _ _ _ hu=>?_;exact ϥ (v_and (ky Gy Gg (ó (sZ 0 T.ſ (pv 0))) à (ŉ _)) (gX (v_eq hu (ó (Cm 0 T.ſ (La (pv 0)))) à)))
def oB(T:Tx K mg a w.params):Ď P w K mg base (Ϟ P w) 1 a.LK a.PB ["self","width","height","things","days"] (wO ⟨K,Đ a⟩ 5 "Yard" bZ):=by refine KA (cm:=Đ a) (mb:=zE) T.϶.F PU rfl rfl rfl λğ A outer s H E hr=>?_;have hu:=hr.units;exact ã (ό ["Yard"] (ZB T) (pv 0) (v_var 1)) (ã (ό ["Yard"] (Zy T) (pv 0) (v_var 2)) (ã (ό ["Yard"] (Ze T) (pv 0) (ď (vf cQ cR T.gb cA (ß (Ó 3) î)))) (ā (ό ["Yard"] (Zo T) (pv 0) (ď (T8 (Fd 4) (zt ["name","times","turns"] [] 3 (Î LG) rfl rfl (OP 4) (λ_ _ _ _ _=>(OQ (i:=0) (j:=1) (k:=2) rfl (show(["name","times","turns"]:List Str).Nodup by decide +kernel) rfl rfl rfl (ą rfl) (ą rfl) (ą rfl) (fx:=ÿ rfl) (fy:=ÿ rfl) (fz:=ÿ rfl))) (λ_ _ _ _ _=>ϋ) (λ_ _ _ _ _=>(fP (Û (v_var 0) (Û (v_var 1) (Û (ď (vf cQ cR T.gb cA (ß (Ó 2) î))) Ċ))))) trivial) (kf (eP 4) (Gs rfl (gF fW (gF fW (gF fW BF)))) ϋ (fP (Û (v_var 0) (Û (v_var 1) (Û (ď (vf cQ cR T.gb cA (ß (Ó 2) î))) Ċ)))))))))))
def Mt(T:Tx K mg a w.params):Ď P w K mg base (Ϟ P w) 1 a.HL a.Iy ["ray"] (bX ⟨K,Đ a⟩ 1 zF):=by refine Ϻ T.vK.F L9 λ_ _ _ _ _ _ _ _=>?_;exact ϥ (v_and (ky bi bf (ó (bA Bq BO T.Jc yh (ß (cq (Ó 0) à) î))) (ó (mQ (.int 1000000) (ł (v:=.int 1000000) rfl T.ip ⟨_,rfl⟩))) (ŉ _)) (v_and (ky bi bf (ó (bA Bq BO T.Jc yh (ß (cq (Ó 0) à) î))) (ó (mQ (.int 1000000) (ł (v:=.int 1000000) rfl T.ip ⟨_,rfl⟩))) (ŉ _)) (gX (pQ bi bi bf bf à (cq (Ó 0) à) (ó (mQ (.int 1000000) (ł (v:=.int 1000000) rfl T.ip ⟨_,rfl⟩)))))))
def Mu(T:Tx K mg a w.params):Ď P w K mg base (Ϟ P w) 5 a.HM a.Iz ["words","row"] (bX ⟨K,Đ a⟩ 2 vy):=by refine Ϻ T.kL.F Dj λ_ _ _ _ _ _ hr hu=>?_;exact ã (ϡ (dI hu (Ó 0) (ó (ď (bC (Û ĩ Ċ))))) (ϥ BC) ĝ) (ã (ϡ (PW.pt (w_or (w_ hu (cq (Ó 0) à) ņ) (mV (w_ hu (ó (bA š Ų T.ſ Ļ (ß (Ó 0) î))) à)))) (ā (ţ (C:= "BadRow") rfl rfl ĳ T.Ŗ (fu T) hr.mo rfl (Qqj9 T) T.ï.b õ (Û (v_var 1) Ċ))) ĝ) (aL Dj (dr (ke BQ BR T.FG PyProof.Rows.boot_tuple (ß (ó (ď (ò (ur T) T.ay hr õ (þ (ď (Ŕ (Ó 0) (ō Ŭ) bv)) (ē 1 ö))))) î))) (ã (ϡ (pR (du (ó (ď (ò (Mt T) T.vK hr õ (ē 2 ö)))))) (ā (ţ (C:= "BadRow") rfl rfl ĳ T.Ŗ (fu T) hr.mo rfl (Qqj9 T) T.ï.b õ (Û (v_var 1) Ċ))) ĝ) (dC (pP 2)))))
def Mv(T:Tx K mg a w.params):Ď P w K mg base (Ϟ P w) 6 a.HN a.IA ["words","row","days"] (Lb ⟨K,Đ a⟩ 3 zG):=by refine Rb T.kM.F Ma λ_ _ _ _ _ _ hr hu=>?_;exact lX (PW.pt (w_or (dI hu (ó (sZ 2 T.ſ (pv 2))) à) (mV (dI hu (ó (Cm 2 T.ſ (La (pv 2)))) (ó (mQ (.int 24) (ł (v:=.int 24) rfl T.t_ ⟨_,rfl⟩))))))) (ā (ţ (C:= "BadRow") rfl rfl ĳ T.Ŗ (fu T) hr.mo rfl (Qqj9 T) T.ï.b õ (Û (v_var 1) Ċ))) (K9 (La (pv 2)) (ď (ò (Mu T) T.kL hr õ (ē 0 (ē 1 ö)))))
def Mw(T:Tx K mg a w.params):Ď P w K mg base (Ϟ P w) 2 a.HP a.IB ["word"] (bX ⟨K,Đ a⟩ 1 zH):=by refine Ϻ T.qt.F Mb λ_ _ _ _ _ _ hr _=>?_;exact dC (ò (Ds T) T.eY hr õ (ē 0 (þ (mQ (.str "abcdefghijklmnopqrstuvwxyz") (ł (v:=.str "abcdefghijklmnopqrstuvwxyz") rfl T.AK ⟨_,rfl⟩)) (þ (mQ (.int 8) (ł (v:=.int 8) rfl T.on ⟨_,rfl⟩)) ö))))
def Mx(T:Tx K mg a w.params):Ď P w K mg base (Ϟ P w) 5 a.HQ a.IC ["words","row"] (bX ⟨K,Đ a⟩ 2 zI):=by refine Ϻ T.oi.F Dk λ_ _ _ _ _ _ hr hu=>?_;exact ã (ϡ (PW.pt (w_or (w_ hu (ó (bA š Ų T.ſ Ļ (ß (Ó 0) î))) à) (mV (pR (du (ó (ď (ò (Mw T) T.qt hr õ (þ (dB (Ó 0) à) ö))))))))) (ā (ţ (C:= "BadRow") rfl rfl ĳ T.Ŗ (fu T) hr.mo rfl (Qqj9 T) T.ï.b õ (Û (v_var 1) Ċ))) ĝ) (aL Dk (dr (dB (ó (ď (ò (ur T) T.ay hr õ (þ (ď (Ŕ (Ó 0) (ō Ŭ) bv)) (ē 1 ö))))) à)) (ã (ϡ (pR (Gp bi bi bf bf à (Ó 2) (ó (mQ (.int 1000000000) (ł (v:=.int 1000000000) rfl T.tZ ⟨_,rfl⟩))))) (ā (ţ (C:= "BadRow") rfl rfl ĳ T.Ŗ (fu T) hr.mo rfl (Qqj9 T) T.ï.b õ (Û (v_var 1) Ċ))) ĝ) (dC (K4 (zr (dB (Ó 0) à) (zr (v_var 2) (K3 (bC Ċ))))))))
def Mz(T:Tx K mg a w.params):Ď P w K mg base (Ϟ P w) 6 a.HR a.ID ["words","row","days"] (Lb ⟨K,Đ a⟩ 3 zJ):=by refine Rb T.oj.F Dl λ_ _ _ _ _ _ hr hu=>?_;exact lX (PW.pt (w_or (du (ó (ď (ò (Du T) T.db hr õ (ē 2 ö))))) (mV (dI hu (ó (sZ 2 T.ſ (pv 2))) (ó (mQ (.int 12) (ł (v:=.int 12) rfl T.vM ⟨_,rfl⟩))))))) (ā (ţ (C:= "BadRow") rfl rfl ĳ T.Ŗ (fu T) hr.mo rfl (Qqj9 T) T.ï.b õ (Û (v_var 1) Ċ))) (OU (i:=3) Dl.nd rfl (ą rfl) (ò (Mx T) T.oi hr õ (ē 0 (ē 1 ö))) (lX (K1 3 (fg xq (xp hu) (cq (Ó 3) à) (ó (ď (zt ["name","times","turns"] [] 3 (Î CB) rfl rfl (OP 2) (λ_ _ _ _ _=>(OQ (i:=0) (j:=1) (k:=2) rfl (show(["name","times","turns"]:List Str).Nodup by decide +kernel) rfl rfl rfl (ą rfl) (ą rfl) (ą rfl) (fx:=ÿ rfl) (fy:=ÿ rfl) (fz:=ÿ rfl))) (λ_ _ _ _ _=>ϋ) (λ_ _ _ _ _=>(v_var 0)) trivial))) (by with_unfolding_all rfl))) (ā (ţ (C:= "BadRow") rfl rfl ĳ T.Ŗ (fu T) hr.mo rfl (Qqj9 T) T.ï.b õ (Û (v_var 1) Ċ))) (K8 (pv 2) (pv 3))))
def oE(T:Tx K mg a w.params):Ď P w K mg base (Ϟ P w) 1 a.HS a.IE ["number"] (bX ⟨K,Đ a⟩ 1 kG):=by refine Ϻ T.aM.F Mc λ_ _ _ _ _ _ _ _=>?_;exact ϥ (pQ bi bi bf bf (ó (SJ Kw J5 (ó (mQ (.int 1000000000) (ł (v:=.int 1000000000) rfl T.jN ⟨_,rfl⟩))))) (Ó 0) (ó (mQ (.int 1000000000) (ł (v:=.int 1000000000) rfl T.jN ⟨_,rfl⟩))))
def Dv(T:Tx K mg a w.params):Ď P w K mg base (Ϟ P w) 1 a.HU a.IF ["number"] (bX ⟨K,Đ a⟩ 1 vz):=by refine Ϻ T.f_.F Md λ_ _ _ _ _ _ _ _=>?_;exact ϥ (pQ bi bi bf bf à (Ó 0) (ó (mQ (.int 1000000000) (ł (v:=.int 1000000000) rfl T.hV ⟨_,rfl⟩))))
def MA(T:Tx K mg a w.params):Ď P w K mg base (Ϟ P w) 2 a.HV a.IG ["numbers"] (bX ⟨K,Đ a⟩ 1 vA):=by refine Ϻ T.jI.F Me λ_ _ _ _ _ _ hr hu=>?_;exact ϥ (v_and (v_eq hu (ó (bA š Ų T.ſ Ļ (ß (Ó 0) î))) à) (v_and (ď (ò (oE T) T.aM hr õ (þ (dB (Ó 0) à) ö))) (v_and (ď (ò (oE T) T.aM hr õ (þ (dB (Ó 0) à) ö))) (gX (ď (ò (Dv T) T.f_ hr õ (þ (dB (Ó 0) à) ö)))))))
def Dw(T:Tx K mg a w.params):Ď P w K mg base (Ϟ P w) 1 a.le a.AG ["self","word","numbers"] (wO ⟨K,Đ a⟩ 3 "Post" tF):=by refine KA (cm:=Đ a) (mb:=fk) T.ĕ.F vV rfl rfl rfl λğ A outer s H E hr=>?_;have hu:=hr.units;exact ã (ό ["Thing","Post","Fence","Sail","Cloth","House"] (Zp T) (pv 0) (v_var 1)) (ā (ό ["Thing","Post","Fence","Sail","Cloth","House"] (Zg T) (pv 0) (ď (vf cQ cR T.gb cA (ß (Ó 2) î)))))
def AL(T:Tx K mg a w.params):Ď P w K mg base (Ϟ P w) 1 a.le a.AG ["self","word","numbers"] (wO ⟨K,Đ a⟩ 3 "Fence" nP):=by refine KA (cm:=Đ a) (mb:=fk) T.ĕ.F vV rfl rfl rfl λğ A outer s H E hr=>?_;have hu:=hr.units;exact ã (ό ["Thing","Post","Fence","Sail","Cloth","House"] (Zp T) (pv 0) (v_var 1)) (ā (ό ["Thing","Post","Fence","Sail","Cloth","House"] (Zg T) (pv 0) (ď (vf cQ cR T.gb cA (ß (Ó 2) î)))))
def Dx(T:Tx K mg a w.params):Ď P w K mg base (Ϟ P w) 1 a.le a.AG ["self","word","numbers"] (wO ⟨K,Đ a⟩ 3 "Sail" tH):=by refine KA (cm:=Đ a) (mb:=fk) T.ĕ.F vV rfl rfl rfl λğ A outer s H E hr=>?_;have hu:=hr.units;exact ã (ό ["Thing","Post","Fence","Sail","Cloth","House"] (Zp T) (pv 0) (v_var 1)) (ā (ό ["Thing","Post","Fence","Sail","Cloth","House"] (Zg T) (pv 0) (ď (vf cQ cR T.gb cA (ß (Ó 2) î)))))
def AM(T:Tx K mg a w.params):Ď P w K mg base (Ϟ P w) 1 a.le a.AG ["self","word","numbers"] (wO ⟨K,Đ a⟩ 3 "Cloth" nQ):=by refine KA (cm:=Đ a) (mb:=fk) T.ĕ.F vV rfl rfl rfl λğ A outer s H E hr=>?_;have hu:=hr.units;exact ã (ό ["Thing","Post","Fence","Sail","Cloth","House"] (Zp T) (pv 0) (v_var 1)) (ā (ό ["Thing","Post","Fence","Sail","Cloth","House"] (Zg T) (pv 0) (ď (vf cQ cR T.gb cA (ß (Ó 2) î)))))
def AN(T:Tx K mg a w.params):Ď P w K mg base (Ϟ P w) 1 a.le a.AG ["self","word","numbers"] (wO ⟨K,Đ a⟩ 3 "House" nR):=by refine KA (cm:=Đ a) (mb:=fk) T.ĕ.F vV rfl rfl rfl λğ A outer s H E hr=>?_;have hu:=hr.units;exact ã (ό ["Thing","Post","Fence","Sail","Cloth","House"] (Zp T) (pv 0) (v_var 1)) (ā (ό ["Thing","Post","Fence","Sail","Cloth","House"] (Zg T) (pv 0) (ď (vf cQ cR T.gb cA (ß (Ó 2) î)))))
def DA(T:Tx K mg a w.params):Ď P w K mg base (Ϟ P w) 2 a.HW a.IH ["numbers"] (bX ⟨K,Đ a⟩ 1 qm):=by refine Ϻ T.cj.F Mf λ_ _ _ _ _ _ hr hu=>?_;exact ϥ (v_and (v_eq hu (ó (bA š Ų T.ſ Ļ (ß (Ó 0) î))) à) (v_and (bA (mJ rfl) nk T.vO iK (ß (ó (ď (kf (gY (ď (Ŕ (Ó 0) bv (ō Ŭ)))) fW ϋ (ď (ò (oE T) T.aM hr ka (ē 0 ö)))))) î)) (gX (ď (ò (Dv T) T.f_ hr õ (þ (dB (Ó 0) à) ö))))))
def MB(T:Tx K mg a w.params):Ď P w K mg base (Ϟ P w) 3 a.HX a.II ["numbers"] (bX ⟨K,Đ a⟩ 1 vB):=by refine Ϻ T.hR.F Mg λ_ _ _ _ _ _ hr hu=>?_;exact ϥ (v_and (ď (ò (DA T) T.cj hr õ (ē 0 ö))) (gX (ky BK (wD hu) (ó (ď (Ŕ (Ó 0) bv (ō Ŭ)))) (ó (ď (Ŕ (Ó 0) (ō Ŭ) (ō Ŭ)))) (ŉ _))))
def Jk(T:Tx K mg a w.params):Ď P w K mg base (Ϟ P w) 3 a.Ps a.PC ["numbers"] (bX ⟨K,Đ a⟩ 1 AF):=by refine Ϻ T.ų.F PY λ_ _ _ _ _ _ hr _=>?_;exact ϥ (v_and (ď (ò (DA T) T.cj hr õ (ē 0 ö))) (v_and (ky uS uI (cq (Ó 0) à) (cq (Ó 0) à) (ŉ _)) (gX (ky uS uI (cq (Ó 0) à) (cq (Ó 0) à) (ŉ _)))))
def P1(T:Tx K mg a w.params):Ď P w K mg base (Ϟ P w) 2 a.Pu a.PD ["numbers"] (bX ⟨K,Đ a⟩ 1 Fx):=by refine Ϻ T.cY.F PZ λ_ _ _ _ _ _ hr _=>?_;exact ϥ (v_and (ď (ò (oE T) T.aM hr õ (þ (dB (Ó 0) à) ö))) (v_and (ď (ò (oE T) T.aM hr õ (þ (dB (Ó 0) à) ö))) (gX (pQ bi bi bf bf à (cq (Ó 0) à) (ó (mQ (.int 1000000000) (ł (v:=.int 1000000000) rfl T.hV ⟨_,rfl⟩)))))))
def MC(T:Tx K mg a w.params):Ď P w K mg base (Ϟ P w) 3 a.HY a.IJ ["numbers"] (bX ⟨K,Đ a⟩ 1 vC):=by refine Ϻ T.hU.F Mh λ_ _ _ _ _ _ hr hu=>?_;exact ϥ (v_and (v_eq hu (ó (bA š Ų T.ſ Ļ (ß (Ó 0) î))) à) (gX (bA (mJ rfl) nk T.vO iK (ß (ó (ď (kf (gY (fP (Û Ŭ (Û Ŭ (Û Ŭ Ċ))))) fW ϋ (ď (ò (P1 T) T.cY hr ka (þ (ď (Ŕ (Ó 0) (ō (v_var 1)) (ō (v_add (Ó 1) à)))) ö)))))) î))))
def DB(T:Tx K mg a w.params):Ď P w K mg base (Ϟ P w) 4 a.HZ a.IK ["word","numbers"] (bX ⟨K,Đ a⟩ 2 dG):=by refine Ϻ T.io.F Mi λ_ _ _ _ _ _ hr hu=>?_;exact ã (ϡ (PW.pt (w_and (dI hu (Ó 0) ņ) (mT (du (ó (ď (ò (MA T) T.jI hr õ (ē 1 ö)))))))) (ϥ (fS T.L0 (Dw T) Ϛ hr.mo rfl (Yq T) T.ĕ.b õ (ē 0 (ē 1 ö)))) ĝ) (ã (ϡ (PW.pt (w_and (dI hu (Ó 0) ņ) (mT (du (ó (ď (ò (MB T) T.hR hr õ (ē 1 ö)))))))) (ϥ (fS T.FK (AL T) Ϛ hr.mo rfl (Yr T) T.ĕ.b õ (ē 0 (ē 1 ö)))) ĝ) (ã (ϡ (PW.pt (w_and (dI hu (Ó 0) ņ) (mT (du (ó (ď (ò (Jk T) T.ų hr õ (ē 1 ö)))))))) (ϥ (fS T.L1 (Dx T) Ϛ hr.mo rfl (Ys T) T.ĕ.b õ (ē 0 (ē 1 ö)))) ĝ) (ã (ϡ (PW.pt (w_and (dI hu (Ó 0) ņ) (mT (du (ó (ď (ò (MC T) T.hU hr õ (ē 1 ö)))))))) (ϥ (fS T.FL (AM T) Ϛ hr.mo rfl (Yt T) T.ĕ.b õ (ē 0 (ē 1 ö)))) ĝ) (ã (ϡ (PW.pt (w_and (dI hu (Ó 0) ņ) (mT (du (ó (ď (ò (Jk T) T.ų hr õ (ē 1 ö)))))))) (ϥ (fS T.FM (AN T) Ϛ hr.mo rfl (Yu T) T.ĕ.b õ (ē 0 (ē 1 ö)))) ĝ) (ā (bo (C:= "BadThing") rfl rfl ĳ rfl (ZI T) T.xH))))))
def MD(T:Tx K mg a w.params):Ď P w K mg base (Ϟ P w) 5 a.H_ a.IL ["words","row"] (bX ⟨K,Đ a⟩ 2 zK):=by refine Ϻ T.jJ.F Do λ_ _ outer _ _ _ hr _=>?_;exact aL Do (ò (ur T) T.ay hr õ (þ (ď (Ŕ (Ó 0) (ō Ŭ) bv)) (ē 1 ö))) (ā (GB ⟨_,outer,rfl,rfl,rfl⟩ (λ_ _ _ Vs=>(dC (ò (DB T) T.io hr Vs (þ (dB (Ó 0) à) (ē 2 ö))))) (E7 (Dn:= "BadThing") (C:= "BadRow") rfl (ZI T) T.ou T.kR T.kS E5 rfl T.Ŗ (ZQ T rfl rfl rfl rfl hr) rfl (Qqj9 T) (λe=>(Û (v_var 1) Ċ)) GA)))
def ME(T:Tx K mg a w.params):Ď P w K mg base (Ϟ P w) 6 a.H0 a.IM ["words","row","things","days"] (Lb ⟨K,Đ a⟩ 4 vD):=by refine Rb T.jK.F Mj λ_ _ _ _ _ _ hr hu=>?_;exact lX (PW.pt (w_or (fg Gy Gg (ó (sZ 3 T.ſ (pv 3))) à (ŉ _)) (mV (dI hu (ó (bA š Ų T.ſ Ļ (ß (Ó 2) î))) (ó (mQ (.int 40) (ł (v:=.int 40) rfl T.hX ⟨_,rfl⟩))))))) (ā (ţ (C:= "BadRow") rfl rfl ĳ T.Ŗ (fu T) hr.mo rfl (Qqj9 T) T.ï.b õ (Û (v_var 1) Ċ))) (K7 (pv 2) (ď (ò (MD T) T.jJ hr õ (ē 0 (ē 1 ö)))))
def MG(T:Tx K mg a w.params):Ď P w K mg base (Ϟ P w) 7 a.Ia a.IN ["words","row","things","days"] (Lb ⟨K,Đ a⟩ 4 aE):=by refine Rb T.e_.F Ml λ_ _ _ _ _ _ hr hu=>?_;exact OT (fg xq (xp hu) (cq (Ó 0) à) (ó (fP (Û ĩ (Û ĩ Ċ)))) (by with_unfolding_all rfl)) (w_call (Mv T) T.kM hr õ (ž 0 (pv 0) (ž 1 (pv 1) (ž 3 (pv 3) sY)))) (OT (dI hu (cq (Ó 0) à) ņ) (w_call (Mz T) T.oj hr õ (ž 0 (pv 0) (ž 1 (pv 1) (ž 3 (pv 3) sY)))) (w_call (ME T) T.jK hr õ (ž 0 (pv 0) (ž 1 (pv 1) (ž 2 (pv 2) (ž 3 (pv 3) sY))))))
def MJ(T:Tx K mg a w.params):Ď P w K mg base (Ϟ P w) 8 a.Ib a.IP ["text"] (bX ⟨K,Đ a⟩ 1 vE):=by refine Ϻ T.kN.F ir λ_ _ _ _ _ _ hr _=>?_;exact ã (OJ ir (gY (ď (Lm ż gy rj nI nH (Ó 0) (ß ņ î)))) fW ϋ (ď (Lm ż gy rj nI nH (Ó 0) (ß ņ î)))) (aL ir (ò (Ms T) T.kK hr õ (þ (dB (Ó 1) à) (þ Ŭ ö))) (Ua (jU ir.nd (i:=3) rfl (ą rfl) (wz aI)) (jU ir.nd (i:=4) rfl (ą rfl) (wz aI)) gz rfl (Fg rfl T.vP (T3 (ď (Ŕ (Ó 1) (ō Ŭ) bv)))) (wl rfl (dm (gB ir.nd (i:=5) rfl (ą rfl)) (dm (gB ir.nd (i:=6) rfl (ą rfl)) sj rfl) rfl) rfl rfl) (eK (aX (jB (MG T) hr.mo rfl T.e_.m T.e_.F.kp T.e_.b õ (ž 6 (pv 6) (ž 5 (pv 5) (ž 3 (pv 3) (ž 4 (pv 4) sY))))))) (ã (ϡ (du (ó (ď (ò (Du T) T.db hr õ (ē 4 ö))))) (ā (ţ (C:= "BadRow") rfl rfl ĳ T.Ŗ (fu T) hr.mo rfl (Qqj9 T) T.ï.b õ (Û (bA š Ų T.ſ Ļ (ß (Ó 1) î)) Ċ))) ĝ) (ϥ (fS T.xK (oB T) Ϛ hr.mo rfl (Ut T) T.϶.b õ (þ (dB (Ó 2) à) (þ (dB (Ó 2) à) (ē 3 (ē 4 ö))))))) (λ_ _=>rfl)))
def DC(T:Tx K mg a w.params):Ď P w K mg base (Ϟ P w) 9 a.CZ a.IQ ["self","text"] (wO ⟨K,Đ a⟩ 2 "Desk" l_):=by refine KA (cm:=Đ a) (mb:=xA) T.fm.F Mm rfl rfl rfl λğ A outer s H E hr=>?_;have hu:=hr.units;exact ā (ό ["Desk"] (Zq T) (pv 0) (ď (ò (MJ T) T.kN hr õ (ē 1 ö))))
def DE(T:Tx K mg a w.params):Ď P w K mg base (Ϟ P w) 4 a.Pw a.PF ["words","place"] (bX ⟨K,Đ a⟩ 2 im):=by refine Ϻ T.ϛ.F Jh λ_ _ _ _ _ _ hr _=>?_;exact aL Jh (ò (Dt T) T.eZ hr õ (þ (ď (Ŕ (Ó 0) (ō (v_var 1)) bv)) ö)) (ã (ϡ (fg BL wq (Ó 2) Cf (ŉ _)) (ā (bo (C:= "NoRow") rfl rfl ĳ rfl (Zl T) T.fc)) ĝ) (dC (pP 2)))
def kt(T:Tx K mg a w.params):Ď P w K mg base (Ϟ P w) 1 a.kH a.IS ["self"] (bX ⟨K,Đ a⟩ 1 ľ):=by refine Ϻ T.Ś.F Mn λ_ _ _ _ _ _ _ _=>?_;exact ϥ (oW ż cH cI cS cM ņ (ß (cU (ó (ď (bC (Û (ϝ ["Thing","Post","Fence","Sail","Cloth","House"] (Zp T) (Ó 0)) Ċ)))) (ó (ď (kf (gY (ϝ ["Thing","Post","Fence","Sail","Cloth","House"] (Zg T) (Ó 0))) fW ϋ (ke aZ a_ T.hZ aP (ß (Ó 0) î)))))) î))
def MK(T:Tx K mg a w.params):Ď P w K mg base (Ϟ P w) 1 a.Ic a.IT ["turn"] (bX ⟨K,Đ a⟩ 1 nS):=by refine Ϻ T.kO.F Mo λ_ _ _ _ _ _ _ _=>?_;exact ã (ϡ (fg BL wq (Ó 0) Cf (ŉ _)) (ϥ ĩ) ĝ) (ϥ (oW ż cH cI cS cM ņ (ß (cU (ó (ď (bC (Û ĩ Ċ)))) (ó (ď (kf (eP 0) fW ϋ (ke aZ a_ T.hZ aP (ß (Ó 0) î)))))) î)))
def ML(T:Tx K mg a w.params):Ď P w K mg base (Ϟ P w) 2 a.Ie a.IU ["yard"] (bX ⟨K,Đ a⟩ 1 vF):=by refine Ϻ T.kP.F oz λ_ _ _ _ _ _ hr _=>?_;exact aL oz (bC (Û (oW ż cH cI cS cM ņ (ß (ó (ď (bC (Û ĩ (Û (ke aZ a_ T.hZ aP (ß (ó (ϝ ["Yard"] (ZB T) (Ó 0))) î)) (Û (ke aZ a_ T.hZ aP (ß (ó (ϝ ["Yard"] (Zy T) (Ó 0))) î)) Ċ)))))) î)) Ċ)) (ã (PS.wk (aX (gS cG q_ yz pJ (pv 1) (Š (kf (gY (ϝ ["Yard"] (Ze T) (Ó 0))) fW ϋ (ď (EW (oU:= "shown") (k:=1) (n:=1) (Ϗ:=[("Thing",ľ),("Post",ľ),("Fence",ľ),("Sail",ľ),("Cloth",ľ),("House",ľ)]) ⟨⟨T.ub,_,_,_,T.pb,(kt T).mono (by decide),T.Ś.b,bh⟩,⟨⟨T.xI,_,_,_,T.ud,(kt T).mono (by decide),T.Ś.b,bh⟩,⟨⟨T.ue,_,_,_,T.pd,(kt T).mono (by decide),T.Ś.b,bh⟩,⟨⟨T.xJ,_,_,_,T.ug,(kt T).mono (by decide),T.Ś.b,bh⟩,⟨⟨T.uh,_,_,_,T.pe,(kt T).mono (by decide),T.Ś.b,bh⟩,⟨⟨T.uj,_,_,_,T.pf,(kt T).mono (by decide),T.Ś.b,bh⟩,trivial⟩⟩⟩⟩⟩⟩ hr.mo ka (v_var 0)))) aI))) λ_ _ _ h=>zq h) (ã (uN gz rfl (gY (ϝ ["Yard"] (Zo T) (Ó 0))) (Gs rfl (gF (xb oz) (gF (xb oz) (gF (xb oz) BF)))) (ã (PS.wk (aX (gS cG gx ja aJ (pv 1) (Û (Uh (lZ ĩ (lZ (GR (v_var 2)) (lZ ĩ (lZ (GR (v_var 3)) Lo))))) Ċ))) λ_ _ _ h=>EN h) (ā (PS.wk (aX (gS cG q_ yz pJ (pv 1) (Š (kf (eP 4) fW ϋ (ď (ò (MK T) T.kO hr ka (ē 0 ö)))) aI))) λ_ _ _ h=>zq h)))) (ϥ (oW ż cH cI cS cM ņ (ß (Ó 1) î)))))
def Yw(T:Tx K mg a w.params):gZ P w K mg base (Ϟ P w) 3 a.C_ a.IV ["yard","values"] (bX ⟨K,Đ a⟩ 2 vG):=by refine X8 T.de.F Mp λğ A outer s H E hr=>?_;exact LC (ď (ò (ML T) T.kP hr õ (ē 0 ö)))
def MN(T:Tx K mg a w.params):Ď P w K mg base (Ϟ P w) 1 a.Ig a.IW ["yard","day"] (bX ⟨K,Đ a⟩ 2 HD):=by refine Ϻ T.qu.F Mq λ_ _ _ _ _ _ _ _=>?_;exact ϥ (dB (cq (ó (ϝ ["Yard"] (Zo T) (Ó 0))) (Ó 1)) à)
def MO(T:Tx K mg a w.params):Ď P w K mg base (Ϟ P w) 3 a.Ih a.IX ["yard","name"] (bX ⟨K,Đ a⟩ 2 HE):=by refine Ϻ T.jL.F Dp λ_ _ _ _ _ _ hr hu=>?_;exact ã (uN gz rfl (uO rfl T.zR (Û (bA š Ų T.ſ Ļ (ß (ó (ϝ ["Yard"] (Zo T) (Ó 0))) î)) Ċ)) (xb Dp) (ā (ϡ (dI hu (ó (ď (ò (MN T) T.qu hr õ (ē 0 (ē 2 ö))))) (Ó 1)) (dC (pP 2)) ĝ))) (ā (ţ (C:= "NoDay") rfl rfl ĳ T.FI (P0 T) hr.mo rfl (Yp T) T.dH.b õ (Û (v_var 1) Ċ)))
def MP(T:Tx K mg a w.params):Ď P w K mg base (Ϟ P w) 5 a.Ii a.IY ["yard","words"] (bX ⟨K,Đ a⟩ 2 zL):=by refine Ϻ T.vL.F uq λ_ _ _ _ _ _ hr hu=>?_;exact ã (ϡ (fg (Fo (nm:= "ROWS") rfl) (Fn T.De) (cq (Ó 1) à) (ó (mQ (.cls "ROWS") (ł (v:=.ref (Đ a "ROWS")) rfl (V4 T) rfl))) (by with_unfolding_all rfl)) (ā (bo (C:= "NoRow") rfl rfl ĳ rfl (Zl T) T.fc)) ĝ) (aL uq (dr (Oe (Fp (nm:= "ROWS") rfl) (Lq T.De) (ó (mQ (.cls "ROWS") (ł (v:=.ref (Đ a "ROWS")) rfl (V4 T) rfl))) (cq (Ó 1) à) (λ_ _=>rfl))) (aL uq (Ŕ (Ó 1) (ō Ŭ) (ō (v_add à (cq (Ó 2) à)))) (ã (ϡ (w_ hu (ó (bA š Ų T.ſ Ļ (ß (Ó 1) î))) (cU (cU à (cq (Ó 2) à)) (cq (Ó 2) à))) (ā (bo (C:= "NoRow") rfl rfl ĳ rfl (Zl T) T.fc)) ĝ) (aL uq (ò (DE T) T.ϛ hr õ (ē 1 (þ (v_add à (cq (Ó 2) à)) ö))) (dC (LF (k:=3) (n:=2) (Ϗ:=[("answer_show",vG)]) ⟨⟨_,_,T.de.F.kp,(Yw T).mono (by decide),T.de.b,bh⟩,trivial⟩ hr.mo õ (Ó 2) (ē 0 (þ (v_add (ó (ď (kf (eP 3) fW ϋ (ď (ò (MO T) T.jL hr ka (ē 0 (ē 1 ö))))))) (Ó 4)) ö))))))))
def MQ(T:Tx K mg a w.params):Ď P w K mg base (Ϟ P w) 5 a.Ij a.IZ ["yard","words"] (bX ⟨K,Đ a⟩ 2 cW):=by refine Ϻ T.jM.F Dq λ_ _ _ _ _ _ hr hu=>?_;exact ã (ϡ (fg uS uI (ó (bA š Ų T.ſ Ļ (ß (Ó 1) î))) à (ŉ _)) (ā (bo (C:= "NoRow") rfl rfl ĳ rfl (Zl T) T.fc)) ĝ) (aL Dq (ò (DE T) T.ϛ hr õ (ē 1 (þ Ŭ ö))) (ã (ϡ (dI hu (ó (bA š Ų T.ſ Ļ (ß (ó (ϝ ["Yard"] (Ze T) (Ó 0))) î))) (ó (mQ (.int 40) (ł (v:=.int 40) rfl T.hX ⟨_,rfl⟩)))) (ā (bo (C:= "NoRow") rfl rfl ĳ rfl (Zl T) T.fc)) ĝ) (ϥ (fS T.xK (oB T) Ϛ hr.mo rfl (Ut T) T.϶.b õ (þ (ϝ ["Yard"] (ZB T) (Ó 0)) (þ (ϝ ["Yard"] (Zy T) (Ó 0)) (þ (v_add (ó (ϝ ["Yard"] (Ze T) (Ó 0))) (ó (ď (bC (Û (ď (ò (DB T) T.io hr õ (þ (dB (Ó 1) à) (ē 2 ö)))) Ċ))))) (þ (ϝ ["Yard"] (Zo T) (Ó 0)) ö))))))))
def P2(T:Tx K mg a w.params):Ď P w K mg base (Ϟ P w) 5 a.Px a.PK ["yard","words"] (bX ⟨K,Đ a⟩ 2 lc):=by refine Ϻ T.fq.F Ji λ_ _ _ _ _ _ hr hu=>?_;exact ã (ϡ (w_ hu (ó (bA š Ų T.ſ Ļ (ß (Ó 1) î))) à) (ā (bo (C:= "NoRow") rfl rfl ĳ rfl (Zl T) T.fc)) ĝ) (aL Ji (dr (dB (ó (ď (ò (DE T) T.ϛ hr õ (ē 1 (þ Ŭ ö))))) à)) (ã (ϡ (pR (Gp bi uS bf uI à (Ó 2) (ó (bA š Ų T.ſ Ļ (ß (ó (ϝ ["Yard"] (Ze T) (Ó 0))) î))))) (ā (bo (C:= "NoRow") rfl rfl ĳ rfl (Zl T) T.fc)) ĝ) (ϥ (fS T.xK (oB T) Ϛ hr.mo rfl (Ut T) T.϶.b õ (þ (ϝ ["Yard"] (ZB T) (Ó 0)) (þ (ϝ ["Yard"] (Zy T) (Ó 0)) (þ (v_add (ó (ď (Ŕ (ó (ϝ ["Yard"] (Ze T) (Ó 0))) bv (ō (v_var 2))))) (ó (ď (Ŕ (ó (ϝ ["Yard"] (Ze T) (Ó 0))) (ō (v_add (Ó 2) à)) bv)))) (þ (ϝ ["Yard"] (Zo T) (Ó 0)) ö))))))))
def xL(T:Tx K mg a w.params):Ď P w K mg base (Ϟ P w) 6 a.C0 a.I_ ["self","row"] (Fq ⟨K,Đ a⟩ "Desk" cX):=by refine Um T.fb.F Dr λ_ _ _ _ _ _ hr hu=>?_;exact aL Dr (Lm ż gy rj nI nH (Ó 1) (ß ņ î)) (ã (ϡ (dI hu (cq (Ó 2) à) ņ) (ã (ό ["Desk"] (Zq T) (pv 0) (ď (ò (MQ T) T.jM hr õ (þ (ϝ ["Desk"] (Zq T) (Ó 0)) (ē 2 ö))))) (ϥ ĩ)) ĝ) (ã (ϡ (dI hu (cq (Ó 2) à) ņ) (ã (ό ["Desk"] (Zq T) (pv 0) (ď (ò (P2 T) T.fq hr õ (þ (ϝ ["Desk"] (Zq T) (Ó 0)) (ē 2 ö))))) (ϥ ĩ)) ĝ) (dC (ò (MP T) T.vL hr õ (þ (ϝ ["Desk"] (Zq T) (Ó 0)) (ē 2 ö))))))
def oG(T:Tx K mg a w.params):Ď P w K mg base (Ϟ P w) 7 a.Ik a.I0 ["_law_desk","_law_row"] (Fq ⟨K,Đ a⟩ "Desk" aF):=by refine Um T.af.F oA λ_ _ outer _ _ _ hr _=>?_;exact aL oA (dr ĩ) (ã (GB ⟨_,outer,rfl,rfl,rfl⟩ (λ_ _ _ Vs=>(ā (Lx (i:=2) oA.nd rfl (ą rfl) (tw (oU:= "say") 0 T.uo T.iq (xL T) T.fb.b hr.mo Vs (pv 0) (Û (v_var 1) Ċ))))) (zo (Dn:= "NoRow") rfl (Zl T) T.FN T.Dc T.Dd (λe=>(ā (xa oA (dr (fP (Û ĩ Ċ)))))) (zo (Dn:= "BadThing") rfl (ZI T) T.ou T.kR T.kS (λe=>(ā (xa oA (dr (fP (Û ĩ Ċ)))))) GA))) (dC (pP 2)))
def MS(T:Tx K mg a w.params):Ď P w K mg base (Ϟ P w) 8 a.Il a.Ja ["_law_desk","_law_rows","_law_cell"] (Fq ⟨K,Đ a⟩ "Desk" ci):=by refine Um T.kQ.F bB λ_ _ _ _ _ _ hr hu=>?_;exact aL bB (dr (v_mod (Cg (Ó 2) à) (ó (mR sG sv à à)))) (ã (ϡ (dI hu (fV (Ó 2) à) à) (aL bB (bC (Û (v_sub (fV (Ó 3) à) à) (Û (v_mod (Cg (Ó 3) à) à) (Û (v_add à (fV (Ó 3) à)) Ċ)))) (ã (ϡ (dI hu (fV (Ó 3) à) à) (ā (xa bB (bC (Û (mR sG sv à à) (Û (v_sub à (ó (mR sG sv à à))) (Û (mR sG sv à à) Ċ)))))) ĝ) (aL bB (dr (oW ż cH cI cS cM ņ (ß (cU (ó (ď (bC (Û ĩ Ċ)))) (ó (ď (kf (eP 5) fW ϋ (ke aZ a_ T.hZ aP (ß (Ó 0) î)))))) î))) (aL bB (dr ĩ) (ã (ϡ (dI hu (ó (bA š Ų T.ſ Ļ (ß (Ó 1) î))) à) (ā (xa bB (dr (fP (Û ĩ Ċ))))) (ā (Ly (i:=1) (pv 1) (v_var 6)))) (ā (kj (ki kA (fL hu) (jD 0 (oG T) T.af hr õ (pv 0) (Û (v_add ņ (Ó 6)) Ċ)) (Ó 7) (ŉ _))))))))) ĝ) (ã (ϡ (dI hu (fV (Ó 2) à) à) (aL bB (bC (Û ĩ (Û ĩ (Û ĩ (Û ĩ (Û ĩ (Û ĩ (Û ĩ (Û ĩ Ċ))))))))) (aL bB (dr (dB (Ó 8) (fV (Ó 3) à))) (aL bB (dr (dB (ó (ď (bC (Û (fP (Û ĩ Ċ)) (Û (fP (Û ĩ Ċ)) Ċ))))) (ó (ke zy zz T.Jd yg (ß (ó (v_eq hu (ó (bA š Ų T.ſ Ļ (ß (Ó 1) î))) à)) î))))) (ā (kj (ki kA (fL hu) (jD 0 (oG T) T.af hr õ (pv 0) (Û (v_add ņ (Ó 6)) Ċ)) (Ó 7) (ŉ _))))))) ĝ) (ã (ϡ (dI hu (fV (Ó 3) à) à) (aL bB (dr (dB (ó (ď (bC (Û ĩ (Û ĩ (Û ĩ (Û ĩ (Û ĩ Ċ)))))))) (fV (Cg (Ó 3) à) à))) (ā (kj (ki kA (fL hu) (jD 0 (oG T) T.af hr õ (pv 0) (Û (v_var 6) Ċ)) (ó (fP (Û ĩ Ċ))) (ŉ _))))) ĝ) (aL bB (dr (v_sub (fV (Ó 3) à) à)) (ã (ϡ (PW.pt (w_or (fg uS uI (Ó 4) à (ŉ _)) (mV (fg On N4 (Ó 4) (ó (bA š Ų T.ſ Ļ (ß (Ó 1) î))) (ŉ _))))) (ā (kj (ki kA (fL hu) (jD 0 (oG T) T.af hr õ (pv 0) (Û (v_add ņ (ó (ke aZ a_ T.hZ aP (ß (Ó 4) î)))) Ċ)) (ó (fP (Û ĩ Ċ))) (ŉ _)))) ĝ) (ã (LA (i:=1) (pv 1) (v_var 4)) (ā (kj (ki kA (fL hu) (jD 0 (oG T) T.af hr õ (pv 0) (Û (v_add ņ (ó (ke aZ a_ T.hZ aP (ß (Ó 4) î)))) Ċ)) ņ (ŉ _))))))))))
def MT(T:Tx K mg a w.params):Ď P w K mg base (Ϟ P w) 11 a.Im a.C6 ["_law_script"] (bX ⟨K,Đ a⟩ 1 qr):=by refine Ϻ T.Db.F df λ_ _ _ _ _ _ hr hu=>?_;exact aL df (dr Ŭ) (ã (uN gz rfl (gY (ď (Ŕ (Ó 0) bv (ō Ŭ)))) (xb df) (ā (xa df (GN à (fV (Ó 2) à))))) (aL df (dr Ŭ) (ã (uN gz rfl (gY (ď (Ŕ (Ó 0) (ō Ŭ) (ō Ŭ)))) (xb df) (ā (xa df (dr (v_mod (Ó 2) à))))) (ã (OJ df (uO rfl T.zR (Û (v_var 1) Ċ)) fW ϋ (v_add (cU (cU (cU (cU ņ (ó (ke aZ a_ T.hZ aP (ß (cU (Ó 0) (Ó 1)) î)))) ņ) (ó (ke aZ a_ T.hZ aP (ß (Ó 1) î)))) ņ) (ó (ke aZ a_ T.hZ aP (ß (cU à (fV (Ó 1) à)) î))))) (Fu (i:=5) df.nd rfl (ą rfl) T.L5 (DC T) Ϛ hr.mo rfl (Yv T) T.fm.b õ (þ (oW ż cH cI cS cM ņ (ß (cU (ó (ď (bC (Û ĩ Ċ)))) (Ó 4)) î)) ö) (ã (uN gz rfl (gY (ď (Ŕ (Ó 0) (ō Ŭ) (ō Ŭ)))) (xb df) (ã (GZ (Lw (Lv (Fs 5 4 (MS T) T.kQ hr õ (pv 5) (pv 4) (Û (v_var 2) Ċ)))) (ϥ Kh) ĝ) (ā (GZ (Lu BK (wD hu) (tw (oU:= "say") 5 T.uo T.iq (xL T) T.fb.b hr.mo õ (pv 5) (Û ĩ Ċ)) (ó (oW ż cH cI cS cM ņ (ß (cU (ó (ď (bC (Û ĩ Ċ)))) (Ó 4)) î))) (ŉ _)) (ϥ Kh) ĝ)))) (ā (kj (ki kA (fL hu) (tw (oU:= "say") 5 T.uo T.iq (xL T) T.fb.b hr.mo õ (pv 5) (Û ĩ Ċ)) (ó (oW ż cH cI cS cM ņ (ß (cU (ó (ď (bC (Û ĩ Ċ)))) (Ó 4)) î))) (ŉ _))))))))))
end
def Sl(s:di)(ps:List PV):Prop:=s=.sh (.lst ps)\/s=.bw ps
def Sl.lend{s:di}{ps:List PV}(h:Sl s ps):bg s=some s:=by rcases h with rfl|rfl<;>rfl
def Sl.it{s:di}{ps:List PV}(h:Sl s ps){i:Nat}{U:û}(e:U[i]?=some s):av i U=.ok ps U:= by
 rcases h with rfl|rfl<;>simp[e]
theorem ZR:∀l:List Bool,az (l.map .bl)=some l
 | []=>rfl
 |x::l=>by rw[á,az,ZR l];rfl
def V5(l:List Bool):nj [.lst (l.map .bl)]=some (.bl (l.all id)):=by show(az (l.map .bl)).map (λbs=>PV.bl (bs.all id))=_;rw[ZR];rfl
def Jl(s:di)(ps:List PV):Prop:=s=.sh (.lst ps)\/s=.bw ps
def aG(x:Int):Bool:=decide (-1000000000<=x/\x<=1000000000)
def DF(x:Int):Bool:=decide (1<=x/\x<=1000000000)
def xM(x:Int):Bool:=decide (0<=x/\x<=1000000000)
def ZW(x:Int):kG [.sh (.int x)]=.ret (.sh (.bl (aG x))):=by unfold aG;by_cases h1: -1000000000<=x<;>by_cases h2:x<=1000000000<;>simp[kG,CM,Ñ,h1,h2]
def V6(x:Int):vz [.sh (.int x)]=.ret (.sh (.bl (DF x))):=by unfold DF;by_cases h1:1<=x<;>by_cases h2:x<=1000000000<;>simp[vz,CN,Ñ,h1,h2]
def Zi:List Int->Bool
 | [p,q,h]=>aG p && aG q && DF h
 |_=>false
def Zf:List Int->Bool
 | [x,y,u,v,h]=>aG x && aG y && aG u && aG v && DF h
 |_=>false
def Zb:List Int->Bool
 | [x,y,u,v,h]=>Zf [x,y,u,v,h] && !(decide (x=u) && decide (y=v))
 |_=>false
def Za:List Int->Bool
 | [x,y,u,v,h]=>Zf [x,y,u,v,h] && decide (x<u) && decide (y<v)
 |_=>false
def Zc:List Int->Bool
 | [a,b,c,d,e,f,g,h,i]=>aG a && aG b && xM c && (aG d && aG e && xM f) && (aG g && aG h && xM i)
 |_=>false
def Yx(a b c:Bool):nj [.lst [.bl a,.bl b,.bl c]]=some (.bl (a && b && c)):=by cases a<;>cases b<;>cases c<;>rfl
def Yy(a b c d:Bool):nj [.lst [.bl a,.bl b,.bl c,.bl d]]=some (.bl (a && b && c && d)):=by cases a<;>cases b<;>cases c<;>cases d<;>rfl
def Yz{xs:List Int}{sl:di}(hs:Jl sl (xs.map .int)):vA [sl]=.ret (.sh (.bl (Zi xs))):=by
 by_cases hl:xs.length=3
 ·match xs,hl with
  | [a,b,c],_=>have h:Zi [a,b,c]=(aG a && aG b && DF c):=rfl;rw[h];rcases hs with rfl|rfl<;>cases ea:aG a<;>cases eb:aG b<;>cases ec:DF c<;>simp[vA,xw,Ñ,ZW,V6,ea,eb,ec]
 ·have h:Zi xs=false:=by
   unfold Zi;split
   ·simp at hl
   ·rfl
  rw[h];have Qz:¬((xs.length:Nat):Int)=3:=by lia
  rcases hs with rfl|rfl<;>simp[vA,xw,Ñ,Qz]
def V7{xs:List Int}{sl:di}(hs:Jl sl (xs.map .int)):qm [sl]=.ret (.sh (.bl (Zf xs))):=by
 by_cases hl:xs.length=5
 ·match xs,hl with
  | [a,b,c,d,e],_=>have h:Zf [a,b,c,d,e]=(aG a && aG b && aG c && aG d && DF e):=rfl;rw[h];have hc:bx ([.int a,.int b,.int c,.int d,.int e]:List PV) none (some 4)=[.int a,.int b,.int c,.int d]:=rfl;have hb:=Yy (aG a) (aG b) (aG c) (aG d);rcases hs with rfl|rfl<;>cases ea:(aG a && aG b && aG c && aG d)<;>cases ec:DF e<;>rw[ea] at hb<;>simp[qm,xx,Ñ,ZW,V6,hc,ϊ,hb,ec]
 ·have h:Zf xs=false:=by
   unfold Zf;split
   ·simp at hl
   ·rfl
  rw[h];have Qz:¬((xs.length:Nat):Int)=5:=by lia
  rcases hs with rfl|rfl<;>simp[qm,xx,Ñ,Qz]
def YA(a b c d:Int):da (.lst [.int a,.int b]) (.lst [.int c,.int d])=some (.bl (!(decide (a=c) && decide (b=d)))):=by
 have h:bH (.lst [.int a,.int b]) (.lst [.int c,.int d])=(decide (a=c) && decide (b=d)):=by simp[bH,j_];rw[lq];simp
 unfold da ng;rw[h];simp[ť,aB,kT,jr]
def V8{xs:List Int}(hl:¬xs.length=5):Zf xs=false:=by
 unfold Zf;split
 ·simp at hl
 ·rfl
def Uu{s:di}{ps:List PV}(h:Jl s ps):bg s=some s:=by rcases h with rfl|rfl<;>rfl
def YB{xs:List Int}{sl:di}(hs:Jl sl (xs.map .int)):vB [sl]=.ret (.sh (.bl (Zb xs))):=by
 have he:=V7 hs;by_cases hl:xs.length=5
 ·match xs,hl with
  | [a,b,c,d,e],_=>have h:Zb [a,b,c,d,e]=(Zf [a,b,c,d,e] && !(decide (a=c) && decide (b=d))):=rfl;rw[h];have h1:bx ([.int a,.int b,.int c,.int d,.int e]:List PV) none (some 2)=[.int a,.int b]:=rfl;have h2:bx ([.int a,.int b,.int c,.int d,.int e]:List PV) (some 2) (some 4)=[.int c,.int d]:=rfl;have h3:=YA a b c d;generalize Zf [a,b,c,d,e]=q at*;generalize (!(decide (a=c) && decide (b=d)))=r at*;rcases hs with rfl|rfl<;>cases q<;>simp_all [vB,xy,Ñ]
 ·have h:Zb xs=false:=by
   unfold Zb;split
   ·simp at hl
   ·rfl
  rw[h];rw[V8 hl] at he;simp[vB,xy,Ñ,Uu hs,he]
def YC{xs:List Int}{sl:di}(hs:Jl sl (xs.map .int)):AF [sl]=.ret (.sh (.bl (Za xs))):=by
 have he:=V7 hs;by_cases hl:xs.length=5
 ·match xs,hl with
  | [a,b,c,d,e],_=>have h:Za [a,b,c,d,e]=(Zf [a,b,c,d,e] && decide (a<c) && decide (b<d)):=rfl;rw[h];generalize Zf [a,b,c,d,e]=q at*;rcases hs with rfl|rfl<;>simp only[á,Ũ] at he<;>cases q<;>by_cases h1:a<c<;>by_cases h2:b<d<;>simp[AF,CO,Ñ,he,h1,h2]
 ·have h:Za xs=false:=by
   unfold Za;split
   ·simp at hl
   ·rfl
  rw[h];rw[V8 hl] at he;simp[AF,CO,Ñ,Uu hs,he]
def ZS(a b c:Int):Fx [.sh (.lst [.int a,.int b,.int c])]=.ret (.sh (.bl (aG a && aG b && xM c))):=by unfold xM;cases ea:aG a<;>cases eb:aG b<;>by_cases h1:0<=c<;>by_cases h2:c<=1000000000<;>simp[Fx,HB,Ñ,ZW,ea,eb,h1,h2]
def YD{xs:List Int}{sl:di}(hs:Jl sl (xs.map .int)):vC [sl]=.ret (.sh (.bl (Zc xs))):=by
 by_cases hl:xs.length=9
 ·match xs,hl with
  | [a,b,c,d,e,f,g,h,i],_=>have hc:Zc [a,b,c,d,e,f,g,h,i]=((aG a && aG b && xM c) && (aG d && aG e && xM f) && (aG g && aG h && xM i)):=rfl;rw[hc];have h1:bx ([.int a,.int b,.int c,.int d,.int e,.int f,.int g,.int h,.int i]:List PV) (some 0) (some 3)=[.int a,.int b,.int c]:=rfl;have h2:bx ([.int a,.int b,.int c,.int d,.int e,.int f,.int g,.int h,.int i]:List PV) (some 3) (some 6)=[.int d,.int e,.int f]:=rfl;have h3:bx ([.int a,.int b,.int c,.int d,.int e,.int f,.int g,.int h,.int i]:List PV) (some 6) (some 9)=[.int g,.int h,.int i]:=rfl;have hb:=Yx (aG a && aG b && xM c) (aG d && aG e && xM f) (aG g && aG h && xM i);have k1:=ZS a b c;have k2:=ZS d e f;have k3:=ZS g h i;generalize (aG a && aG b && xM c)=q1,(aG d && aG e && xM f)=q2,(aG g && aG h && xM i)=q3 at*;rcases hs with rfl|rfl<;>simp[vC,xz,Ñ,ϊ,h1,h2,h3,k1,k2,k3,hb]
 ·have h:Zc xs=false:=by
   unfold Zc;split
   ·simp at hl
   ·rfl
  rw[h];have Qz:¬((xs.length:Nat):Int)=9:=by lia
  rcases hs with rfl|rfl<;>simp[vC,xz,Ñ,Qz]
def Zz(w:Str):String:=if w= "post" then "Post" else if w= "fence" then "Fence" else if w= "sail" then "Sail" else if w= "cloth" then "Cloth" else "House"
def Zs(C:String)(w:Str)(xs:List Int):PV:=.ins C ["word","numbers"] [.str w,.lst (xs.map .int)]
def Qqj6(w:Str)(xs:List Int):Bool:=if w= "post" then Zi xs else if w= "fence" then Zb xs else if w= "sail" then Za xs else if w= "cloth" then Zc xs else if w= "house" then Za xs else false
def wn:((Ä "word")=(Ä "numbers"))=False:=eq_false (by decide +kernel)
def ZK{C:String}(hC:(["Thing","Post","Fence","Sail","Cloth","House"]:List String).contains C=true)(w:Str){xs:List Int}{sl:di}(hs:Jl sl (xs.map .int)):bj 3 3 C fk [.sh (.str w),sl]=.ok ["word","numbers"] [.str w,.lst (xs.map .int)]:=by rcases hs with rfl|rfl<;>simp[bj,fk,aD,IR.of,Ñ,putN,nq,hC,wn,-List.contains_eq_mem,-iG]
def s1:č (Ä "post")=true:=by decide +kernel
def s2:č (Ä "fence")=true:=by decide +kernel
def s3:č (Ä "sail")=true:=by decide +kernel
def s4:č (Ä "cloth")=true:=by decide +kernel
def s5:č (Ä "house")=true:=by decide +kernel
def YE:(Ä "post" =Ä "fence")=False:=eq_false (by decide +kernel)
def YF:(Ä "post" =Ä "sail")=False:=eq_false (by decide +kernel)
def YG:(Ä "post" =Ä "cloth")=False:=eq_false (by decide +kernel)
def YH:(Ä "post" =Ä "house")=False:=eq_false (by decide +kernel)
def YI:(Ä "fence" =Ä "sail")=False:=eq_false (by decide +kernel)
def YJ:(Ä "fence" =Ä "cloth")=False:=eq_false (by decide +kernel)
def YK:(Ä "fence" =Ä "house")=False:=eq_false (by decide +kernel)
def YL:(Ä "sail" =Ä "cloth")=False:=eq_false (by decide +kernel)
def YM:(Ä "sail" =Ä "house")=False:=eq_false (by decide +kernel)
def YN:(Ä "cloth" =Ä "house")=False:=eq_false (by decide +kernel)
def V9{w:Str}(hw:č w=true){xs:List Int}{sl:di}(hs:Jl sl (xs.map .int)):dG [.sh (.str w),sl]=if Qqj6 w xs=true then .ret (.sh (Zs (Zz w) w xs)) else .exc ⟨"BadThing",[],[]⟩:=by
 have e1:=ŕ hw s1;have e2:=ŕ hw s2;have e3:=ŕ hw s3;have e4:=ŕ hw s4;have e5:=ŕ hw s5;have p1:=Yz hs;have p2:=YB hs;have p3:=YC hs;have p4:=YD hs;have i1:tF [.sh (.str w),sl]=_:=ZK (by decide) w hs;have i2:nP [.sh (.str w),sl]=_:=ZK (by decide) w hs;have i3:tH [.sh (.str w),sl]=_:=ZK (by decide) w hs;have i4:nQ [.sh (.str w),sl]=_:=ZK (by decide) w hs;have i5:nR [.sh (.str w),sl]=_:=ZK (by decide) w hs;have Ea:=Uu hs;unfold Qqj6 Zz Zs;by_cases h1:w=Ä "post"
 ·have n2:¬w=Ä "fence" := λz=>(YE▸(h1.symm.trans z):False);have n3:¬w=Ä "sail" := λz=>(YF▸(h1.symm.trans z):False);have n4:¬w=Ä "cloth" := λz=>(YG▸(h1.symm.trans z):False);have n5:¬w=Ä "house" := λz=>(YH▸(h1.symm.trans z):False);rw[decide_eq_true h1] at e1;rw[decide_eq_false n2] at e2;rw[decide_eq_false n3] at e3;rw[decide_eq_false n4] at e4;rw[decide_eq_false n5] at e5;have hg:(if w=Ä "post" then Zi xs else if w=Ä "fence" then Zb xs else if w=Ä "sail" then Za xs else if w=Ä "cloth" then Zc xs else if w=Ä "house" then Za xs else false)=Zi xs:=by rw[if_pos h1]
  have hc:(if w=Ä "post" then "Post" else if w=Ä "fence" then "Fence" else if w=Ä "sail" then "Sail" else if w=Ä "cloth" then "Cloth" else "House")= "Post" := by rw[if_pos h1]
  rw[hg,hc];cases q:Zi xs<;>rw[q] at p1<;>simp[dG,il,bE,Ñ,e1,e2,e3,e4,e5,Ea,p1,i1]
 ·skip
  by_cases h2:w=Ä "fence"
  ·have n1:=h1;have n3:¬w=Ä "sail" := λz=>(YI▸(h2.symm.trans z):False);have n4:¬w=Ä "cloth" := λz=>(YJ▸(h2.symm.trans z):False);have n5:¬w=Ä "house" := λz=>(YK▸(h2.symm.trans z):False);rw[decide_eq_true h2] at e2;rw[decide_eq_false n1] at e1;rw[decide_eq_false n3] at e3;rw[decide_eq_false n4] at e4;rw[decide_eq_false n5] at e5;have hg:(if w=Ä "post" then Zi xs else if w=Ä "fence" then Zb xs else if w=Ä "sail" then Za xs else if w=Ä "cloth" then Zc xs else if w=Ä "house" then Za xs else false)=Zb xs:=by rw[if_neg n1,if_pos h2]
   have hc:(if w=Ä "post" then "Post" else if w=Ä "fence" then "Fence" else if w=Ä "sail" then "Sail" else if w=Ä "cloth" then "Cloth" else "House")= "Fence" := by rw[if_neg n1,if_pos h2]
   rw[hg,hc];cases q:Zb xs<;>rw[q] at p2<;>simp[dG,il,bE,Ñ,e1,e2,e3,e4,e5,Ea,p2,i2]
  ·skip
   by_cases h3:w=Ä "sail"
   ·have n1:=h1;have n2:=h2;have n4:¬w=Ä "cloth" := λz=>(YL▸(h3.symm.trans z):False);have n5:¬w=Ä "house" := λz=>(YM▸(h3.symm.trans z):False);rw[decide_eq_true h3] at e3;rw[decide_eq_false n1] at e1;rw[decide_eq_false n2] at e2;rw[decide_eq_false n4] at e4;rw[decide_eq_false n5] at e5;have hg:(if w=Ä "post" then Zi xs else if w=Ä "fence" then Zb xs else if w=Ä "sail" then Za xs else if w=Ä "cloth" then Zc xs else if w=Ä "house" then Za xs else false)=Za xs:=by rw[if_neg n1,if_neg n2,if_pos h3]
    have hc:(if w=Ä "post" then "Post" else if w=Ä "fence" then "Fence" else if w=Ä "sail" then "Sail" else if w=Ä "cloth" then "Cloth" else "House")= "Sail" := by rw[if_neg n1,if_neg n2,if_pos h3]
    rw[hg,hc];cases q:Za xs<;>rw[q] at p3<;>simp[dG,il,bE,Ñ,e1,e2,e3,e4,e5,Ea,p3,i3]
   ·skip
    by_cases h4:w=Ä "cloth"
    ·have n1:=h1;have n2:=h2;have n3:=h3;have n5:¬w=Ä "house" := λz=>(YN▸(h4.symm.trans z):False);rw[decide_eq_true h4] at e4;rw[decide_eq_false n1] at e1;rw[decide_eq_false n2] at e2;rw[decide_eq_false n3] at e3;rw[decide_eq_false n5] at e5;have hg:(if w=Ä "post" then Zi xs else if w=Ä "fence" then Zb xs else if w=Ä "sail" then Za xs else if w=Ä "cloth" then Zc xs else if w=Ä "house" then Za xs else false)=Zc xs:=by rw[if_neg n1,if_neg n2,if_neg n3,if_pos h4]
     have hc:(if w=Ä "post" then "Post" else if w=Ä "fence" then "Fence" else if w=Ä "sail" then "Sail" else if w=Ä "cloth" then "Cloth" else "House")= "Cloth" := by rw[if_neg n1,if_neg n2,if_neg n3,if_pos h4]
     rw[hg,hc];cases q:Zc xs<;>rw[q] at p4<;>simp[dG,il,bE,Ñ,e1,e2,e3,e4,e5,Ea,p4,i4]
    ·skip
     by_cases h5:w=Ä "house"
     ·have n1:=h1;have n2:=h2;have n3:=h3;have n4:=h4;rw[decide_eq_true h5] at e5;rw[decide_eq_false n1] at e1;rw[decide_eq_false n2] at e2;rw[decide_eq_false n3] at e3;rw[decide_eq_false n4] at e4;have hg:(if w=Ä "post" then Zi xs else if w=Ä "fence" then Zb xs else if w=Ä "sail" then Za xs else if w=Ä "cloth" then Zc xs else if w=Ä "house" then Za xs else false)=Za xs:=by rw[if_neg n1,if_neg n2,if_neg n3,if_neg n4,if_pos h5]
      have hc:(if w=Ä "post" then "Post" else if w=Ä "fence" then "Fence" else if w=Ä "sail" then "Sail" else if w=Ä "cloth" then "Cloth" else "House")= "House" := by rw[if_neg n1,if_neg n2,if_neg n3,if_neg n4]
      rw[hg,hc];cases q:Za xs<;>rw[q] at p3<;>simp[dG,il,bE,Ñ,e1,e2,e3,e4,e5,Ea,p3,i5]
     ·skip
      rw[decide_eq_false h1] at e1;rw[decide_eq_false h2] at e2;rw[decide_eq_false h3] at e3;rw[decide_eq_false h4] at e4;rw[decide_eq_false h5] at e5;rw[if_neg h1,if_neg h2,if_neg h3,if_neg h4,if_neg h5];simp[dG,il,bE,Ñ,e1,e2,e3,e4,e5]
abbrev P3:=Int×Int×Int
def c3(p:P3):PV:=.tup [.int p.1,.int p.2.1,.int p.2.2]
abbrev Th:=Str×List Int
def Ϧ(t:Th):PV:=Zs (Zz t.1) t.1 t.2
def h_:Option P3->PV
 |none=>.non
 |some r=>c3 r
abbrev Dy:=Str×Int×List (Option P3)
def jP(d:Dy):PV:=.tup [.str d.1,.int d.2.1,.lst (d.2.2.map h_)]
def Zk(w h:Int)(T:List Th)(D:List Dy):PV:=.ins "Yard" ["width","height","things","days"] [.int w,.int h,.lst (T.map Ϧ),.lst (D.map jP)]
def Wa:(Ä "width" =Ä "height")=False:=eq_false (by decide +kernel)
def Wb:(Ä "width" =Ä "things")=False:=eq_false (by decide +kernel)
def Wc:(Ä "width" =Ä "days")=False:=eq_false (by decide +kernel)
def We:(Ä "height" =Ä "things")=False:=eq_false (by decide +kernel)
def Wf:(Ä "height" =Ä "days")=False:=eq_false (by decide +kernel)
def Wg:(Ä "things" =Ä "days")=False:=eq_false (by decide +kernel)
def Rr(w h:Int)(T:List Th)(D:List Dy):ī ["Yard"] (Ä "width") (Zk w h T D)=some (.int w):=by unfold ī Zk;simp
def Rs(w h:Int)(T:List Th)(D:List Dy):ī ["Yard"] (Ä "height") (Zk w h T D)=some (.int h):=by
 have:(Ä "height" == Ä "width")=false:=by decide +kernel
 unfold ī Zk;simp[İ,this]
def Nu(w h:Int)(T:List Th)(D:List Dy):ī ["Yard"] (Ä "things") (Zk w h T D)=some (.lst (T.map Ϧ)):=by
 have e1:(Ä "things" == Ä "width")=false:=by decide +kernel
 have e2:(Ä "things" == Ä "height")=false:=by decide +kernel
 unfold ī Zk;simp[İ,e1,e2]
def Uv(w h:Int)(T:List Th)(D:List Dy):ī ["Yard"] (Ä "days") (Zk w h T D)=some (.lst (D.map jP)):=by
 have e1:(Ä "days" == Ä "width")=false:=by decide +kernel
 have e2:(Ä "days" == Ä "height")=false:=by decide +kernel
 have e3:(Ä "days" == Ä "things")=false:=by decide +kernel
 unfold ī Zk;simp[İ,e1,e2,e3]
def YO(D:List Dy)(hD:D.length<=100000)(s0 s1 s2:di):ϊ (gT 3 (ř (gN 0) (ř (gN 1) (ř (gN 2) kz)))) ś (gQ (Í (Ĉ 0) (Í (Ĉ 1) (Í (ä (oQ fh (Í (Ì 2) å))) å)))) (D.map jP) [s0,s1,s2] []=some (D.map jP):=by
 have h:=Ű (g:=gT 3 (ř (gN 0) (ř (gN 1) (ř (gN 2) kz)))) (mt:=ś) (me:=gQ (Í (Ĉ 0) (Í (Ĉ 1) (Í (ä (oQ fh (Í (Ì 2) å))) å)))) jP jP (λU=>∃a b c,U=[a,b,c]) D [s0,s1,s2] [] ⟨_,_,_,rfl⟩ (by simp;lia) (by
  rintro d _ U ⟨a,b,c,rfl⟩;refine⟨[.sh (.str d.1),.sh (.int d.2.1),.sh (.lst (d.2.2.map h_))],[.sh (.str d.1),.sh (.int d.2.1),.sh (.lst (d.2.2.map h_))],[.sh (.str d.1),.sh (.int d.2.1),.sh (.lst (d.2.2.map h_))],by simp[jP],rfl,by simp[jP],_,_,_,rfl⟩)
 simpa using h
def Wh(w h:Int){T:List Th}{D:List Dy}(hT:T.length<=100000)(hD:D.length<=100000){s3 s4:di}(h3:Sl s3 (T.map Ϧ))(h4:Sl s4 (D.map jP)):bZ [.sh (.int w),.sh (.int h),s3,s4]=.ok ["width","height","things","days"] [.int w,.int h,.lst (T.map Ϧ),.lst (D.map jP)]:=by have c:=YO D hD .no .no .no;generalize hx:T.map Ϧ=tx at*;generalize hy:D.map jP=dx at*;rcases h3 with rfl|rfl<;>rcases h4 with rfl|rfl<;>simp[bZ,bj,zE,aD,IR.of,Ñ,putN,nq,Wa,Wb,Wc,We,Wf,Wg,c,OS,Fd]
def nT(n:Int):List Nat:=(Ä (ϙ n)).cps.toList
def Wi(n:Int):Ä (ϙ n)=S (nT n):=ao (by simp[nT])
def Uw(m:Nat):nT (m:Int)=(Ŝ 10 m).map ŵ:=PySem.W.KIN.signs_num m
def Wj(m:Nat)(h:0<m):nT (-(m:Int))=45::(Ŝ 10 m).map ŵ:=by obtain⟨k,rfl⟩:∃k,m=k+1:=⟨m-1,by lia⟩;unfold nT;rw[PyProof.Rows.signs_ofString];show("-" ++ Nat.repr (k+1)).toList.map ŵ=_;rw[String.toList_append,Nat.toList_repr];rfl
def Ux{m c:Nat}(h:c∈(Ŝ 10 m).map ŵ):48<=c/\c<=57:=by obtain⟨ch,AX,e⟩:=ĸ.mp h;have r:=PyProof.Rows.digit_range (Nat.isDigit_of_mem_toDigits (by decide) (by decide) AX);rw[<-e];exact r
def ZX:∀(m:Nat),0<m->∃c r,(Ŝ 10 m).map ŵ=c::r/\c≠48:=by
 intro m
 induction m using Nat.strongRecOn with
 |_ m ih=>
  intro h0;by_cases h:m<10
  ·rw[Nat.toDigits_of_lt_base h];exact⟨_,[],rfl,by
    have:∀d:Nat,d<10->0<d->(Nat.digitChar d).toNat≠48:=by decide
    exact this m h h0⟩
  ·have hm:m % 10<10:=Nat.mod_lt m (by decide);have t:Ŝ 10 (m / 10)++Ŝ 10 (m % 10)=Ŝ 10 (10*(m / 10)+m % 10):=Nat.toDigits_append_toDigits (by decide) (by lia) hm;rw[Nat.div_add_mod] at t;obtain⟨c,r,e,hc⟩:=ih (m / 10) (by lia) (by lia);rw[<-t,ŀ,e];exact⟨c,_,rfl,hc⟩
def ZL{m:Nat}(h:m<10 ^ 10):1<=((Ŝ 10 m).map ŵ).length/\((Ŝ 10 m).map ŵ).length<=10:=by
 have h1:=PySem.W.KT.len_num (n:=(m:Int)) (by lia) (by lia);have e:(Ä (ϙ (m:Int))).length=(nT (m:Int)).length:=by simp[nT,Ϙ]
 rw[e,Uw] at h1;refine⟨?_,h1⟩;by_cases h0:m=0
 ·subst h0;decide
 ·obtain⟨c,r,e,_⟩:=ZX m (by lia);rw[e];simp
def ZY{n:Int}(h1: -10000000000<n)(h2:n<10000000000):∃(b:Bool) (ds:List Nat),nT n=(if b then[45] else[])++ds/\(∀c∈ds,48<=c/\c<=57)/\1<=ds.length/\ds.length<=10/\(nT n=[48]\/∃c r,ds=c::r/\c≠48):=by
 rcases Int.lt_or_le n 0 with h|h
 ·obtain⟨m,rfl⟩:∃m:Nat,n= -(m:Int):=⟨(-n).toNat,by lia⟩;obtain⟨l1,l2⟩:=ZL (m:=m) (by lia);exact⟨true,_,Wj m (by lia),λc hc=>Ux hc,l1,l2,.inr (ZX m (by lia))⟩
 ·obtain⟨m,rfl⟩:=xV h;obtain⟨l1,l2⟩:=ZL (m:=m) (by lia);refine⟨false,_,Uw m,λc hc=>Ux hc,l1,l2,?_⟩;by_cases h0:m=0
  ·left
   subst h0;rfl
  ·exact .inr (ZX m (by lia))
def ZZ{n:Int}(h1: -10000000000<n)(h2:n<10000000000):∀c∈nT n,c=45\/(48<=c/\c<=57):=by
 obtain⟨b,ds,e,hd,_⟩:=ZY h1 h2;rw[e];intro c hc;rcases ah.mp hc with hc|hc
 ·cases b
  ·cases hc
  ·left;simpa using hc
 ·exact .inr (hd c hc)
def ZA{n:Int}(h1: -10000000000<n)(h2:n<10000000000):1<=(nT n).length/\(nT n).length<=11:=by obtain⟨b,ds,e,_,l1,l2,_⟩:=ZY h1 h2;rw[e];cases b<;>simp<;>lia
def YQ{n:Int}(h1: -10000000000<n)(h2:n<10000000000):i_ (S (nT n))=some n:=by
 have key:∀m:Nat,PySem.NumText.AllDigits ((Ŝ 10 m).map ŵ):=λm c hc=>Ux hc;have ne:∀m:Nat,m<10 ^ 10->(Ŝ 10 m).map ŵ≠[]:=λm hm e=>by have:=(ZL hm).1;rw[e] at this;cases this
 rcases Int.lt_or_le n 0 with h|h
 ·obtain⟨m,rfl⟩:∃m:Nat,n= -(m:Int):=⟨(-n).toNat,by lia⟩;have l2:=(ZL (m:=m) (by lia)).2;rw[Wj m (by lia)];have:=PySem.intText_neg (x:=S (45::(Ŝ 10 m).map ŵ)) rfl (key m) (ne m (by lia)) (by show(45::(Ŝ 10 m).map ŵ).toArray.size<=4300;simp at l2 ⊢;lia);rw[this,yI]
 ·obtain⟨m,rfl⟩:=xV h;have l2:=(ZL (m:=m) (by lia)).2;rw[Uw m];have:=PySem.intText_digits (x:=S ((Ŝ 10 m).map ŵ)) (key m) (ne m (by lia)) (by show((Ŝ 10 m).map ŵ).toArray.size<=4300;simp at l2 ⊢;lia);rw[this];show some (((PySem.NumText.digitsVal ((Ŝ 10 m).map ŵ):Nat)):Int)=_;rw[yI]
def sV(l:List Nat):PV:=.str (S l)
def DG(l:List Nat):Prop:=∀c∈l,c<1000
def DG.ok{l:List Nat}(h:DG l):č (S l)=true:=by
 unfold č;rw[Array.all_eq_true];intro i hi;have RT:i<l.length:=by simpa using hi
 have:=h l[i] (qB RT);simp;lia
def Zd(l:List Nat):(S l).length=l.length:=by simp[Ϙ]
def YS{l:List Nat}(h:l.length<=1000000):bY [.str (S l)]=some (.int l.length):=by
 have hz:(S l).length<=16777216:=by rw[Zd];lia
 show(if(S l).length<=16777216 then some (PV.int (S l).length) else none)=_;rw[if_pos hz,Zd]
def Wk{l:List Nat}(hl:l.length<=100000)(sg:Str)(k:Int):nN [.sh (sV l),.sh (.str sg),.sh (.int k)]=.ret (.sh (.bl (decide (1<=(l.length:Int)) && decide ((l.length:Int)<=k) && l.all λc=>decide (c∈sg.cps.toList)))):=by
 have c1:ϊ (gN 1) ś (Þ D0 (Ì 1) (Ì 0)) (l.map λc=>PV.str ⟨#[c]⟩) [.sh (.str sg),.no] []=some ((l.map λc=>decide (c∈sg.cps.toList)).map .bl):=by
  have:=Ű (g:=gN 1) (mt:=ś) (me:=Þ D0 (Ì 1) (Ì 0)) (λc=>PV.str ⟨#[c]⟩) (λc=>PV.bl (decide (c∈sg.cps.toList))) (λU=>∃s,U=[.sh (.str sg),s]) l [.sh (.str sg),.no] [] ⟨_,rfl⟩ (by simp;lia) (by
   rintro x hx U ⟨s,rfl⟩;exact⟨[.sh (.str sg),.sh (.str ⟨#[x]⟩)],_,[.sh (.str sg),.sh (.str ⟨#[x]⟩)],by simp,rfl,by simp,_,rfl⟩)
  rw[this];simp
 have c2:=V5 (l.map λc=>decide (c∈sg.cps.toList));have c3:((l.map λc=>decide (c∈sg.cps.toList)).all id)=l.all λc=>decide (c∈sg.cps.toList):=by rw[List.all_map];rfl
 rw[c3] at c2;generalize (l.map λc=>decide (c∈sg.cps.toList)).map PV.bl=bs at c1 c2;generalize (l.all λc=>decide (c∈sg.cps.toList))=q at*;have e:(S l).cps.toList=l:=by simp
 have hz:=YS (l:=l) (by lia);unfold sV;by_cases h1:1<=(l.length:Int)
 ·by_cases h2:(l.length:Int)<=k
  ·simp[nN,tz,Ñ,hz,h1,h2,e,c1,c2]
  ·simp[nN,tz,Ñ,hz,h1,h2,e]
 ·simp[nN,tz,Ñ,hz,h1,e]
def Wl(l:List Nat)(c:Nat){y:Str}(hy:y=S [c]):jy (.str (S l)) [.str y]=some (.bl (decide (l.take 1=[c]))):=by rw[hy];rfl
def YU:Ä "-" =S [45]:=by decide +kernel
def YV:Ä "0" =S [48]:=by decide +kernel
def P4{α:Type}(xs:List α)(k:Nat)(hk:k<=xs.length):bx xs (some (k:Int)) none=xs.drop k:=by unfold bx;rw[HT.yP,HT.uE,Nat.min_eq_left hk];exact xW (by simp)
def YW{n:Int}(h1: -10000000000<n)(h2:n<10000000000):jF [.sh (sV (nT n))]=.ret (.sh (.bl true)):=by
 obtain⟨b,ds,e,hd,l1,l2,h0⟩:=ZY h1 h2;have md:=Wk (l:=ds) (by lia) "0123456789" 10;have al:(ds.all λc=>decide (c∈(Ä "0123456789").cps.toList))=true:=by
  rw[cx];intro c hc;have:=hd c hc;have e9:(Ä "0123456789").cps.toList=[48,49,50,51,52,53,54,55,56,57]:=by decide +kernel
  rw[e9];simp;lia
 rw[al] at md;have Vt:1<=(ds.length:Int):=by lia
 have Uy:(ds.length:Int)<=10:=by lia
 simp only[Vt,Uy,decide_true,Bool.and_self] at md;have pl:DG (nT n):=λc hc=>by rcases ZZ h1 h2 c hc with h|h<;>lia
 have YX:č (Ä "0")=true:=by decide +kernel
 have QA:=Wl (nT n) 45 YU;have zU:=Wl ds 48 YV;have Rt:Ŀ (.str (S (nT n))) (.str (Ä "0"))=some (.bl (decide (S (nT n)=Ä "0"))):=ŕ pl.ok YX;have nl:=ZA h1 h2;have hz:(S (nT n)).length<=16777216:=by rw[Zd];lia
 have tm:nT n=[48]->decide (S (nT n)=Ä "0")=true:=λh=>by rw[h];decide +kernel
 unfold sV at md ⊢;cases b with
 |true=>
  have e':nT n=45::ds:=e;have t1:decide ((nT n).take 1=[45])=true:=by rw[e'];simp
  rw[t1] at QA;have sl:QN (.str (S (nT n))) (some 1) none=some (.sh (.str (S ds))):=by show(if(S (nT n)).length<=16777216 then some (RV.sh (.str (S (bx (S (nT n)).cps.toList (some 1) none)))) else none)=_;rw[if_pos hz,e'];have:bx (45::ds) (some 1) none=ds:=P4 (45::ds) 1 (by simp);show some (RV.sh (.str (S (bx (45::ds) (some 1) none))))=_;rw[this]
  have hh:∃c r,ds=c::r/\c≠48:=by
   rcases h0 with h|h
   ·rw[e'] at h;cases h
   ·exact h
  obtain⟨c,r,ec,hc⟩:=hh;have t2:decide (ds.take 1=[48])=false:=by rw[ec];simpa using hc
  rw[t2] at zU;generalize decide (S (nT n)=Ä "0")=qq at*;generalize S (nT n)=N,S ds=DS at*;cases qq<;>simp[jF,tD,Ñ,QA,zU,sl,md,Rt]
 |false=>
  have e':nT n=ds:=e;have t1:decide ((nT n).take 1=[45])=false:=by
   rw[e'];cases Xo:ds with
   |nil=>rw[Xo] at l1;cases l1
   |cons a r=>have:=hd a (by rw[Xo];simp);simp;lia
  rw[t1] at QA;rw[<-e'] at md zU;rcases h0 with h|⟨c,r,ec,hc⟩
  ·rw[tm h] at Rt;generalize S (nT n)=N at*;simp[jF,tD,Ñ,QA,zU,md,Rt]
  ·have t2:decide ((nT n).take 1=[48])=false:=by rw[e',ec];simpa using hc
   rw[t2] at zU;generalize decide (S (nT n)=Ä "0")=qq at*;generalize S (nT n)=N at*;cases qq<;>simp[jF,tD,Ñ,QA,zU,md,Rt]
def Nb(n:Int):Prop:=-10000000000<n/\n<10000000000
def ģ(n:Int):PV:=sV (nT n)
def Wm{ns:List Int}(hn:∀n∈ns,Nb n)(hl:ns.length<=1000){sl:di}(hs:Sl sl (ns.map ģ)):vx [sl]=.ret (.ow (ns.map .int)):=by
 have c1:ϊ (gN 0) ś (ä (Ĕ jF (é 0 ý))) (ns.map ģ) [.no] []=some ((ns.map λ_=>true).map .bl):=by
  have:=Ű (g:=gN 0) (mt:=ś) (me:=ä (Ĕ jF (é 0 ý))) ģ (λ_=>PV.bl true) (λU=>∃s,U=[s]) ns [.no] [] ⟨_,rfl⟩ (by simp;lia) (by
   rintro x hx U ⟨s,rfl⟩;have e:=YW (hn x hx).1 (hn x hx).2;change jF [.sh (ģ x)]=_ at e;exact⟨[.sh (ģ x)],_,[.sh (ģ x)],by simp,rfl,by simp[e],_,rfl⟩)
  rw[this];simp[lr]
 have c2:ϊ (gN 0) ś (bt fj (Í (Ì 0) å)) (ns.map ģ) [.no] []=some (ns.map .int):=by
  have:=Ű (g:=gN 0) (mt:=ś) (me:=bt fj (Í (Ì 0) å)) ģ PV.int (λU=>∃s,U=[s]) ns [.no] [] ⟨_,rfl⟩ (by simp;lia) (by
   rintro x hx U ⟨s,rfl⟩;have e1:=YQ (hn x hx).1 (hn x hx).2;have e2:=ZA (hn x hx).1 (hn x hx).2;have e:fj [ģ x]=some (.int x):=by show(if(S (nT x)).length<=640 then(i_ (S (nT x))).map PV.int else none)=_;rw[if_pos (by rw[Zd];lia),e1];rfl
   exact⟨[.sh (ģ x)],_,[.sh (ģ x)],by simp,rfl,by simp[e],_,rfl⟩)
  rw[this];simp
 have c3:=V5 (ns.map λ_=>true);have c4:((ns.map λ_=>true).all id)=true:=by simp
 rw[c4] at c3;have it:=hs.it (i:=0) (U:= [sl]) rfl;generalize (ns.map λ_=>true).map PV.bl=bs at*;generalize ns.map ģ=X at*;simp[vx,CC,Ñ,-Ky,it,c1,c2,c3]
def ZE{ns:List Int}(hn:∀n∈ns,Nb n)(hl:ns.length<=1000){sl:di}(hs:Sl sl (ns.map ģ))(k:Int):nO [sl,.sh (.int k)]=.ret (.ow (ns.map .int)):=by have e:=Wm hn hl hs;generalize ns.map PV.int=X at*;simp[nO,CD,Ñ,hs.lend,e,Kx]
def Ru{α:Type}(x:α)(xs:List α):bx (x::xs) (some 1) none=xs:=P4 (x::xs) 1 (by simp)
def Wn{a b:Str}(ha:č a=true)(hb:č b=true):da (.str a) (.str b)=some (.bl (!decide (a=b))):=by
 have h:bH (.str a) (.str b)=decide (a=b):=by unfold bH;rfl
 unfold da ng;rw[show ť (.str a)=true by unfold ť;exact ha,show ť (.str b)=true by unfold ť;exact hb,h];rfl
def Wo:č (Ä "yard")=true:=by decide +kernel
def Rv:č (Ä "ray")=true:=by decide +kernel
def YY:č (Ä "night")=true:=by decide +kernel
def Rx:č (Ä "day")=true:=by decide +kernel
def YZ{w h:Int}(hw:1<=w/\w<=20)(hh:1<=h/\h<=20):zD [.sh (.lst [.str "yard",ģ w,ģ h]),.sh (.int 0)]=.ret (.sh (.lst [.int w,.int h])):=by have e:=ZE (ns:=[w,h]) (λn hn=>by simp at hn;unfold Nb;lia) (by simp) (sl:=.sh (.lst ([w,h].map ģ))) (.inl rfl) 0;have ne:=Wn Wo Wo;have c:=Ru (PV.str "yard") [ģ w,ģ h];simp only[á,Ũ] at e;simp[zD,CG,Ñ,ne,c,e,ϊ,hw.1,hw.2,hh.1,hh.2,ZR,nj,az]
def Y_{w:Str}{ns:List Int}(hg:Qqj6 w ns=true)(hw:č w=true)(hn:∀n∈ns,Nb n)(hl:ns.length<=1000)(k:Int){sl:di}(hs:Sl sl (.str w::ns.map ģ)):zK [sl,.sh (.int k)]=.ret (.sh (Zs (Zz w) w ns)):=by have e:=ZE hn hl (sl:=.sh (.lst (ns.map ģ))) (.inl rfl) k;have t:=V9 hw (xs:=ns) (sl:=.bw (ns.map .int)) (.inr rfl);rw[if_pos hg] at t;have c:=Ru (PV.str w) (ns.map ģ);generalize ns.map ģ=X,ns.map PV.int=Y,Zs (Zz w) w ns=TH at*;rcases hs with rfl|rfl<;>simp[zK,CP,Ñ,c,e,t]
def Y3{l:List Nat}(h1:1<=l.length)(h2:l.length<=8)(hc:∀c∈l,97<=c/\c<=122):zH [.sh (sV l)]=.ret (.sh (.bl true)):=by
 have md:=Wk (l:=l) (by lia) "abcdefghijklmnopqrstuvwxyz" 8;have al:(l.all λc=>decide (c∈(Ä "abcdefghijklmnopqrstuvwxyz").cps.toList))=true:=by
  rw[cx];intro c h;have:=hc c h;have e9:(Ä "abcdefghijklmnopqrstuvwxyz").cps.toList=[97,98,99,100,101,102,103,104,105,106,107,108,109,110,111,112,113,114,115,116,117,118,119,120,121,122]:=by decide +kernel
  rw[e9];simp;lia
 rw[al] at md;have Vt:1<=(l.length:Int):=by lia
 have Uy:(l.length:Int)<=8:=by lia
 simp only[Vt,Uy,decide_true,Bool.and_self] at md;simp[zH,CJ,Ñ,md]
def Nm(l:List Nat):Prop:=1<=l.length/\l.length<=8/\∀c∈l,97<=c/\c<=122
def Nm.Wp{l:List Nat}(h:Nm l):DG l:=λc hc=>by have:=h.2.2 c hc;lia
def Y4{l:List Nat}(hm:Nm l){t:Int}(h1:1<=t)(h2:t<=1000000000)(k:Int){sl:di}(hs:Sl sl [.str "day",sV l,ģ t]):zI [sl,.sh (.int k)]=.ret (.ot [sV l,.int t] [] []):=by have e:=ZE (ns:=[t]) (λn hn=>by simp at hn;unfold Nb;lia) (by simp) (sl:=.sh (.lst ([t].map ģ))) (.inl rfl) k;have i:=Y3 hm.1 hm.2.1 hm.2.2;have c:bx [PV.str "day",sV l,ģ t] (some 2) none=[ģ t]:=P4 [PV.str "day",sV l,ģ t] 2 (by simp);simp only[á,Ũ] at e;generalize sV l=L,ģ t=N at*;rcases hs with rfl|rfl<;>simp[zI,CK,Ñ,i,c,e,h1,h2]
def Nv:Option P3->List PV
 |none=>[.str "night"]
 |some r=>[.str "ray",ģ r.1,ģ r.2.1,ģ r.2.2]
def Wq(r:P3):Prop:=-1000000<=r.1/\r.1<=1000000/\ -1000000<=r.2.1/\r.2.1<=1000000/\1<=r.2.2/\r.2.2<=1000000
def ZT:Option P3->Prop
 |none=>True
 |some r=>Wq r
def Y5{r:P3}(h:Wq r):zF [.sh (c3 r)]=.ret (.sh (.bl true)):=by
 obtain⟨h1,h2,h3,h4,h5,h6⟩:=h;have a1:(if r.1<0 then -r.1 else r.1)<=1000000:=by split<;>lia
 have a2:(if r.2.1<0 then -r.2.1 else r.2.1)<=1000000:=by split<;>lia
 simp[zF,CH,Ñ,c3,a1,a2,h5,h6]
def Y6:(Ä "ray" =Ä "night")=False:=eq_false (by decide +kernel)
def Uz{n:Int}(h:Nb n):ť (ģ n)=true:=by
 have pl:DG (nT n):=λc hc=>by rcases ZZ h.1 h.2 c hc with h|h<;>lia
 unfold ģ sV ť;exact pl.ok
def Ry(l:List Nat):kT (sV l)=0:=by unfold sV kT;rfl
def Y7{ws:List PV}{a:Str}(ha:č a=true)(hn:¬a=Ä "night")(hw:aB ws=true)(hd:jr ws=0):Ŀ (.lst (.str a::ws)) (.lst [.str "night"])=some (.bl false):=by
 have h1:bH (.lst (.str a::ws)) (.lst [.str (Ä "night")])=false:=by
  unfold bH j_;have:bH (.str a) (.str (Ä "night"))=false:=by unfold bH;simpa using hn
  rw[this];rfl
 have h2:ť (.lst (.str a::ws))=true:=by unfold ť aB;rw[show ť (.str a)=true by unfold ť;exact ha,hw];rfl
 have h3:ť (.lst [.str (Ä "night")])=true:=by decide +kernel
 have h4:kT (.lst (.str a::ws))=1:=by unfold kT jr;rw[hd];unfold kT;rfl
 unfold Ŀ ng;rw[h1,h2,h3,h4];rfl
def Y8{o:Option P3}(ho:ZT o)(k:Int){sl:di}(hs:Sl sl (Nv o)):vy [sl,.sh (.int k)]=.ret (.sh (h_ o)):=by
 cases o with
 |none=>
  have h3:ť (.lst [.str (Ä "night")])=true:=by decide +kernel
  have e:Ŀ (.lst [.str "night"]) (.lst [.str "night"])=some (.bl true):=by unfold Ŀ ng;rw[jz _ h3,h3];rfl
  change Sl sl [.str "night"] at hs;rcases hs with rfl|rfl<;>simp[vy,xv,Ñ,e,h_]
 |some r=>
  obtain⟨h1,h2,h3,h4,h5,h6⟩:=ho;have e:=ZE (ns:=[r.1,r.2.1,r.2.2]) (λn hn=>by simp at hn;unfold Nb;lia) (by simp) (sl:=.sh (.lst ([r.1,r.2.1,r.2.2].map ģ))) (.inl rfl) k;have i:=Y5 (r:=r) ⟨h1,h2,h3,h4,h5,h6⟩;have c:=Ru (PV.str "ray") [ģ r.1,ģ r.2.1,ģ r.2.2];have ne:=Wn Rv Rv;simp only[á,Ũ] at e;have eq:Ŀ (.lst [.str "ray",ģ r.1,ģ r.2.1,ģ r.2.2]) (.lst [.str "night"])=some (.bl false):=by
   refine Y7 Rv (by rw[Y6];exact id) ?_ ?_
   ·have b1:=Uz (n:=r.1) ⟨by lia,by lia⟩;have b2:=Uz (n:=r.2.1) ⟨by lia,by lia⟩;have b3:=Uz (n:=r.2.2) ⟨by lia,by lia⟩;unfold aB aB aB aB;rw[b1,b2,b3];rfl
   ·unfold ģ jr jr jr jr;rw[Ry,Ry,Ry];rfl
  change Sl sl [.str "ray",ģ r.1,ģ r.2.1,ģ r.2.2] at hs;unfold c3 at i;generalize ģ r.1=A,ģ r.2.1=B,ģ r.2.2=C at*;rcases hs with rfl|rfl<;>simp[vy,xv,Ñ,eq,ne,c,e,i,h_,c3]
@[simp] theorem Z2J{D:List (List PV×List PV)}:bg (.dw D)=some (.dw D):=rfl
abbrev Dz:=List Nat×Int×List (Option P3)
def dD(d:Dz):List PV×List PV:=([sV d.1,.int d.2.1],d.2.2.map h_)
def zV(d:Dz):Dy:=(S d.1,d.2.1,d.2.2)
def Rz(D:List Dz):Bool:=match D.getLast? with
 |some d=>decide (d.2.2.length=0)
 |none=>false
def Wr{D:List Dz}(h0:∀d,D.getLast?=some d->d.2.2.length≠0):Rz D=false:=by
 unfold Rz;split
 ·rename_i d e;simpa using h0 d e
 ·rfl
def Ws{D:List Dz}:kF [.dw (D.map dD)]=.ret (.sh (.bl (Rz D))):=by
 unfold Rz;cases e:D.getLast? with
 |none=>have:D=[]:=List.getLast?_eq_none_iff.mp e;subst this;simp[kF,tE,Ñ]
 |some d=>
  have hl:0<(D.map dD).length:=by
   have:D≠[]:=λz=>by rw[z] at e;cases e
   have:=List.length_pos_iff.mpr this;simp;lia
  have hg:(D.map dD).getLast?=some (dD d):=by rw[List.getLast?_map,e];rfl
  have h2:(dD d).1.length=2:=rfl;have h3:(dD d).2.length=d.2.2.length:=by simp[dD]
  generalize D.map dD=DD at*;by_cases h0:d.2.2.length=0
  ·have:(dD d).2=[]:=lA.mp (by lia);simp[kF,tE,Ñ,hl,hg,h2,this,h0]
  ·have:¬(dD d).2=[]:=λz=>h0 (by rw[<-h3,z];rfl);simp[kF,tE,Ñ,hl,hg,h2,this,h0]
def Y9{D:List Dz}{d:Dz}(hd:D.getLast?=some d)(hl:d.2.2.length<24){o:Option P3}(ho:ZT o)(k:Int){sl:di}(hs:Sl sl (Nv o)):zG [sl,.sh (.int k),.dw (D.map dD)]=.ok (.l 2 (h_ o)):=by
 have e:=Y8 ho k hs;have l0:¬D.map dD=[]:=by
  have:D≠[]:=λz=>by rw[z] at hd;cases hd
  simpa using this
 have hg:(D.map dD).getLast?=some (dD d):=by rw[List.getLast?_map,hd];rfl
 have h2:(dD d).1.length=2:=rfl;have h3:(dD d).2.length=d.2.2.length:=by simp[dD]
 have h4:¬((dD d).2.length:Int)=24:=by lia
 have h5:(dD d).2.length<16777216:=by lia
 generalize D.map dD=DD,dD d=dd at*;simp[zG,CI,cV,ì,Ñ,l0,hg,h2,h4,h5,vj,hs.lend,e,WR.ix]
def Z_(D:List Dz)(hl:D.length<=1000):cb (gD 0 1 2) ś (Ĉ 0) (D.map dD) [.no,.no,.no] []=some (D.map λd=>sV d.1):=by
 have key:∀(D:List Dz) (ag:List PV) (a b c:di),ag.length+D.length<=1000->cb (gD 0 1 2) ś (Ĉ 0) (D.map dD) [a,b,c] ag=some (ag++D.map λd=>sV d.1):=by
  intro D
  induction D with
  |nil=>intro ag a b c _;simp[cb]
  |cons d D ih=>
   intro ag a b c hl;rw[Ĝ] at hl;have h1:ag.length<16777216:=by lia
   have:=ih (ag ++ [sV d.1]) (.sh (sV d.1)) (.sh (.int d.2.1)) (.bw (d.2.2.map h_)) (by simp;lia);rw[á,cb];simp[dD,gD,h1,ś];simpa[dD] using this
 simpa using key D [] .no .no .no (by simpa using hl)
def Z2m{a b:List Nat}:S a=S b↔a=b:=by
 constructor
 ·intro h;have:=congrArg (λs=>s.cps.toList) h;simpa using this
 ·intro h;rw[h]
def Z0F{l:List Nat}(hl:DG l){D:List Dz}(hD:∀d∈D,DG d.1)(h:l∉D.map (·.1)):DV false (sV l) (.lst (D.map λd=>sV d.1))=some (.bl false):=by
 have h1:ť (sV l)=true:=by unfold sV ť;exact hl.ok
 have h2:∀D:List Dz,(∀d∈D,DG d.1)->aB (D.map λd=>sV d.1)=true:=by
  intro D
  induction D with
  |nil=>intro _;rfl
  |cons d D ih=>
   intro hD;rw[á,aB,ih λx hx=>hD x (ù _ hx)];have:ť (sV d.1)=true:=by unfold sV ť;exact(hD d (by simp)).ok
   rw[this];rfl
 have h3:((D.map λd=>sV d.1).any λy=>bH y (sV l))=false:=by rw[List.any_eq_false];intro y hy;obtain⟨d,hd,rfl⟩:=ĸ.mp hy;unfold sV bH;intro z;exact h (ĸ.mpr ⟨d,hd,Z2m.mp (of_decide_eq_true z)⟩)
 unfold DV;dsimp only;rw[h1,h2 D hD,Ry,h3];rfl
def Z1X{D:List Dz}(h0:∀d,D.getLast?=some d->d.2.2.length≠0)(hD:D.length<12)(hp:∀d∈D,DG d.1){l:List Nat}(hm:Nm l)(hn:l∉D.map (·.1)){t:Int}(h1:1<=t)(h2:t<=1000000000)(k:Int){sl:di}(hs:Sl sl [.str "day",sV l,ģ t]):zJ [sl,.sh (.int k),.dw (D.map dD)]=.ok (.d 2 [sV l,.int t]):=by
 have lk:=Ws (D:=D);rw[Wr h0] at lk;have rd:=Y4 hm h1 h2 k hs;have cg:=Z_ D (by lia);have ni:=Z0F hm.Wp hp hn;have l12:¬((D.map dD).length:Int)=12:=by simp;lia
 have UA:(D.map dD).length<16777216:=by simp;lia
 generalize D.map dD=DD at*;generalize D.map (λd=>sV d.1)=NN at*;generalize sV l=L at*;simp[zJ,CL,cV,ì,Ñ,lk,l12,hs.lend,rd,RV.slot,ve,kg,kh,jZ,cg,ni,vi,UA,WR.ix]
def Z1d{T:List PV}(hT:T.length<40){w:Str}{ns:List Int}(hg:Qqj6 w ns=true)(hw:č w=true)(hn:∀n∈ns,Nb n)(hl:ns.length<=1000)(k:Int){sl:di}(hs:Sl sl (.str w::ns.map ģ)):vD [sl,.sh (.int k),.bw T,.dw []]=.ok (.t 2 (Ϧ (w,ns))):=by
 have rt:=Y_ hg hw hn hl k hs;have l40:¬(T.length:Int)=40:=by lia
 have UA:T.length<16777216:=by lia
 change _=FR.ret (.sh (Ϧ (w,ns))) at rt;generalize Ϧ (w,ns)=V at*;simp[vD,CQ,cV,ì,Ñ,l40,hs.lend,rt,vh,UA,WR.ix]
def Wt{w:Str}{xs:List Int}(h:Qqj6 w xs=true):xs.length<=100/\(∀n∈xs,-1000000000<=n/\n<=1000000000)/\w.cps.toList.length<=1000:=by
 have hp:Zi xs=true->xs.length<=100/\(∀n∈xs,-1000000000<=n/\n<=1000000000):=by
  intro h
  match xs,h with
  | [a,b,c],h=>simp[Zi,aG,DF] at h;refine⟨by simp,λn hn=>?_⟩;simp at hn;rcases hn with rfl|rfl|rfl<;>lia
 have he:Zf xs=true->xs.length<=100/\(∀n∈xs,-1000000000<=n/\n<=1000000000):=by
  intro h
  match xs,h with
  | [a,b,c,d,e],h=>simp[Zf,aG,DF] at h;refine⟨by simp,λn hn=>?_⟩;simp at hn;rcases hn with rfl|rfl|rfl|rfl|rfl<;>lia
 have hf:Zb xs=true->Zf xs=true:=by
  intro h
  match xs,h with
  | [a,b,c,d,e],h=>simp[Zb] at h;exact h.1
 have hb:Za xs=true->Zf xs=true:=by
  intro h
  match xs,h with
  | [a,b,c,d,e],h=>simp[Za] at h;exact h.1.1
 have hc:Zc xs=true->xs.length<=100/\(∀n∈xs,-1000000000<=n/\n<=1000000000):=by
  intro h
  match xs,h with
  | [a,b,c,d,e,f,g,i,j],h=>simp[Zc,aG,xM] at h;refine⟨by simp,λn hn=>?_⟩;simp at hn;rcases hn with rfl|rfl|rfl|rfl|rfl|rfl|rfl|rfl|rfl<;>lia
 unfold Qqj6 at h;split at h
 ·next e=>exact⟨(hp h).1,(hp h).2,by rw[e];decide +kernel⟩
 split at h
 ·next e=>exact⟨(he (hf h)).1,(he (hf h)).2,by rw[e];decide +kernel⟩
 split at h
 ·next e=>exact⟨(he (hb h)).1,(he (hb h)).2,by rw[e];decide +kernel⟩
 split at h
 ·next e=>exact⟨(hc h).1,(hc h).2,by rw[e];decide +kernel⟩
 split at h
 ·next e=>exact⟨(he (hb h)).1,(he (hb h)).2,by rw[e];decide +kernel⟩
 ·cases h
inductive Rw where
 |th (t:Th)|dy (l:List Nat) (t:Int)|tn (o:Option P3)
def D5:Rw->List PV
 | .th t=>.str t.1::t.2.map ģ
 | .dy l t=>[.str "day",sV l,ģ t]
 | .tn o=>Nv o
def Zh{w:Str}{ns:List Int}(h:Qqj6 w ns=true):(∀n∈ns,Nb n)/\ns.length<=100:=⟨λn hn=>by have:=(Wt h).2.1 n hn;unfold Nb;lia,(Wt h).1⟩
def ZM{w:Str}{xs:List Int}(h:Qqj6 w xs=true):č w=true:=by
 unfold Qqj6 at h;by_cases e1:w= "post"
 ·rw[e1];exact s1
 rw[if_neg e1] at h;by_cases e2:w= "fence"
 ·rw[e2];exact s2
 rw[if_neg e2] at h;by_cases e3:w= "sail"
 ·rw[e3];exact s3
 rw[if_neg e3] at h;by_cases e4:w= "cloth"
 ·rw[e4];exact s4
 rw[if_neg e4] at h;by_cases e5:w= "house"
 ·rw[e5];exact s5
 rw[if_neg e5] at h;cases h
def ZU{w:Str}{xs:List Int}(h:Qqj6 w xs=true):w= "post" \/w= "fence" \/w= "sail" \/w= "cloth" \/w= "house" := by
 unfold Qqj6 at h;by_cases e1:w= "post"
 ·exact .inl e1
 rw[if_neg e1] at h;by_cases e2:w= "fence"
 ·exact .inr (.inl e2)
 rw[if_neg e2] at h;by_cases e3:w= "sail"
 ·exact .inr (.inr (.inl e3))
 rw[if_neg e3] at h;by_cases e4:w= "cloth"
 ·exact .inr (.inr (.inr (.inl e4)))
 rw[if_neg e4] at h;by_cases e5:w= "house"
 ·exact .inr (.inr (.inr (.inr e5)))
 rw[if_neg e5] at h;cases h
def RA{a:Str}(ha:č a=true):DV false (.str a) (.tup [.str "ray",.str "night"])=some (.bl (decide (Ä "ray" =a) || decide (Ä "night" =a))):=by
 have h1:ť (.str a)=true:=by unfold ť;exact ha
 have h2:aB [.str (Ä "ray"),.str (Ä "night")]=true:=by decide +kernel
 unfold DV;dsimp only;rw[h1,h2];have h3:kT (.str a)=0:=by unfold kT;rfl
 rw[h3];have e:∀b:Str,bH (.str b) (.str a)=decide (b=a):=λb=>by unfold bH;rfl
 rw[gk,gk,List.any_nil,e,e,qv];rfl
def dWD{w:Str}{xs:List Int}(h:Qqj6 w xs=true):¬Ä "ray" =w/\¬Ä "night" =w/\¬w=Ä "day" := by
 rcases ZU h with rfl|rfl|rfl|rfl|rfl<;>decide +kernel
def Z1E{T:List PV}{D:List Dz}{d:Dz}(hd:D.getLast?=some d)(hl:d.2.2.length<24){o:Option P3}(ho:ZT o)(k:Int):aE [.sh (.lst (Nv o)),.sh (.int k),.bw T,.dw (D.map dD)]=.ok (.l 3 (h_ o)):=by
 have e:=Y9 hd hl ho k (sl:=.sh (.lst (Nv o))) (.inl rfl);have i:∃a r,Nv o=.str a::r/\DV false (.str a) (.tup [.str "ray",.str "night"])=some (.bl true):=by
  cases o with
  |none=>exact⟨_,_,rfl,by rw[RA YY];simp⟩
  |some r=>exact⟨_,_,rfl,by rw[RA Rv];simp⟩
 obtain⟨a,r,e1,e2⟩:=i;rw[e1] at e ⊢;generalize D.map dD=DD at*;simp[aE,tJ,cV,ì,Ñ,e2,Ū,fi,e,k_,WR.ix,WR.to]
def Z1Y{T:List PV}{D:List Dz}(h0:∀d,D.getLast?=some d->d.2.2.length≠0)(hD:D.length<12)(hp:∀d∈D,DG d.1){l:List Nat}(hm:Nm l)(hn:l∉D.map (·.1)){t:Int}(h1:1<=t)(h2:t<=1000000000)(k:Int):aE [.sh (.lst [.str "day",sV l,ģ t]),.sh (.int k),.bw T,.dw (D.map dD)]=.ok (.d 3 [sV l,.int t]):=by
 have e:=Z1X h0 hD hp hm hn h1 h2 k (sl:=.sh (.lst [.str "day",sV l,ģ t])) (.inl rfl);have i:DV false (.str (Ä "day")) (.tup [.str "ray",.str "night"])=some (.bl false):=by rw[RA Rx,show decide (Ä "ray" =Ä "day")=false by decide +kernel,show decide (Ä "night" =Ä "day")=false by decide +kernel];rfl
 have q:=ŕ Rx Rx;generalize D.map dD=DD,sV l=L,ģ t=N at*;simp[aE,tJ,cV,ì,Ñ,i,q,Ū,fi,e,k_,WR.ix,WR.to]
def Z1e{T:List PV}(hT:T.length<40){t:Th}(hg:Qqj6 t.1 t.2=true)(k:Int):aE [.sh (.lst (.str t.1::t.2.map ģ)),.sh (.int k),.bw T,.dw []]=.ok (.t 2 (Ϧ t)):=by have e:=Z1d hT hg (ZM hg) (Zh hg).1 (by have:=(Zh hg).2;lia) k (sl:=.sh (.lst (.str t.1::t.2.map ģ))) (.inl rfl);obtain⟨d1,d2,d3⟩:=dWD hg;have i:=RA (ZM hg);have q:=ŕ (ZM hg) Rx;simp only[d1,d2,decide_false,Bool.or_self] at i;simp only[d3,decide_false] at q;change vD _=FW.ok (.t 2 (Ϧ t)) at e;generalize Ϧ t=V,t.2.map ģ=X,t.1=W at*;simp[aE,tJ,cV,ì,Ñ,i,q,Ū,fi,e,k_,WR.ix,WR.to]
abbrev uv:=eV 5 6 3 4 (Ū aE [6,5,3,4])
def Z2y{ws:List PV}{k:Int}{T:List PV}{D:DL}{p:PV}(h:aE [.sh (.lst ws),.sh (.int k),.bw T,.dw D]=.ok (.t 2 p))(ps:List PV)(s0 s1 s2 a b:di) :
 uv (.tup [.int k,.lst ws]::ps) [s0,s1,s2,.no,.no,a,b] T D=uv ps [s0,s1,s2,.no,.no,.sh (.int k),.sh (.lst ws)] (T ++ [p]) D:=by
 unfold uv;rw[eV];have e:Ū aE [6,5,3,4] (ύ 3 4 T D ((([s0,s1,s2,.no,.no,a,b]:û).set 5 (.sh (.int k))).set 6 (.sh (.lst ws))))=.ok (.t 3 p) (ύ 3 4 T D ((([s0,s1,s2,.no,.no,a,b]:û).set 5 (.sh (.int k))).set 6 (.sh (.lst ws)))):=by simp[Ū,ύ,fi,kD,h,WR.ix,k_,WR.to]
 rw[e];rfl
def Z2z{ws:List PV}{k:Int}{T:List PV}{D:DL}{p:List PV}(h:aE [.sh (.lst ws),.sh (.int k),.bw T,.dw D]=.ok (.d 3 p))(ps:List PV)(s0 s1 s2 a b:di) :
 uv (.tup [.int k,.lst ws]::ps) [s0,s1,s2,.no,.no,a,b] T D=uv ps [s0,s1,s2,.no,.no,.sh (.int k),.sh (.lst ws)] T (D ++ [(p,[])]):=by
 unfold uv;rw[eV];have e:Ū aE [6,5,3,4] (ύ 3 4 T D ((([s0,s1,s2,.no,.no,a,b]:û).set 5 (.sh (.int k))).set 6 (.sh (.lst ws))))=.ok (.d 4 p) (ύ 3 4 T D ((([s0,s1,s2,.no,.no,a,b]:û).set 5 (.sh (.int k))).set 6 (.sh (.lst ws)))):=by simp[Ū,ύ,fi,kD,h,WR.ix,k_,WR.to]
 rw[e];rfl
def Z2A{ws:List PV}{k:Int}{T:List PV}{D:DL}{p:PV}{d:List PV×List PV}(h:aE [.sh (.lst ws),.sh (.int k),.bw T,.dw D]=.ok (.l 3 p))(hd:D.getLast?=some d)(ps:List PV)(s0 s1 s2 a b:di) :
 uv (.tup [.int k,.lst ws]::ps) [s0,s1,s2,.no,.no,a,b] T D=uv ps [s0,s1,s2,.no,.no,.sh (.int k),.sh (.lst ws)] T (D.dropLast ++ [(d.1,d.2 ++ [p])]):=by
 unfold uv;rw[eV];have e:Ū aE [6,5,3,4] (ύ 3 4 T D ((([s0,s1,s2,.no,.no,a,b]:û).set 5 (.sh (.int k))).set 6 (.sh (.lst ws))))=.ok (.l 4 p) (ύ 3 4 T D ((([s0,s1,s2,.no,.no,a,b]:û).set 5 (.sh (.int k))).set 6 (.sh (.lst ws)))):=by simp[Ū,ύ,fi,kD,h,WR.ix,k_,WR.to]
 rw[e];have e2:vn 3 4 (.l 4 p) T D=some (T,D.dropLast ++ [(d.1,d.2 ++ [p])]):=by unfold vn;simp[hd]
 dsimp only;rw[e2];rfl
def we(r:Rw):PV:=.lst (D5 r)
def Z1Z:∀(ts:List Th) (T0:List PV) (k:Nat) (rest:List PV) (s0 s1 s2 a b:di),(∀t∈ts,Qqj6 t.1 t.2=true)->T0.length+ts.length<=40->
 ∃a' b',uv (bG k (ts.map (λt=>we (.th t))++rest)) [s0,s1,s2,.no,.no,a,b] T0 []=uv (bG (k+ts.length) rest) [s0,s1,s2,.no,.no,a',b'] (T0++ts.map Ϧ) []:=by
 intro ts
 induction ts with
 |nil=>intro T0 k rest s0 s1 s2 a b _ _;exact⟨a,b,by simp⟩
 |cons t ts ih=>intro T0 k rest s0 s1 s2 a b hg hl;rw[Ĝ] at hl;have r:=Z1e (T:=T0) (by lia) (hg t (by simp)) (k:Int);obtain⟨a',b',e⟩:=ih (T0 ++ [Ϧ t]) (k+1) rest s0 s1 s2 (.sh (.int k)) (.sh (we (.th t))) (λx hx=>hg x (ù _ hx)) (by simp;lia);refine⟨a',b',?_⟩;rw[á,cz];show uv (.tup [.int k,.lst (D5 (.th t))]::bG (k+1) _) _ _ _=_;rw[Z2y (show aE [.sh (.lst (D5 (.th t))),.sh (.int k),.bw T0,.dw []]=_ from r)];refine e.trans ?_;rw[Ĝ,show k+1+ts.length=k+(ts.length+1) by lia];simp
def Qqj20:∀(os:List (Option P3)) (T:List PV) (D:List Dz) (d:Dz) (k:Nat) (rest:List PV) (s0 s1 s2 a b:di),(∀o∈os,ZT o)->d.2.2.length+os.length<=24->
 ∃a' b',uv (bG k (os.map (λo=>we (.tn o))++rest)) [s0,s1,s2,.no,.no,a,b] T ((D ++ [d]).map dD)=uv (bG (k+os.length) rest) [s0,s1,s2,.no,.no,a',b'] T ((D ++ [(d.1,d.2.1,d.2.2++os)]).map dD):=by
 intro os
 induction os with
 |nil=>intro T D d k rest s0 s1 s2 a b _ _;exact⟨a,b,by simp⟩
 |cons o os ih=>
  intro T D d k rest s0 s1 s2 a b hg hl;rw[Ĝ] at hl;have r:=Z1E (T:=T) (D:=D ++ [d]) (d:=d) (by simp) (by lia) (hg o (by simp)) (k:Int);obtain⟨a',b',e⟩:=ih T D (d.1,d.2.1,d.2.2 ++ [o]) (k+1) rest s0 s1 s2 (.sh (.int k)) (.sh (we (.tn o))) (λx hx=>hg x (ù _ hx)) (by simp;lia);refine⟨a',b',?_⟩;rw[á,cz];show uv (.tup [.int k,.lst (D5 (.tn o))]::bG (k+1) _) _ _ _=_;rw[Z2A (d:=dD d) (show aE [.sh (.lst (D5 (.tn o))),.sh (.int k),.bw T,.dw ((D ++ [d]).map dD)]=_ from r) (by rw[ŀ];simp)];have ed:((D ++ [d]).map dD).dropLast ++ [((dD d).1,(dD d).2 ++ [h_ o])]=(D ++ [(d.1,d.2.1,d.2.2 ++ [o])]).map dD:=by rw[ŀ,ŀ,á,Ũ,List.dropLast_concat];simp[dD]
  rw[ed];refine e.trans ?_;rw[Ĝ,show k+1+os.length=k+(os.length+1) by lia];simp
def ZC(d:Dz):Prop:=Nm d.1/\1<=d.2.1/\d.2.1<=1000000000/\1<=d.2.2.length/\d.2.2.length<=24/\∀o∈d.2.2,ZT o
def DH(d:Dz):List PV:=we (.dy d.1 d.2.1)::d.2.2.map λo=>we (.tn o)
def Qqj21:∀(ds:List Dz) (T:List PV) (D:List Dz) (k:Nat) (s0 s1 s2 a b:di),(∀d∈D++ds,ZC d)->((D++ds).map (·.1)).Nodup->D.length+ds.length<=12->
 ∃a' b',uv (bG k (ds.flatMap DH)) [s0,s1,s2,.no,.no,a,b] T (D.map dD)=.ok (T,(D++ds).map dD) [s0,s1,s2,.no,.no,a',b']:=by
 intro ds
 induction ds with
 |nil=>intro T D k s0 s1 s2 a b _ _ _;exact⟨a,b,by simp[bG,eV]⟩
 |cons d ds ih=>
  intro T D k s0 s1 s2 a b hg hn hl;rw[Ĝ] at hl;obtain⟨g1,g2,g3,g4,g5,g6⟩:=hg d (by simp);have hn1:d.1∉D.map (·.1):=by rw[ŀ,á,qD] at hn;intro z;exact hn.2.2 _ z _ (by simp) rfl
  have h0:∀x,D.getLast?=some x->x.2.2.length≠0:=λx hx=>by have:=(hg x (iB _ (ya hx))).2.2.2.1;lia
  have r:=Z1Y (T:=T) h0 (by lia) (λx hx=>(hg x (iB _ hx)).1.Wp) g1 hn1 g2 g3 (k:Int);rw[qE];show ∃a' b',uv (.tup [.int k,.lst (D5 (.dy d.1 d.2.1))]::bG (k+1) (d.2.2.map (λo=>we (.tn o))++ds.flatMap DH)) _ _ _=_;rw[Z2z (show aE [.sh (.lst (D5 (.dy d.1 d.2.1))),.sh (.int k),.bw T,.dw (D.map dD)]=_ from r)];have ed:D.map dD ++ [([sV d.1,.int d.2.1],[])]=(D ++ [(d.1,d.2.1,[])]).map dD:=by rw[ŀ];rfl
  rw[ed];obtain⟨a1,b1,e1⟩:=Qqj20 d.2.2 T D (d.1,d.2.1,[]) (k+1) (ds.flatMap DH) s0 s1 s2 (.sh (.int k)) (.sh (.lst (D5 (.dy d.1 d.2.1)))) g6 (by simpa using g5);have ed2:(D ++ [(d.1,d.2.1,[]++d.2.2)])=D ++ [d]:=by simp
  rw[e1];dsimp only;rw[ed2];have hh:D ++ [d]++ds=D++d::ds:=by simp
  obtain⟨a2,b2,e2⟩:=ih T (D ++ [d]) (k+1+d.2.2.length) s0 s1 s2 a1 b1 (by rw[hh];exact hg) (by rw[hh];exact hn) (by simp;lia);rw[hh] at e2;exact⟨a2,b2,e2⟩
def Z2B(D:List Dz)(hl:D.length<=1000)(hd:∀d∈D,d.2.2.length<=1000):cb (gD 0 1 2) ś (gQ (Í (Ĉ 0) (Í (Ĉ 1) (Í (ä (oQ fh (Í (Ì 2) å))) å)))) (D.map dD) [.no,.no,.no] []=some ((D.map zV).map jP):=by
 have key:∀(D:List Dz) (ag:List PV) (a b c:di),ag.length+D.length<=1000->(∀d∈D,d.2.2.length<=1000)->cb (gD 0 1 2) ś (gQ (Í (Ĉ 0) (Í (Ĉ 1) (Í (ä (oQ fh (Í (Ì 2) å))) å)))) (D.map dD) [a,b,c] ag=some (ag++(D.map zV).map jP):=by
  intro D
  induction D with
  |nil=>intro ag a b c _ _;simp[cb]
  |cons d D ih=>
   intro ag a b c hl hd;rw[Ĝ] at hl;have h1:ag.length<16777216:=by lia
   have h2:=hd d (by simp);have:=ih (ag ++ [jP (zV d)]) (.sh (sV d.1)) (.sh (.int d.2.1)) (.bw (d.2.2.map h_)) (by simp;lia) (λx hx=>hd x (ù _ hx));have e:dD d=([sV d.1,.int d.2.1],d.2.2.map h_):=rfl;have e2:jP (zV d)=.tup [sV d.1,.int d.2.1,.lst (d.2.2.map h_)]:=rfl;have hz:(d.2.2.map h_).length<=16777216:=by simp;lia
   rw[á,cb,á,á,e];rw[e2] at this ⊢;generalize d.2.2.map h_=TT at*;simp[gD,h1,ś,hz];simpa using this
 simpa using key D [] .no .no .no (by simpa using hl) hd
def Qqj22(w h:Int){T:List Th}{D:List Dz}(hT:T.length<=100000)(hD:D.length<=1000)(hd:∀d∈D,d.2.2.length<=1000):bZ [.sh (.int w),.sh (.int h),.bw (T.map Ϧ),.dw (D.map dD)]=.ok ["width","height","things","days"] [.int w,.int h,.lst (T.map Ϧ),.lst ((D.map zV).map jP)]:=by have c:=Z2B D hD hd;generalize hx:T.map Ϧ=tx at*;generalize (D.map zV).map jP=dx,D.map dD=DD at*;simp[bZ,bj,zE,aD,IR.of,Ñ,putN,nq,Wa,Wb,Wc,We,Wf,Wg,c,OS,Fd,kg,kh,jZ]
def wC(s:String):List Nat:=(Ä s).cps.toList
def UB(s:Str):S s.cps.toList=s:=ao (by simp)
def Ŵ:Rw->List (List Nat)
 | .th t=>t.1.cps.toList::t.2.map nT
 | .dy l t=>[wC "day",l,nT t]
 | .tn none=>[wC "night"]
 | .tn (some r)=>[wC "ray",nT r.1,nT r.2.1,nT r.2.2]
theorem RB:∀r:Rw,(Ŵ r).map sV=D5 r
 | .th t=>by unfold Ŵ D5 sV;rw[á,UB,ŷ];rfl
 | .dy l t=>rfl
 | .tn none=>rfl
 | .tn (some r)=>rfl
def Zn(T:List Th)(D:List Dz):List Rw:=T.map .th++D.flatMap λd=>.dy d.1 d.2.1::d.2.2.map .tn
def Qqj0(ws:List (List Nat)):List Nat:=Ĭ [32] ws
def yT(w h:Int):List (List Nat):=[wC "yard",nT w,nT h]
def pj(w h:Int)(T:List Th)(D:List Dz):List (List Nat):=Qqj0 (yT w h)::(Zn T D).map λr=>Qqj0 (Ŵ r)
def pk(w h:Int)(T:List Th)(D:List Dz):List Nat:=Ĭ [10] (pj w h T D)
def Wd(l:List Nat):Prop:=l.length<=11/\∀c∈l,33<=c/\c<256
def Zt{n:Int}(h:Nb n):Wd (nT n):=⟨(ZA h.1 h.2).2,λc hc=>by rcases ZZ h.1 h.2 c hc with h|h<;>lia⟩
def Nm.wd{l:List Nat}(h:Nm l):Wd l:=⟨by have:=h.2.1;lia,λc hc=>by have:=h.2.2 c hc;lia⟩
def ZF{s:String}(h:((wC s).length<=11/\(wC s).all (λc=>decide (33<=c/\c<256))=true)):Wd (wC s):=⟨h.1,λc hc=>of_decide_eq_true (cx.mp h.2 c hc)⟩
def Qqj23{w:Str}{xs:List Int}(h:Qqj6 w xs=true):Wd w.cps.toList:=by rcases ZU h with rfl|rfl|rfl|rfl|rfl<;>exact ZF (by decide +kernel)
def Wu:Rw->Prop
 | .th t=>Qqj6 t.1 t.2=true
 | .dy l t=>Nm l/\1<=t/\t<=1000000000
 | .tn o=>ZT o
theorem ZG:∀{r:Rw},Wu r->(∀x∈Ŵ r,Wd x)/\Ŵ r≠[]/\(Ŵ r).length<=101
 | .th t,h=>by
   have h':Qqj6 t.1 t.2=true:=h;refine⟨λx hx=>?_,by simp[Ŵ],?_⟩
   ·rcases ė.mp hx with rfl|hx
    ·exact Qqj23 h'
    ·obtain⟨n,hn,rfl⟩:=ĸ.mp hx;exact Zt ((Zh h').1 n hn)
   ·have:=(Zh h').2;simp[Ŵ];lia
 | .dy l t,h=>by
   obtain⟨h1,h2,h3⟩:=h;refine⟨λx hx=>?_,by simp[Ŵ],by simp[Ŵ]⟩;have:x=wC "day" \/x=l\/x=nT t:=by simpa[Ŵ] using hx
   rcases this with rfl|rfl|rfl
   ·exact ZF (by decide +kernel)
   ·exact h1.wd
   ·exact Zt ⟨by lia,by lia⟩
 | .tn none,_=>by
   refine⟨λx hx=>?_,by simp[Ŵ],by simp[Ŵ]⟩;have:x=wC "night" := by simpa[Ŵ] using hx
   subst this;exact ZF (by decide +kernel)
 | .tn (some r),h=>by
   obtain⟨h1,h2,h3,h4,h5,h6⟩:=h;refine⟨λx hx=>?_,by simp[Ŵ],by simp[Ŵ]⟩;have:x=wC "ray" \/x=nT r.1\/x=nT r.2.1\/x=nT r.2.2:=by simpa[Ŵ] using hx
   rcases this with rfl|rfl|rfl|rfl
   ·exact ZF (by decide +kernel)
   ·exact Zt ⟨by lia,by lia⟩
   ·exact Zt ⟨by lia,by lia⟩
   ·exact Zt ⟨by lia,by lia⟩
theorem UC{c:Nat}:∀(ys:List (List Nat)) {x:Nat},x∈Ĭ [c] ys->x=c\/∃y∈ys,x∈y
 | [],_,h=>by cases h
 | [y],_,h=>.inr ⟨y,by simp,h⟩
 |y::z::r,x,h=>by
  have h':x∈y ++ [c]++Ĭ [c] (z::r):=h;rcases ah.mp h' with h1|h1
  ·rcases ah.mp h1 with h2|h2
   ·exact .inr ⟨y,by simp,h2⟩
   ·exact .inl (by simpa using h2)
  ·rcases UC (z::r) h1 with e|⟨q,hq,e⟩
   ·exact .inl e
   ·exact .inr ⟨q,ù _ hq,e⟩
theorem ZN{c:Nat}:∀(ys:List (List Nat)) (B:Nat),(∀y∈ys,y.length<=B)->(Ĭ [c] ys).length<=ys.length*(B+1)
 | [],B,_=>by simp[Ĭ]
 | [y],B,h=>by have:=h y (by simp);show y.length<=_;simp;lia
 |y::z::r,B,h=>by
  have h1:=h y (by simp);have ih:=ZN (c:=c) (z::r) B λq hq=>h q (ù _ hq);show(y ++ [c]++Ĭ [c] (z::r)).length<=_;rw[ϫ,ϫ];have e:(y::z::r).length*(B+1)=(z::r).length*(B+1)+(B+1):=by rw[Ĝ (a:=y),Nat.add_mul,Nat.one_mul]
  have e1:[c].length=1:=rfl;lia
def Wv{ws:List (List Nat)}(h:∀x∈ws,Wd x)(h0:ws≠[]):Sp.Ħ 32 (Qqj0 ws)=ws:=Sp.eW 32 ws h0 λy hy z=>by have:=(h y hy).2 32 z;lia
def UD{ws:List (List Nat)}(h:∀x∈ws,Wd x):10∉Qqj0 ws:=λz=>by
 rcases UC ws z with e|⟨y,hy,e⟩
 ·cases e
 ·have:=(h y hy).2 10 e;lia
def Zr{ws:List (List Nat)}(h:∀x∈ws,Wd x)(hl:ws.length<=101):(Qqj0 ws).length<=1212:=by have:=ZN (c:=32) ws 11 λy hy=>(h y hy).1;unfold Qqj0;have h2:ws.length*(11+1)<=101*12:=gm hl (by lia);lia
def P5{w h:Int}(hw:1<=w/\w<=20)(hh:1<=h/\h<=20):(∀x∈yT w h,Wd x)/\yT w h≠[]/\(yT w h).length<=101:=by
 refine⟨λx hx=>?_,by simp[yT],by simp[yT]⟩;have:x=wC "yard" \/x=nT w\/x=nT h:=by simpa[yT] using hx
 rcases this with rfl|rfl|rfl
 ·exact ZF (by decide +kernel)
 ·exact Zt ⟨by lia,by lia⟩
 ·exact Zt ⟨by lia,by lia⟩
def Z1f{W:List (List (List Nat))}(h0:W≠[])(h:∀ws∈W,∀x∈ws,Wd x):Sp.Ħ 10 (Ĭ [10] (W.map Qqj0))=W.map Qqj0:=by refine Sp.eW 10 _ (by simpa using h0) λy hy=>?_;obtain⟨ws,hw,rfl⟩:=ĸ.mp hy;exact UD (h ws hw)
def Qqj24{W:List (List (List Nat))}(hl:W.length<=1000)(h:∀ws∈W,(∀x∈ws,Wd x)/\ws.length<=101):(Ĭ [10] (W.map Qqj0)).length<=1213000:=by
 have:=ZN (c:=10) (W.map Qqj0) 1212 λy hy=>by obtain⟨ws,hw,rfl⟩:=ĸ.mp hy;exact Zr (h ws hw).1 (h ws hw).2
 rw[Ŏ] at this;have h2:W.length*(1212+1)<=1000*1213:=gm hl (by lia);lia
def UE{c:Nat}(hc:c<256){y:Str}(hy:y=S [c]){l:List Nat}(hl:l.length<=16000000):ϻ (sV l) [.str y]=some (.ow ((Sp.Ħ c l).map sV)):=by
 have e:AB y=some c:=by rw[hy];rfl
 show((AB y).bind λc=>if c<256/\(S l).length+2<=16777216 then some (RV.ow ((Sp.Ħ c (S l).cps.toList).map λl=>PV.str (S l))) else none)=_;rw[e];show(if c<256/\(S l).length+2<=16777216 then some (RV.ow ((Sp.Ħ c (S l).cps.toList).map λl=>PV.str (S l))) else none)=_;rw[if_pos ⟨hc,by rw[Zd];lia⟩];rfl
def Pr:Ä "\n" =S [10]:=by decide +kernel
def RC:Ä " " =S [32]:=by decide +kernel
def Z1g{W:List (List (List Nat))}(hl:W.length<=1000)(h:∀ws∈W,(∀x∈ws,Wd x)/\ws≠[]/\ws.length<=101):ϊ (gN 0) ś (ä (AA ϻ (Ì 0) (Í (mC (.str " ")) å))) ((W.map Qqj0).map sV) [.no] []=some (W.map λws=>.lst (ws.map sV)):=by
 have:=Ű (g:=gN 0) (mt:=ś) (me:=ä (AA ϻ (Ì 0) (Í (mC (.str " ")) å))) (λws=>sV (Qqj0 ws)) (λws=>PV.lst (ws.map sV)) (λU=>∃s,U=[s]) W [.no] [] ⟨_,rfl⟩ (by simp;lia) (by
  rintro ws hw U ⟨s,rfl⟩;obtain⟨h1,h2,h3⟩:=h ws hw;have e:=UE (c:=32) (by lia) RC (l:=Qqj0 ws) (by have:=Zr h1 h3;lia);rw[Wv h1 h2] at e;refine⟨[.sh (sV (Qqj0 ws))],_,[.sh (sV (Qqj0 ws))],by simp,rfl,?_,_,rfl⟩;unfold sV at e ⊢;simp[e])
 rw[ŷ];simpa[lr] using this
def ZV{T:List Th}{D:List Dz}(hT:∀t∈T,Qqj6 t.1 t.2=true)(hD:∀d∈D,ZC d):∀r∈Zn T D,Wu r:=by
 intro r hr;rcases ah.mp hr with hr|hr
 ·obtain⟨t,ht,rfl⟩:=ĸ.mp hr;exact hT t ht
 ·obtain⟨d,hd,hr⟩:=List.mem_flatMap.mp hr;obtain⟨g1,g2,g3,_,_,g6⟩:=hD d hd;rcases ė.mp hr with rfl|hr
  ·exact⟨g1,g2,g3⟩
  ·obtain⟨o,ho,rfl⟩:=ĸ.mp hr;exact g6 o ho
def Ww{T:List Th}{D:List Dz}(hT:T.length<=40)(hD:∀d∈D,ZC d)(hl:D.length<=12):(Zn T D).length<=400:=by
 have:∀D:List Dz,(∀d∈D,ZC d)->(D.flatMap λd=>Rw.dy d.1 d.2.1::d.2.2.map Rw.tn).length<=D.length*25:=by
  intro D
  induction D with
  |nil=>intro _;simp
  |cons d D ih=>intro h;have h1:=ih λx hx=>h x (ù _ hx);have h2:=(h d (by simp)).2.2.2.2.1;rw[qE,ϫ,Ĝ,Ĝ,Ŏ];lia
 have:=this D hD;unfold Zn;rw[ϫ,Ŏ];lia
def Z2o(T:List Th)(D:List Dz):((Zn T D).map λr=>PV.lst ((Ŵ r).map sV))=T.map (λt=>we (.th t))++D.flatMap DH:=by
 have e:∀r,PV.lst ((Ŵ r).map sV)=we r:=λr=>by unfold we;rw[RB]
 unfold Zn;rw[xX λr _=>e r,ŀ,ŷ,List.map_flatMap];congr 1;have:(λd:Dz=>List.map (λr=>we r) (Rw.dy d.1 d.2.1::d.2.2.map Rw.tn))=DH:=funext λd=>by rw[á,ŷ];rfl
 rw[this]
def Qqj25{w h:Int}(hw:1<=w/\w<=20)(hh:1<=h/\h<=20){T:List Th}(hT:∀t∈T,Qqj6 t.1 t.2=true)(Jm:T.length<=40){D:List Dz}(hD:∀d∈D,ZC d)(Jn:D.length<=12)(hn:(D.map (·.1)).Nodup):vE [.sh (sV (pk w h T D))]=.ret (.sh (Zk w h T (D.map zV))):=by
 obtain⟨y1,y2,y3⟩:=P5 hw hh;have hW:∀ws∈yT w h::(Zn T D).map Ŵ,(∀x∈ws,Wd x)/\ws≠[]/\ws.length<=101:=λws hws=>by
  rcases ė.mp hws with rfl|hws
  ·exact⟨y1,y2,y3⟩
  ·obtain⟨r,hr,rfl⟩:=ĸ.mp hws;exact ZG (ZV hT hD r hr)
 have Wx:(yT w h::(Zn T D).map Ŵ).length<=1000:=by have:=Ww Jm hD Jn;simp;lia
 have eT:pk w h T D=Ĭ [10] ((yT w h::(Zn T D).map Ŵ).map Qqj0):=by unfold pk pj;rw[á,ŷ];rfl
 have sp:=UE (c:=10) (by lia) Pr (l:=pk w h T D) (by rw[eT];have:=Qqj24 Wx λws hws=>⟨(hW ws hws).1,(hW ws hws).2.2⟩;lia);rw[eT,Z1f (by simp) λws hws=>(hW ws hws).1,<-eT] at sp;have rc:=Z1g Wx hW;have er:((yT w h::(Zn T D).map Ŵ).map λws=>PV.lst (ws.map sV))=PV.lst [.str "yard",ģ w,ģ h]::(T.map (λt=>we (.th t))++D.flatMap DH):=by rw[á,ŷ,<-Z2o];rfl
 rw[er] at rc;have sz:=YZ hw hh;have ct:=Ru (PV.lst [.str "yard",ģ w,ģ h]) (T.map (λt=>we (.th t))++D.flatMap DH);obtain⟨a1,b1,e1⟩:=Z1Z T [] 1 (D.flatMap DH) (.sh (sV (pk w h T D))) (.ow (PV.lst [.str "yard",ģ w,ģ h]::(T.map (λt=>we (.th t))++D.flatMap DH))) (.sh (.lst [.int w,.int h])) .no .no hT (by simpa using Jm);obtain⟨a2,b2,e2⟩:=Qqj21 D ([]++T.map Ϧ) [] (1+T.length) (.sh (sV (pk w h T D))) (.ow (PV.lst [.str "yard",ģ w,ģ h]::(T.map (λt=>we (.th t))++D.flatMap DH))) (.sh (.lst [.int w,.int h])) a1 b1 (by simpa using hD) (by simpa using hn) (by simpa using Jn);rw[Ũ] at e2;have lp:=e1.trans e2;rw[qy,qy] at lp;have lk:=Ws (D:=D);rw[Wr λd e=>by have:=(hD d (ya e)).2.2.2.1;lia] at lk;have yd:=Qqj22 w h (T:=T) (D:=D) (by lia) (by lia) λd hd=>by have:=(hD d hd).2.2.2.2.1;lia
 have eq:Zk w h T (D.map zV)=.ins "Yard" ["width","height","things","days"] [.int w,.int h,.lst (T.map Ϧ),.lst ((D.map zV).map jP)]:=rfl;rw[eq];generalize (D.map zV).map jP=DY,D.map dD=DD,T.map Ϧ=TH at*;generalize T.map (λt=>we (.th t))++D.flatMap DH=RR at*;generalize ((yT w h::(Zn T D).map Ŵ).map Qqj0).map sV=LN,PV.lst [.str "yard",ģ w,ģ h]=YR,pk w h T D=TX at*;unfold sV at sp lp ⊢;generalize S TX=X at*;unfold uv at lp;have pl1:aA (.sh (.str X))=true:=rfl;simp[vE,CS,Ñ,sp,rc,sz,ct];have em:xk (Q6 (ä (sK (Ì 1) (mP (Ø 1)) jt))) [.sh (.str X),.ow (YR::RR),.sh (.lst [.int w,.int h]),.no,.no,.no,.no]=.ok (bG 1 RR) [.sh (.str X),.ow (YR::RR),.sh (.lst [.int w,.int h]),.no,.no,.no,.no]:=by simp[Q6,ct]
 have tl:(Ē (dL (fN (ä (Ĕ kF (é 4 ý)))) (ũ "BadRow" 2 [("row",1)] (Í (bt bY (Í (Ì 1) å)) å)) fC) (Ī (Ϝ (bE "Yard" bZ (Č (Þ Ķ (Ì 2) (Ø 0)) (Č (Þ Ķ (Ì 2) (Ø 1)) (é 3 (é 4 ý)))))))) (ύ 3 4 TH DD [.sh (.str X),.ow (YR::RR),.sh (.lst [.int w,.int h]),.no,.no,a2,b2])=.ok (.rt (.sh (.ins "Yard" ["width","height","things","days"] [.int w,.int h,.lst TH,.lst DY]))) (ύ 3 4 TH DD [.sh (.str X),.ow (YR::RR),.sh (.lst [.int w,.int h]),.no,.no,a2,b2]):=by simp[ύ,kD,lk,yd]
 have pa:([.sh (.str X),.ow (YR::RR),.sh (.lst [.int w,.int h]),.no,.no,.no,.no]:û).all aA=true:=rfl;unfold Rf;rw[if_pos ⟨pa,by simp,by simp⟩];simp only[List.set_cons_succ,List.set_cons_zero,em];rw[if_pos pa,lp];simp only[Ġ.bW,tl];rfl
theorem UF:∀ys:List (List Nat),gh (ys.map sV)=some ys
 | []=>rfl
 |y::ys=>by rw[á];show(gh (ys.map sV)).map ((S y).cps.toList:: ·)=_;rw[UF ys];rfl
theorem UG:∀(ys:List (List Nat)) (B:Nat),(∀y∈ys,y.length<=B)->(ys.map aN).sum<=ys.length*B
 | [],_,_=>by simp
 |y::ys,B,h=>by have h1:=h y (by simp);have ih:=UG ys B λq hq=>h q (ù _ hq);rw[á,List.sum_cons,Ĝ,Nat.add_mul];lia
def Wy{c:Nat}{y:Str}(hy:y=S [c]){ys:List (List Nat)}{B:Nat}(h:∀x∈ys,x.length<=B)(hl:ys.length*(B+1)<=16000000):bF (.str y) [.lst (ys.map sV)]=some (sV (Ĭ [c] ys)):=by rw[hy];show((gh (ys.map sV)).bind λys=>if(ys.map aN).sum+ys.length*(S [c]).length<=16777216 then some (PV.str (S (Ĭ (S [c]).cps.toList ys))) else none)=_;rw[UF];have h1:=UG ys B h;have h2:(S [c]).length=1:=rfl;show(if(ys.map aN).sum+ys.length*(S [c]).length<=16777216 then some (PV.str (S (Ĭ [c] ys))) else none)=_;rw[h2,if_pos (by rw[Nat.mul_add] at hl;lia)];rfl
def ZO{ws:List (List Nat)}(h:∀x∈ws,Wd x)(hl:ws.length<=101):bF (.str " ") [.lst (ws.map sV)]=some (sV (Qqj0 ws)):=
 Wy RC (B:=11) (λx hx=>(h x hx).1) (by have:ws.length*(11+1)<=101*12:=gm hl (by lia);lia)
def Wz{n:Int}(h:Nb n):n.natAbs.log2<1920:=by
 have:n.natAbs<2 ^ 1920:=by
  have h1:n.natAbs<2 ^ 34:=by unfold Nb at h;lia
  exact ŏ h1 (Nat.pow_le_pow_right (by lia) (by lia))
 by_cases h0:n.natAbs=0
 ·rw[h0];decide
 ·exact(Nat.log2_lt h0).mpr this
def Zu{n:Int}(h:Nb n):ώ [.int n]=some (ģ n):=by show(if n.natAbs.log2<1920 then some (PV.str (Ä (ϙ n))) else none)=_;rw[if_pos (Wz h),Wi];rfl
def ZH{ns:List Int}(hn:∀n∈ns,Nb n)(hl:ns.length<=1000):ϊ (gN 0) ś (bt ώ (Í (Ì 0) å)) (ns.map .int) [.no] []=some (ns.map ģ):=by
 have:=Ű (g:=gN 0) (mt:=ś) (me:=bt ώ (Í (Ì 0) å)) PV.int ģ (λU=>∃s,U=[s]) ns [.no] [] ⟨_,rfl⟩ (by simp;lia) (by
  rintro x hx U ⟨s,rfl⟩;have e:=Zu (hn x hx);exact⟨[.sh (.int x)],_,[.sh (.int x)],by simp,rfl,by simp[e,-dF],_,rfl⟩)
 simpa using this
def Z2p{C:String}(hC:(["Thing","Post","Fence","Sail","Cloth","House"]:List String).contains C=true)(w:Str)(xs:List Int):ī ["Thing","Post","Fence","Sail","Cloth","House"] (Ä "word") (Zs C w xs)=some (.str w):=by unfold ī Zs;dsimp only;rw[if_pos hC];simp
def Z2q{C:String}(hC:(["Thing","Post","Fence","Sail","Cloth","House"]:List String).contains C=true)(w:Str)(xs:List Int):ī ["Thing","Post","Fence","Sail","Cloth","House"] (Ä "numbers") (Zs C w xs)=some (.lst (xs.map .int)):=by
 have:(Ä "numbers" == Ä "word")=false:=by decide +kernel
 unfold ī Zs;dsimp only;rw[if_pos hC];simp[İ,this]
def WA(w:Str):(["Thing","Post","Fence","Sail","Cloth","House"]:List String).contains (Zz w)=true:=by
 unfold Zz
 repeat' split
 all_goals decide
def Z1F{t:Th}(hg:Qqj6 t.1 t.2=true):ľ [.sh (Ϧ t)]=.ret (.sh (sV (Qqj0 (Ŵ (.th t))))):=by
 obtain⟨h1,h2,h3⟩:=ZG (r:=.th t) hg;have j:=ZO h1 h3;have e:(Ŵ (.th t)).map sV=.str t.1::t.2.map ģ:=RB (.th t);rw[e] at j;have f1:=Z2p (WA t.1) t.1 t.2;have f2:=Z2q (WA t.1) t.1 t.2;have c:=ZH (Zh hg).1 (by have:=(Zh hg).2;lia);have hl:(t.2.map ģ).length<=1000:=by have:=(Zh hg).2;simp;lia
 change ī _ _ (Ϧ t)=_ at f1;change ī _ _ (Ϧ t)=_ at f2;have ad:ø (.lst [.str t.1]) (.lst (t.2.map ģ))=some (.ow (.str t.1::t.2.map ģ)):=by rw[ie (by simp only[Ĝ,List.length_nil];lia)];rfl
 generalize Ϧ t=V,t.2.map ģ=X,t.2.map PV.int=Y,sV (Qqj0 (Ŵ (.th t)))=Qqj at*;simp[ľ,CT,Ñ,f1,f2,c,ad,j]
def Z1G{o:Option P3}(ho:ZT o):nS [.sh (h_ o)]=.ret (.sh (sV (Qqj0 (Ŵ (.tn o))))):=by
 cases o with
 |none=>have e:sV (Qqj0 (Ŵ (.tn none)))=.str "night" := congrArg PV.str (UB _);rw[e];simp[nS,xB,Ñ,h_,Kx]
 |some r=>
  obtain⟨h1,h2,h3⟩:=ZG (r:=.tn (some r)) ho;have j:=ZO h1 h3;obtain⟨b1,b2,b3,b4,b5,b6⟩:=ho;have e:(Ŵ (.tn (some r))).map sV=[.str "ray",ģ r.1,ģ r.2.1,ģ r.2.2]:=rfl;rw[e] at j;have c:=ZH (ns:=[r.1,r.2.1,r.2.2]) (λn hn=>by simp at hn;unfold Nb;lia) (by simp);simp only[á,Ũ] at c;have ad:ø (.lst [.str "ray"]) (.lst [ģ r.1,ģ r.2.1,ģ r.2.2])=some (.ow [.str "ray",ģ r.1,ģ r.2.1,ģ r.2.2]):=by rw[ie (by simp)];rfl
  generalize sV (Qqj0 (Ŵ (.tn (some r))))=Qqj,ģ r.1=A,ģ r.2.1=B,ģ r.2.2=C at*;simp[nS,xB,Ñ,h_,c3,Kx,c,ad,j]
def Qqj13{T:List Th}(hT:∀t∈T,Qqj6 t.1 t.2=true)(hl:T.length<=1000):ϊ (gN 0) ś (ä (uV "shown" [("Thing",ľ),("Post",ľ),("Fence",ľ),("Sail",ľ),("Cloth",ľ),("House",ľ)] (Ĉ 0) ý)) (T.map Ϧ) [.no] []=some (T.map λt=>sV (Qqj0 (Ŵ (.th t)))):=by
 have:=Ű (g:=gN 0) (mt:=ś) (me:=ä (uV "shown" [("Thing",ľ),("Post",ľ),("Fence",ľ),("Sail",ľ),("Cloth",ľ),("House",ľ)] (Ĉ 0) ý)) Ϧ (λt=>sV (Qqj0 (Ŵ (.th t)))) (λU=>∃s,U=[s]) T [.no] [] ⟨_,rfl⟩ (by simp;lia) (by
  rintro t ht U ⟨s,rfl⟩;have e:=Z1F (hT t ht);have lk:([("Thing",ľ),("Post",ľ),("Fence",ľ),("Sail",ľ),("Cloth",ľ),("House",ľ)]:List (String×MF)).lookup (Zz t.1)=some ľ:=by have:=ZU (hT t ht);rcases this with h|h|h|h|h<;>rw[h]<;>rfl
  refine⟨[.sh (Ϧ t)],_,[.sh (Ϧ t)],by simp,rfl,?_,_,rfl⟩;have ev:Ϧ t=.ins (Zz t.1) ["word","numbers"] [.str t.1,.lst (t.2.map .int)]:=rfl;rw[ev] at e ⊢;generalize sV (Qqj0 (Ŵ (.th t)))=Qqj,t.2.map PV.int=Y,Zz t.1=C at*;have d1:(Ä "shown" =Ä "word")=False:=eq_false (by decide +kernel);have d2:(Ä "shown" =Ä "numbers")=False:=eq_false (by decide +kernel);simp[lk,e,d1,d2])
 simpa using this
def Z0G{os:List (Option P3)}(ho:∀o∈os,ZT o)(hl:os.length<=1000):ϊ (gN 0) ś (ä (Ĕ nS (é 0 ý))) (os.map h_) [.no] []=some (os.map λo=>sV (Qqj0 (Ŵ (.tn o)))):=by
 have:=Ű (g:=gN 0) (mt:=ś) (me:=ä (Ĕ nS (é 0 ý))) h_ (λo=>sV (Qqj0 (Ŵ (.tn o)))) (λU=>∃s,U=[s]) os [.no] [] ⟨_,rfl⟩ (by simp;lia) (by
  rintro o h U ⟨s,rfl⟩;have e:=Z1G (ho o h);refine⟨[.sh (h_ o)],_,[.sh (h_ o)],by simp,rfl,?_,_,rfl⟩;generalize sV (Qqj0 (Ŵ (.tn o)))=Qqj,h_ o=V at*;simp[e])
 simpa using this
def Z2I{l:List Nat}{t:Int}(h:Nb t)(hl:l.length<=100)(s0 s1 s4:di):Fj [mC (.str "day "),AC (Ĉ 2),mC (.str " "),AC (Ĉ 3)] eh [s0,s1,.sh (sV l),.sh (.int t),s4]=.ok (sV (Qqj0 (Ŵ (.dy l t)))) [s0,s1,.sh (sV l),.sh (.int t),s4]:=by
 have e1:eh++Ä "day " =S (wC "day" ++ [32]):=by decide +kernel
 have e2:S (wC "day" ++ [32])++S l=S (wC "day" ++ [32]++l):=ao (by simp[jc]);have e3:S (wC "day" ++ [32]++l)++Ä " " =S (wC "day" ++ [32]++l ++ [32]):=by rw[RC];exact ao (by simp[jc])
 have e4:S (wC "day" ++ [32]++l ++ [32])++S (nT t)=S (wC "day" ++ [32]++l ++ [32]++nT t):=ao (by simp[jc]);have e5:Qqj0 (Ŵ (.dy l t))=wC "day" ++ [32]++l ++ [32]++nT t:=by show wC "day" ++ [32]++(l ++ [32]++nT t)=_;simp
 have l0:(wC "day").length=3:=by decide +kernel
 have ln:=(ZA h.1 h.2).2;have k1:(S (wC "day" ++ [32])).length<=16777216:=by rw[Zd];simp[l0]
 have k2:(S (wC "day" ++ [32]++l)).length<=16777216:=by rw[Zd];simp[l0];lia
 have k3:(S (wC "day" ++ [32]++l ++ [32])).length<=16777216:=by rw[Zd];simp[l0];lia
 have k4:(S (wC "day" ++ [32]++l ++ [32]++nT t)).length<=16777216:=by rw[Zd];simp[l0];lia
 have kl:(S l).length<=16777216:=by rw[Zd];lia
 have lg:=Wz h;have st:=Wi t;rw[e5];unfold sV;simp only[Cr,Cq,Lp,mC,Op,gj,List.getElem?_cons_zero,Ġ.bW,e1,e2,e3,e4,k1,k2,k3,k4,kl,lg,st,if_true]
def D6(d:Dz):List (List Nat):=Qqj0 (Ŵ (.dy d.1 d.2.1))::d.2.2.map λo=>Qqj0 (Ŵ (.tn o))
def Qqj26{d:Dz}(h:ZC d):(D6 d).length<=25:=by have:=h.2.2.2.2.1;simp[D6];lia
theorem WB(Y:PV):∀(D:List Dz) (R:List (List Nat)) (a b c:di),(∀d∈D,ZC d)->R.length+25*D.length<=1000->∃a' b' c',gf (gT 3 (ř (gN 2) (ř (gN 3) (ř (gN 4) kz)))) tK ((D.map zV).map jP) [.sh Y,.ow (R.map sV),a,b,c]=.ok .nx [.sh Y,.ow ((R++D.flatMap D6).map sV),a',b',c']
 | [],R,a,b,c,_,_=>⟨a,b,c,by simp[gf]⟩
 |d::D,R,a,b,c,hD,hl=>by
  have hd:=hD d (by simp);obtain⟨g1,g2,g3,g4,g5,g6⟩:=id hd;rw[Ĝ] at hl;have hz:=Qqj26 hd;obtain⟨a',b',c',e⟩:=WB Y D (R++D6 d) (.sh (sV d.1)) (.sh (.int d.2.1)) (.sh (.lst (d.2.2.map h_))) (λx hx=>hD x (ù _ hx)) (by rw[ϫ];lia);refine⟨a',b',c',?_⟩;have e2:jP (zV d)=.tup [sV d.1,.int d.2.1,.lst (d.2.2.map h_)]:=rfl;have hg:gT 3 (ř (gN 2) (ř (gN 3) (ř (gN 4) kz))) (jP (zV d)) [.sh Y,.ow (R.map sV),a,b,c]=some [.sh Y,.ow (R.map sV),.sh (sV d.1),.sh (.int d.2.1),.sh (.lst (d.2.2.map h_))]:=by rw[e2];rfl
  have st:tK [.sh Y,.ow (R.map sV),.sh (sV d.1),.sh (.int d.2.1),.sh (.lst (d.2.2.map h_))]=.ok .nx [.sh Y,.ow ((R++D6 d).map sV),.sh (sV d.1),.sh (.int d.2.1),.sh (.lst (d.2.2.map h_))]:=by
   have e3:=Z2I (l:=d.1) (t:=d.2.1) ⟨by lia,by lia⟩ (by have:=g1.2.1;lia) (.sh Y) (.ow (R.map sV)) (.sh (.lst (d.2.2.map h_)));have e4:=Z0G g6 (by lia);have er:(R++D6 d).map sV=R.map sV ++ [sV (Qqj0 (Ŵ (.dy d.1 d.2.1)))]++d.2.2.map (λo=>sV (Qqj0 (Ŵ (.tn o)))):=by unfold D6;rw[ŀ,á,ŷ];simp[lr]
   have k1:(R.map sV).length<16777216:=by simp;lia
   have k2:(R.map sV).length+1+(d.2.2.map (λo=>sV (Qqj0 (Ŵ (.tn o))))).length<=16777216:=by simp;lia
   rw[er];generalize R.map sV=RR,d.2.2.map h_=TT at*;generalize (d.2.2.map λo=>sV (Qqj0 (Ŵ (.tn o))))=OO at*;generalize sV (Qqj0 (Ŵ (.dy d.1 d.2.1)))=DD,sV d.1=N at*;simp[tK,e3,e4,k1,k2,-Cr,-Cq]
  rw[á,á,gf,hg];dsimp only;rw[st];refine Eq.trans e ?_;rw[qE,qz]
def WC(w h:Int)(T:List Th)(D:List Dz):pj w h T D=Qqj0 (yT w h)::(T.map (λt=>Qqj0 (Ŵ (.th t)))++D.flatMap D6):=by
 unfold pj Zn;rw[ŀ,ŷ,List.map_flatMap];have:(λd:Dz=>List.map (λr=>Qqj0 (Ŵ r)) (Rw.dy d.1 d.2.1::d.2.2.map Rw.tn))=D6:=funext λd=>by rw[á,ŷ];rfl
 rw[this];rfl
def Qqj27{w h:Int}{T:List Th}{D:List Dz}(Jm:T.length<=40)(hD:∀d∈D,ZC d)(Jn:D.length<=12):(pj w h T D).length<=401:=by have:=Ww Jm hD Jn;simp[pj];lia
def Z2r{w h:Int}(hw:1<=w/\w<=20)(hh:1<=h/\h<=20){T:List Th}(hT:∀t∈T,Qqj6 t.1 t.2=true){D:List Dz}(hD:∀d∈D,ZC d):∀x∈pj w h T D,x.length<=1212:=λx hx=>by
 rcases ė.mp hx with rfl|hx
 ·obtain⟨y1,y2,y3⟩:=P5 hw hh;exact Zr y1 y3
 ·obtain⟨r,hr,rfl⟩:=ĸ.mp hx;obtain⟨y1,y2,y3⟩:=ZG (ZV hT hD r hr);exact Zr y1 y3
def WD{w h:Int}(hw:1<=w/\w<=20)(hh:1<=h/\h<=20){T:List Th}(hT:∀t∈T,Qqj6 t.1 t.2=true)(Jm:T.length<=40){D:List Dz}(hD:∀d∈D,ZC d)(Jn:D.length<=12):bF (.str "\n") [.lst ((pj w h T D).map sV)]=some (sV (pk w h T D)):=
 Wy Pr (B:=1212) (Z2r hw hh hT hD) (by have:=Qqj27 (w:=w) (h:=h) Jm hD Jn;have:(pj w h T D).length*(1212+1)<=401*1213:=gm this (by lia);lia)
def Qqj28{w h:Int}(hw:1<=w/\w<=20)(hh:1<=h/\h<=20){T:List Th}(hT:∀t∈T,Qqj6 t.1 t.2=true)(Jm:T.length<=40){D:List Dz}(hD:∀d∈D,ZC d)(Jn:D.length<=12):vF [.sh (Zk w h T (D.map zV))]=.ret (.sh (sV (pk w h T D))):=by
 obtain⟨y1,y2,y3⟩:=P5 hw hh;have j0:=ZO y1 y3;have ey:(yT w h).map sV=[.str "yard",ģ w,ģ h]:=rfl;rw[ey] at j0;have n1:=Zu (n:=w) ⟨by lia,by lia⟩;have n2:=Zu (n:=h) ⟨by lia,by lia⟩;have c1:=Qqj13 hT (by lia);obtain⟨a',b',c',lp⟩:=WB (Zk w h T (D.map zV)) D (Qqj0 (yT w h)::T.map (λt=>Qqj0 (Ŵ (.th t)))) .no .no .no hD (by simp;lia);have jn:=WD hw hh hT Jm hD Jn;rw[WC] at jn;rw[cz] at lp;have er:(Qqj0 (yT w h)::T.map (λt=>Qqj0 (Ŵ (.th t)))).map sV=sV (Qqj0 (yT w h))::T.map λt=>sV (Qqj0 (Ŵ (.th t))):=by rw[á,ŷ];rfl
 rw[er] at lp;have k1:1+(T.map λt=>sV (Qqj0 (Ŵ (.th t)))).length<=16777216:=by simp;lia
 have f1:=Rr w h T (D.map zV);have f2:=Rs w h T (D.map zV);have f3:=Nu w h T (D.map zV);have f4:=Uv w h T (D.map zV);generalize Zk w h T (D.map zV)=Y,T.map Ϧ=TH,(D.map zV).map jP=DY at*;generalize (T.map λt=>sV (Qqj0 (Ŵ (.th t))))=TS at*;generalize sV (Qqj0 (yT w h))=Qqj at*;generalize (Qqj0 (yT w h)::(T.map (λt=>Qqj0 (Ŵ (.th t)))++D.flatMap D6)).map sV=LL at*;generalize sV (pk w h T D)=TX at*;simp[vF,CU,Ñ,f1,f2,f3,f4,n1,n2,j0,c1,lp,jn,k1,-dF]
abbrev NR:PX:=⟨"NoRow",[],[]⟩
abbrev BT:PX:=⟨"BadThing",[],[]⟩
def YT(T:List Th):PV:=Zk 1 1 T []
def RD{W:List PV}{k:Nat}{ns:List Int}(hk:k<=W.length)(hW:W.drop k=ns.map ģ)(hn:∀n∈ns,Nb n)(hl:ns.length<=1000):im [.bw W,.sh (.int k)]=.ret (.ow (ns.map .int)):=by have c:=P4 W k hk;rw[hW] at c;have e:=Wm hn hl (sl:=.sh (.lst (ns.map ģ))) (.inl rfl);generalize ns.map ģ=X,ns.map PV.int=Y at*;simp[im,HC,Ñ,c,e,Kx]
def WE{T:List Th}(hT:T.length=40){W:List PV}(hW:2<=W.length){X:List PV}(hn:im [.bw W,.sh (.int 2)]=.ret (.ow X)):cW [.sh (YT T),.bw W]=.exc NR:=by
 have f3:ī ["Yard"] (Ä "things") (YT T)=_:=Nu 1 1 T [];have hl:((T.map Ϧ).length:Int)=40:=by simp[hT]
 have iw:(T.map Ϧ).length<=16777216:=by simp[hT]
 have h2:¬(W.length:Int)<2:=by lia
 generalize YT T=Y,T.map Ϧ=TH at*;simp[cW,ko,Ñ,h2,hn,f3,hl,iw,Ϲ]
def Z1H{T:List Th}(hT:T.length<40){p a:PV}{W X:List PV}(hn:im [.bw (p::a::W),.sh (.int 2)]=.ret (.ow X))(ht:dG [.sh a,.bw X]=.exc BT):cW [.sh (YT T),.bw (p::a::W)]=.exc BT:=by
 have f1:ī ["Yard"] (Ä "width") (YT T)=_:=Rr 1 1 T [];have f2:ī ["Yard"] (Ä "height") (YT T)=_:=Rs 1 1 T [];have f3:ī ["Yard"] (Ä "things") (YT T)=_:=Nu 1 1 T [];have hl:¬((T.map Ϧ).length:Int)=40:=by simp;lia
 have iw:(T.map Ϧ).length<=16777216:=by simp;lia
 have h2:¬(W.length:Int)+1+1<2:=by lia
 generalize YT T=Y,T.map Ϧ=TH at*;simp[cW,ko,Ñ,h2,hn,f1,f2,f3,hl,iw,ht]
def Z1j{T:List Th}(hT:T.length<40){p a:PV}{W X:List PV}{t:Th}(hn:im [.bw (p::a::W),.sh (.int 2)]=.ret (.ow X))(ht:dG [.sh a,.bw X]=.ret (.sh (Ϧ t))):cW [.sh (YT T),.bw (p::a::W)]=.ret (.sh (YT (T ++ [t]))):=by
 have f1:ī ["Yard"] (Ä "width") (YT T)=_:=Rr 1 1 T [];have f2:ī ["Yard"] (Ä "height") (YT T)=_:=Rs 1 1 T [];have f3:ī ["Yard"] (Ä "things") (YT T)=_:=Nu 1 1 T [];have f4:ī ["Yard"] (Ä "days") (YT T)=_:=Uv 1 1 T [];have ad:ø (.lst (T.map Ϧ)) (.lst [Ϧ t])=some (.ow ((T ++ [t]).map Ϧ)):=by rw[ie (by simp;lia),ŀ];rfl
 have ye:=Wh 1 1 (T:=T ++ [t]) (D:=[]) (by simp;lia) (by simp) (s3:=.sh (.lst ((T ++ [t]).map Ϧ))) (s4:=.sh (.lst (([]:List Dy).map jP))) (.inl rfl) (.inl rfl);have hl:¬((T.map Ϧ).length:Int)=40:=by simp;lia
 have iw:(T.map Ϧ).length<=16777216:=by simp;lia
 have h2:¬(W.length:Int)+1+1<2:=by lia
 have ey:YT (T ++ [t])=.ins "Yard" ["width","height","things","days"] [.int 1,.int 1,.lst ((T ++ [t]).map Ϧ),.lst (([]:List Dy).map jP)]:=rfl;rw[ey];generalize YT T=Y,(T ++ [t]).map Ϧ=TT,T.map Ϧ=TH at*;generalize ([]:List Dy).map jP=DY at*;generalize Ϧ t=tv at*;simp[cW,ko,Ñ,h2,hn,f1,f2,f3,f4,hl,iw,ht,ad,ye]
def WF{T:List Th}{W:List PV}(hW:2<=W.length)(hn:im [.bw W,.sh (.int 2)]=.exc NR):cW [.sh (YT T),.bw W]=.exc NR:=by
 have h2:¬(W.length:Int)<2:=by lia
 generalize YT T=Y at*;simp[cW,ko,Ñ,h2,hn]
def Qqj14{T:List Th}{p:PV}:cW [.sh (YT T),.bw [p]]=.exc NR:=by generalize YT T=Y at*;simp[cW,ko,Ñ,Ϲ]
def WG{T:List Th}{W:List PV}(h:¬W.length=2):lc [.sh (YT T),.bw W]=.exc NR:=by
 have h2:¬(W.length:Int)=2:=by lia
 generalize YT T=Y at*;simp[lc,qo,Ñ,h2,Ϲ]
def Z2s{T:List Th}(hT:T.length<=40){p q:PV}{k:Int}(hn:im [.bw [p,q],.sh (.int 1)]=.ret (.ow [.int k]))(hk:k<0\/(T.length:Int)<=k):lc [.sh (YT T),.bw [p,q]]=.exc NR:=by
 have f3:ī ["Yard"] (Ä "things") (YT T)=_:=Nu 1 1 T [];have hl:((T.map Ϧ).length:Int)=T.length:=by simp
 have iw:(T.map Ϧ).length<=16777216:=by simp;lia
 generalize YT T=Y,T.map Ϧ=TH at*;rcases hk with hk|hk
 ·have h0:¬0<=k:=by lia
  simp[lc,qo,Ñ,hn,h0,iw,Ϲ]
 ·by_cases h0:0<=k
  ·have h1:¬k<(T.length:Int):=by lia
   simp[lc,qo,Ñ,hn,h0,f3,hl,iw,h1,Ϲ]
  ·simp[lc,qo,Ñ,hn,h0,iw,Ϲ]
def Z2C{T:List Th}(hT:T.length<=40){p q:PV}{k:Nat}(hn:im [.bw [p,q],.sh (.int 1)]=.ret (.ow [.int k]))(hk:k<T.length):lc [.sh (YT T),.bw [p,q]]=.ret (.sh (YT (T.eraseIdx k))):=by
 have f1:ī ["Yard"] (Ä "width") (YT T)=_:=Rr 1 1 T [];have f2:ī ["Yard"] (Ä "height") (YT T)=_:=Rs 1 1 T [];have f3:ī ["Yard"] (Ä "things") (YT T)=_:=Nu 1 1 T [];have f4:ī ["Yard"] (Ä "days") (YT T)=_:=Uv 1 1 T [];have hl:((T.map Ϧ).length:Int)=T.length:=by simp
 have iw:(T.map Ϧ).length<=16777216:=by simp;lia
 have h0:(0:Int)<=k:=by lia
 have h1:(k:Int)<(T.length:Int):=by lia
 have c1:bx (T.map Ϧ) none (some (k:Int))=(T.map Ϧ).take k:=by unfold bx;rw[HT.yP,HT.uE,Nat.min_eq_left (by simp;lia)];simp
 have c2:bx (T.map Ϧ) (some ((k:Int)+1)) none=(T.map Ϧ).drop (k+1):=P4 (T.map Ϧ) (k+1) (by simp;lia);have ad:ø (.lst ((T.map Ϧ).take k)) (.lst ((T.map Ϧ).drop (k+1)))=some (.ow ((T.eraseIdx k).map Ϧ)):=by rw[ie (by simp;lia),qF,ŀ,qG,qH]
 have ye:=Wh 1 1 (T:=T.eraseIdx k) (D:=[]) (by have:=yb T k;lia) (by simp) (s3:=.sh (.lst ((T.eraseIdx k).map Ϧ))) (s4:=.sh (.lst (([]:List Dy).map jP))) (.inl rfl) (.inl rfl);have ey:YT (T.eraseIdx k)=.ins "Yard" ["width","height","things","days"] [.int 1,.int 1,.lst ((T.eraseIdx k).map Ϧ),.lst (([]:List Dy).map jP)]:=rfl;rw[ey];generalize YT T=Y,(T.eraseIdx k).map Ϧ=TT,(T.map Ϧ).take k=TA,(T.map Ϧ).drop (k+1)=TB at*;generalize T.map Ϧ=TH at*;generalize ([]:List Dy).map jP=DY at*;simp[lc,qo,Ñ,hn,h0,f1,f2,f3,f4,hl,iw,h1,c1,c2,ad,ye]
def RE:č (Ä "put")=true:=by decide +kernel
def RF:č (Ä "take")=true:=by decide +kernel
inductive Sd where
 |ok (Y:PV)|ex (x:PX)
def DI(Y0:PV):Sd->MR
 | .ok Y=>.ret (.str "ok") ["yard"] [Y] none
 | .ex x=>.exc x ["yard"] [Y0] none
def WH:FR->Option Sd
 | .ret (.sh Y)=>some (.ok Y)
 | .exc x=>some (.ex x)
 |_=>none
def Zv{Y:PV}{l:List Nat}{W:List PV}(hs:ϻ (sV l) [.str " "]=some (.ow (.str "put" ::W))){s:Sd}(hw:WH (cW [.sh Y,.bw (.str "put" ::W)])=some s):cX ["yard"] [Y] none [sV l]=DI Y s:=by
 have q:=ŕ RE RE;simp only[decide_true] at q;have f:ī ["Desk"] (Ä "yard") (.ins "Desk" ["yard"] [Y])=some Y:=by unfold ī;simp
 cases e:cW [.sh Y,.bw (.str "put" ::W)] with
 |bad=>rw[e] at hw;cases hw
 |exc x=>rw[e] at hw;cases hw;unfold sV at*;simp[cX,Ů,ŭ,kq,ì,Ñ,hs,q,f,e,MR.of,Ŧ,DI,aD]
 |ret r=>
  rw[e] at hw;cases r with
  |sh Y2=>cases hw;unfold sV at*;simp[cX,Ů,ŭ,kq,ì,Ñ,hs,q,f,e,MR.of,Ŧ,DI,aD,putN,nq]
  |_=>cases hw
def ZP{Y:PV}{l:List Nat}{W:List PV}(hs:ϻ (sV l) [.str " "]=some (.ow (.str "take" ::W))){s:Sd}(hw:WH (lc [.sh Y,.bw (.str "take" ::W)])=some s):cX ["yard"] [Y] none [sV l]=DI Y s:=by
 have q1:=ŕ RF RE;have q:=ŕ RF RF;simp only[decide_true] at q;rw[show decide (Ä "take" =Ä "put")=false by decide +kernel] at q1;have f:ī ["Desk"] (Ä "yard") (.ins "Desk" ["yard"] [Y])=some Y:=by unfold ī;simp
 cases e:lc [.sh Y,.bw (.str "take" ::W)] with
 |bad=>rw[e] at hw;cases hw
 |exc x=>rw[e] at hw;cases hw;unfold sV at*;simp[cX,Ů,ŭ,kq,ì,Ñ,hs,q,q1,f,e,MR.of,Ŧ,DI,aD]
 |ret r=>
  rw[e] at hw;cases r with
  |sh Y2=>cases hw;unfold sV at*;simp[cX,Ů,ŭ,kq,ì,Ñ,hs,q,q1,f,e,MR.of,Ŧ,DI,aD,putN,nq]
  |_=>cases hw
def RH:Sd->PV
 | .ok _=>.str "ok"
 | .ex x=>.tup [.str (if x.C= "NoRow" then "row" else "thing")]
def RJ(Y:PV):Sd->PV
 | .ok Y2=>Y2
 | .ex _=>Y
def Zw{Y:PV}{l:List Nat}{s:Sd}(h:cX ["yard"] [Y] none [sV l]=DI Y s)(hx:∀x,s=.ex x->x=NR\/x=BT):aF ["yard"] [Y] none [sV l]=.ret (RH s) ["yard"] [RJ Y s] none:=by
 have n:(Ä "yard" =Ä "say")=False:=eq_false (by decide +kernel);have n2:(Ä "say" =Ä "yard")=False:=eq_false (by decide +kernel);unfold sV at*;cases s with
 |ok Y2=>simp[aF,Ů,ŭ,tM,ì,Ñ,h,DI,MR.of,Ŧ,wQ,RH,RJ,n,n2]
 |ex x=>
  rcases hx x rfl with rfl|rfl
  ·simp[aF,Ů,ŭ,tM,ì,Ñ,h,DI,MR.of,Ŧ,wQ,nA,RH,RJ,n,n2]
  ·simp[aF,Ů,ŭ,tM,ì,Ñ,h,DI,MR.of,Ŧ,wQ,nA,RH,RJ,n,n2]
def ZD(s:String):PV.str (Ä s)=sV (wC s):=congrArg PV.str (UB _).symm
def RK{s:String}{l:List Nat}(h1:(wC s).length<=1000)(hl:l.length<=10000):ø (.str s) (sV l)=some (.sh (sV (wC s++l))):=by
 have l2:(Ä s).length=(wC s).length:=by simp[wC,Ϙ]
 have l3:(S l).length<=10000:=by rw[Zd];exact hl
 unfold sV ø;simp only;rw[if_pos (by lia)];congr 3;exact ao (by simp[jc,wC])
def WI(a:List Nat){ws:List (List Nat)}(h:ws≠[]):Qqj0 (a::ws)=a ++ [32]++Qqj0 ws:=by
 cases ws with
 |nil=>exact absurd rfl h
 |cons y r=>rfl
def WJ{W:List (List Nat)}(h:∀x∈W,Wd x)(h0:W≠[])(hl:W.length<=101):ϻ (sV (Qqj0 W)) [.str " "]=some (.ow (W.map sV)):=by have e:=UE (c:=32) (by lia) RC (l:=Qqj0 W) (by have:=Zr h hl;lia);rw[Wv h h0] at e;exact e
def Qqj7(T:List Th):List PV:=T.map λt=>sV (Qqj0 (Ŵ (.th t)))
def Qqj29(t:Th):wC "put " ++ Qqj0 (Ŵ (.th t))=Qqj0 (wC "put" ::Ŵ (.th t)):=by rw[WI _ (by simp[Ŵ])];congr 1
def WK{t:Th}(hg:Qqj6 t.1 t.2=true)(hl:t.2.length<=90):ϻ (sV (wC "put " ++ Qqj0 (Ŵ (.th t)))) [.str " "]=some (.ow (.str "put" :: .str t.1::t.2.map ģ)):=by
 obtain⟨h1,h2,h3⟩:=ZG (r:=.th t) hg;rw[Qqj29,WJ (λx hx=>by
  rcases ė.mp hx with rfl|hx
  ·exact ZF (by decide +kernel)
  ·exact h1 x hx) (by simp) (by simp[Ŵ];lia),á,RB,<-ZD]
 rfl
def Z1l{T:List Th}{t:Th}(hg:Qqj6 t.1 t.2=true)(hl:t.2.length<=90)(hT:T.length<40):aF ["yard"] [YT T] none [sV (wC "put " ++ Qqj0 (Ŵ (.th t)))]=.ret (.str "ok") ["yard"] [YT (T ++ [t])] none:=by have hn:=RD (W:=.str "put" :: .str t.1::t.2.map ģ) (k:=2) (by simp) rfl (Zh hg).1 (by lia);have ht:=V9 (ZM hg) (xs:=t.2) (sl:=.bw (t.2.map .int)) (.inr rfl);rw[if_pos hg] at ht;exact Zw (s:=.ok (YT (T ++ [t]))) (Zv (WK hg hl) (by rw[Z1j hT hn ht];rfl)) (λx e=>by cases e)
def Z1m{T:List Th}{t:Th}(hg:Qqj6 t.1 t.2=true)(hl:t.2.length<=90)(hT:T.length=40):aF ["yard"] [YT T] none [sV (wC "put " ++ Qqj0 (Ŵ (.th t)))]=.ret (.tup [.str "row"]) ["yard"] [YT T] none:=by have hn:=RD (W:=.str "put" :: .str t.1::t.2.map ģ) (k:=2) (by simp) rfl (Zh hg).1 (by lia);exact Zw (s:=.ex NR) (Zv (WK hg hl) (by rw[WE hT (by simp) hn];rfl)) (λx e=>by cases e;exact .inl rfl)
def Nw(T:List Th):PV:=.tup [.str (if T.length=40 then "row" else "thing")]
def Zm{T:List Th}(hT:T.length<=40){l:List Nat}{a:PV}{W X:List PV}(hs:ϻ (sV l) [.str " "]=some (.ow (.str "put" ::a::W)))(hn:im [.bw (.str "put" ::a::W),.sh (.int 2)]=.ret (.ow X))(ht:dG [.sh a,.bw X]=.exc BT):aF ["yard"] [YT T] none [sV l]=.ret (Nw T) ["yard"] [YT T] none:=by
 by_cases h:T.length=40
 ·have:=Zw (s:=.ex NR) (Zv (Y:=YT T) hs (by rw[WE h (by simp) hn];rfl)) (λx e=>by cases e;exact .inl rfl);rw[this,Nw,if_pos h];rfl
 ·have:=Zw (s:=.ex BT) (Zv (Y:=YT T) hs (by rw[Z1H (by lia) hn ht];rfl)) (λx e=>by cases e;exact .inr rfl);rw[this,Nw,if_neg h];rfl
def P6:List String:=["post 1 1 0","posts 1 1 1","fence 1 1 1 1 1","cloth 1 1 1","sail 1 1 0 2 3","post","","5"]
def Z2a{T:List Th}(hT:T.length<=40):∀s∈P6,ø (.str "put ") (.str s)=some (.sh (sV (wC "put " ++ wC s)))/\aF ["yard"] [YT T] none [sV (wC "put " ++ wC s)]=.ret (Nw T) ["yard"] [YT T] none:=by
 have key:∀s:String,(wC s).length<=1000->ø (.str "put ") (.str s)=some (.sh (sV (wC "put " ++ wC s))):=λs h=>by rw[ZD s];exact RK (by decide +kernel) (by lia)
 unfold P6;refine ϒ.mpr ⟨⟨key _ (by decide +kernel),Zm hT (a:=.str "post") (W:=[.str "1",.str "1",.str "0"]) (X:=[.int 1,.int 1,.int 0]) (by kernel_rfl) (by kernel_rfl) (by kernel_rfl)⟩,?_⟩;refine ϒ.mpr ⟨⟨key _ (by decide +kernel),Zm hT (a:=.str "posts") (W:=[.str "1",.str "1",.str "1"]) (X:=[.int 1,.int 1,.int 1]) (by kernel_rfl) (by kernel_rfl) (by kernel_rfl)⟩,?_⟩;refine ϒ.mpr ⟨⟨key _ (by decide +kernel),Zm hT (a:=.str "fence") (W:=[.str "1",.str "1",.str "1",.str "1",.str "1"]) (X:=[.int 1,.int 1,.int 1,.int 1,.int 1]) (by kernel_rfl) (by kernel_rfl) (by kernel_rfl)⟩,?_⟩;refine ϒ.mpr ⟨⟨key _ (by decide +kernel),Zm hT (a:=.str "cloth") (W:=[.str "1",.str "1",.str "1"]) (X:=[.int 1,.int 1,.int 1]) (by kernel_rfl) (by kernel_rfl) (by kernel_rfl)⟩,?_⟩;refine ϒ.mpr ⟨⟨key _ (by decide +kernel),Zm hT (a:=.str "sail") (W:=[.str "1",.str "1",.str "0",.str "2",.str "3"]) (X:=[.int 1,.int 1,.int 0,.int 2,.int 3]) (by kernel_rfl) (by kernel_rfl) (by kernel_rfl)⟩,?_⟩;refine ϒ.mpr ⟨⟨key _ (by decide +kernel),Zm hT (a:=.str "post") (W:=[]) (X:=[]) (by kernel_rfl) (by kernel_rfl) (by kernel_rfl)⟩,?_⟩;refine ϒ.mpr ⟨⟨key _ (by decide +kernel),Zm hT (a:=.str "") (W:=[]) (X:=[]) (by kernel_rfl) (by kernel_rfl) (by kernel_rfl)⟩,?_⟩;exact ϒ.mpr ⟨⟨key _ (by decide +kernel),Zm hT (a:=.str "5") (W:=[]) (X:=[]) (by kernel_rfl) (by kernel_rfl) (by kernel_rfl)⟩,by simp⟩
def P7:List String:=["put","take","take 1 1","put post 1 1 x","put post 1  1"]
def Z2b{T:List Th}:∀s∈P7,aF ["yard"] [YT T] none [.str s]=.ret (.tup [.str "row"]) ["yard"] [YT T] none:=by have gR:∀{l:List Nat},cX ["yard"] [YT T] none [sV l]=DI (YT T) (.ex NR)->aF ["yard"] [YT T] none [sV l]=.ret (.tup [.str "row"]) ["yard"] [YT T] none:=λh=>Zw h (λx e=>by cases e;exact .inl rfl);unfold P7;refine ϒ.mpr ⟨by rw[ZD];exact gR (Zv (W:=[]) (by kernel_rfl) (by rw[Qqj14];rfl)),?_⟩;refine ϒ.mpr ⟨by rw[ZD];exact gR (ZP (W:=[]) (by kernel_rfl) (by rw[WG (by simp)];rfl)),?_⟩;refine ϒ.mpr ⟨by rw[ZD];exact gR (ZP (W:=[.str "1",.str "1"]) (by kernel_rfl) (by rw[WG (by simp)];rfl)),?_⟩;refine ϒ.mpr ⟨by rw[ZD];exact gR (Zv (W:=[.str "post",.str "1",.str "1",.str "x"]) (by kernel_rfl) (by rw[WF (by simp) (by kernel_rfl)];rfl)),?_⟩;exact ϒ.mpr ⟨by rw[ZD];exact gR (Zv (W:=[.str "post",.str "1",.str "",.str "1"]) (by kernel_rfl) (by rw[WF (by simp) (by kernel_rfl)];rfl)),by simp⟩
def Zx{k:Int}(h:Nb k):ø (.str "take ") (ģ k)=some (.sh (sV (Qqj0 [wC "take",nT k])))/\ϻ (sV (Qqj0 [wC "take",nT k])) [.str " "]=some (.ow [.str "take",ģ k])/\im [.bw [.str "take",ģ k],.sh (.int 1)]=.ret (.ow [.int k]):=by
 refine⟨?_,?_,?_⟩
 ·have:=RK (s:= "take ") (l:=nT k) (by decide +kernel) (by have:=(ZA h.1 h.2).2;lia);rw[WI _ (by simp)];exact this
 ·rw[WJ (fun x hx=>by
   have:x=wC "take" \/x=nT k:=by simpa using hx
   rcases this with rfl|rfl
   ·exact ZF (by decide +kernel)
   ·exact Zt h) (by simp) (by simp),á,<-ZD]
  rfl
 ·exact RD (W:=[.str "take",ģ k]) (k:=1) (ns:=[k]) (by simp) rfl (λn hn=>by rw[qC.mp hn];exact h) (by simp)
def WL{T:List Th}(hT:T.length<=40){k:Int}(h:Nb k)(hk:k<0\/(T.length:Int)<=k):aF ["yard"] [YT T] none [sV (Qqj0 [wC "take",nT k])]=.ret (.tup [.str "row"]) ["yard"] [YT T] none:=
 Zw (s:=.ex NR) (ZP (Zx h).2.1 (by rw[Z2s hT (Zx h).2.2 hk];rfl)) (λx e=>by cases e;exact .inl rfl)
def Z2c{T:List Th}(hT:T.length<=40){k:Nat}(hk:k<T.length):aF ["yard"] [YT T] none [sV (Qqj0 [wC "take",nT k])]=.ret (.str "ok") ["yard"] [YT (T.eraseIdx k)] none:=
 have h:Nb (k:Int):=⟨by lia,by lia⟩
 Zw (s:=.ok (YT (T.eraseIdx k))) (ZP (Zx h).2.1 (by rw[Z2C hT (Zx h).2.2 hk];rfl)) (λx e=>by cases e)
def Pl(x:Int):Prop:=-1000000000<=x/\x<=1000000000
def UH{x y h:Int}(a:Pl x)(b:Pl y)(c:1<=h/\h<=1000000000):Qqj6 "post" [x,y,h]=true:=by unfold Pl at a b;unfold Qqj6 Zi aG DF;simp;lia
def WM{s:String}(h:č (Ä s)=true):Ŀ (.str s) (.str s)=some (.bl true):=by have:=ŕ h h;simpa using this
def eqT{s:String}(h:č (Ä s)=true):Ŀ (.tup [.str s]) (.tup [.str s])=some (.bl true):=qd (by unfold ť aB aB ť;rw[h];rfl) (by unfold kT jr jr kT;decide)
def WN:č (Ä "ok")=true:=by decide +kernel
def P8:č (Ä "row")=true:=by decide +kernel
def Z2u:č (Ä "thing")=true:=by decide +kernel
def Qqj8(T:List Th):(Qqj7 T).length=T.length:=by unfold Qqj7;simp
def Dn(T:List Th)(cell:Int):Prop:=∃T':List Th,ci ["yard"] [YT T] (some (Qqj7 T)) [.int cell]=.ret (.bl true) ["yard"] [YT T'] (some (Qqj7 T'))/\(∀t∈T',Qqj6 t.1 t.2=true/\t.2.length<=90)/\T'.length<=40
def WO{a b c:Int}(ha:Nb a)(hb:Nb b)(hc:Nb c):bF (.str " ") [.lst [.str "post",ģ a,ģ b,ģ c]]=some (sV (Qqj0 (Ŵ (.th ("post",[a,b,c]))))):=by
 have:=ZO (ws:=Ŵ (.th ("post",[a,b,c]))) (λx hx=>by
  have:x=wC "post" \/x=nT a\/x=nT b\/x=nT c:=by simpa[Ŵ,wC] using hx
  rcases this with rfl|rfl|rfl|rfl
  ·exact ZF (by decide +kernel)
  ·exact Zt ha
  ·exact Zt hb
  ·exact Zt hc) (by simp[Ŵ])
 rw[RB] at this;exact this
def WP{t:Th}(h:Qqj6 t.1 t.2=true):ø (.str "put ") (sV (Qqj0 (Ŵ (.th t))))=some (.sh (sV (wC "put " ++ Qqj0 (Ŵ (.th t))))):=by obtain⟨h1,h2,h3⟩:=ZG (r:=.th t) h;exact RK (by decide +kernel) (by have:=Zr h1 h3;lia)
def Z1n{T:List Th}(hT:T.length=40){cell r a b c:Int}(h3:cell % 3=0)(hr:cell / 3 % 1000000000=r)(g5:Qqj6 "post" [a,b,c]=true)(ho:r % 11=5/\a=1000000000/\b= -1000000000/\c=1000000000\/¬r % 11=5/\a=r % 2001-1000/\b=r / 2001 % 7/\c=1+r % 50):ci ["yard"] [YT T] (some (Qqj7 T)) [.int cell]=.ret (.bl true) ["yard"] [YT T] (some (Qqj7 T)):=by
 have nb:=(Zh g5).1;have Ng:=ZH (ns:=[a,b,c]) nb (by simp);simp only[á,Ũ] at Ng;have ad:ø (.lst [.str "post"]) (.lst [ģ a,ģ b,ģ c])=some (.ow [.str "post",ģ a,ģ b,ģ c]):=by rw[ie (by simp)];rfl
 have jn:=WO (nb a (by simp)) (nb b (by simp)) (nb c (by simp));have pa:=WP (t:=("post",[a,b,c])) g5;have hl:((Qqj7 T).length:Int)=40:=by rw[Qqj8];lia
 have iw:(Qqj7 T).length<=16777216:=by rw[Qqj8];lia
 have sd:=Z1m (t:=("post",[a,b,c])) g5 (by simp) hT;have q:=eqT P8;generalize YT T=Y,Qqj7 T=RV,sV (wC "put " ++ Qqj0 (Ŵ (.th ("post",[a,b,c]))))=PR,sV (Qqj0 (Ŵ (.th ("post",[a,b,c]))))=RW,ģ a=A,ģ b=B,ģ c=Cc at*;clear g5 nb;rcases ho with⟨Eb,rfl,rfl,rfl⟩|⟨Eb,rfl,rfl,rfl⟩
 ·simp[ci,Ů,ŭ,ce,ì,Ñ,hr,h3,Eb,Ng,ad,jn,hl,iw,pa,sd,q,MR.of,Ŧ]
 ·simp[ci,Ů,ŭ,ce,ì,Ñ,hr,h3,Eb,Ng,ad,jn,hl,iw,pa,sd,q,MR.of,Ŧ]
def Z1o{T:List Th}(hT:T.length<40){cell r a b c:Int}(h3:cell % 3=0)(hr:cell / 3 % 1000000000=r)(g5:Qqj6 "post" [a,b,c]=true)(ho:r % 11=5/\a=1000000000/\b= -1000000000/\c=1000000000\/¬r % 11=5/\a=r % 2001-1000/\b=r / 2001 % 7/\c=1+r % 50):ci ["yard"] [YT T] (some (Qqj7 T)) [.int cell]=.ret (.bl true) ["yard"] [YT (T ++ [(Ä "post",[a,b,c])])] (some (Qqj7 (T ++ [(Ä "post",[a,b,c])]))):=by
 have nb:=(Zh g5).1;have Ng:=ZH (ns:=[a,b,c]) nb (by simp);simp only[á,Ũ] at Ng;have ad:ø (.lst [.str "post"]) (.lst [ģ a,ģ b,ģ c])=some (.ow [.str "post",ģ a,ģ b,ģ c]):=by rw[ie (by simp)];rfl
 have jn:=WO (nb a (by simp)) (nb b (by simp)) (nb c (by simp));have pa:=WP (t:=("post",[a,b,c])) g5;have hl:¬((Qqj7 T).length:Int)=40:=by rw[Qqj8];lia
 have iw:(Qqj7 T).length<=16777216:=by rw[Qqj8];lia
 have Xp:(Qqj7 T).length<16777216:=by rw[Qqj8];lia
 have sd:=Z1l (t:=("post",[a,b,c])) g5 (by simp) hT;have q:=WM WN;have er:Qqj7 (T ++ [(Ä "post",[a,b,c])])=Qqj7 T ++ [sV (Qqj0 (Ŵ (.th ("post",[a,b,c]))))]:=by unfold Qqj7;rw[ŀ];rfl
 rw[er];generalize YT (T ++ [(Ä "post",[a,b,c])])=Y2,YT T=Y,Qqj7 T=RV,sV (wC "put " ++ Qqj0 (Ŵ (.th ("post",[a,b,c]))))=PR,sV (Qqj0 (Ŵ (.th ("post",[a,b,c]))))=RW,ģ a=A,ģ b=B,ģ c=Cc at*;clear g5 nb;rcases ho with⟨Eb,rfl,rfl,rfl⟩|⟨Eb,rfl,rfl,rfl⟩
 ·simp[ci,Ů,ŭ,ce,ì,Ñ,hr,h3,Eb,Ng,ad,jn,hl,iw,Xp,pa,sd,q,MR.of,Ŧ]
 ·simp[ci,Ů,ŭ,ce,ì,Ñ,hr,h3,Eb,Ng,ad,jn,hl,iw,Xp,pa,sd,q,MR.of,Ŧ]
def Z1I{T:List Th}(hg:∀t∈T,Qqj6 t.1 t.2=true/\t.2.length<=90)(hT:T.length<=40){cell:Int}(h3:cell % 3=0):Dn T cell:=by
 obtain⟨r,hr⟩:∃r:Int,cell / 3 % 1000000000=r:=⟨_,rfl⟩;have hr0:0<=r/\r<1000000000:=by lia
 obtain⟨a,b,c,g5,ho⟩:∃a b c:Int,Qqj6 "post" [a,b,c]=true/\(r % 11=5/\a=1000000000/\b= -1000000000/\c=1000000000\/¬r % 11=5/\a=r % 2001-1000/\b=r / 2001 % 7/\c=1+r % 50):=by
  by_cases Eb:r % 11=5
  ·exact⟨_,_,_,UH ⟨by lia,by lia⟩ ⟨by lia,by lia⟩ ⟨by lia,by lia⟩,.inl ⟨Eb,rfl,rfl,rfl⟩⟩
  ·exact⟨_,_,_,UH ⟨by lia,by lia⟩ ⟨by lia,by lia⟩ ⟨by lia,by lia⟩,.inr ⟨Eb,rfl,rfl,rfl⟩⟩
 by_cases RL:T.length=40
 ·exact⟨T,Z1n RL h3 hr g5 ho,hg,hT⟩
 ·refine⟨_,Z1o (by lia) h3 hr g5 ho,λt ht=>?_,by simp;lia⟩;rcases ah.mp ht with ht|ht
  ·exact hg t ht
  ·rw[qC.mp ht];exact⟨g5,by simp⟩
def Z1J{T:List Th}(hg:∀t∈T,Qqj6 t.1 t.2=true/\t.2.length<=90)(hT:T.length<=40){cell:Int}(h3:cell % 3=1):Dn T cell:=by
 refine⟨T,?_,hg,hT⟩;obtain⟨r,hr⟩:∃r:Int,cell / 3 % 1000000000=r:=⟨_,rfl⟩;obtain⟨i,hi⟩:∃i:Nat,r % 8=i:=⟨(r % 8).toNat,by lia⟩;have hlb:P6.length=8:=rfl;obtain⟨s,hs⟩:∃s,P6[i]?=some s:=⟨_,Ϭ (by lia)⟩;obtain⟨o1,o2⟩:=Z2a hT s (lx hs);have hx:([.str "post 1 1 0",.str "posts 1 1 1",.str "fence 1 1 1 1 1",.str "cloth 1 1 1",.str "sail 1 1 0 2 3",.str "post",.str "",.str "5"]:List PV)[i]?=some (.str s):=by have:([.str "post 1 1 0",.str "posts 1 1 1",.str "fence 1 1 1 1 1",.str "cloth 1 1 1",.str "sail 1 1 0 2 3",.str "post",.str "",.str "5"]:List PV)=P6.map λs=>PV.str (Ä s):=rfl;rw[this,ķ,hs];rfl
 have iw:(Qqj7 T).length<=16777216:=by rw[Qqj8];lia
 have h30:¬cell % 3=0:=by lia
 by_cases RL:T.length=40
 ·have hl:((Qqj7 T).length:Int)=40:=by rw[Qqj8];lia
  have q:=eqT P8;rw[Nw,if_pos RL] at o2;generalize YT T=Y,Qqj7 T=RV,sV (wC "put " ++ wC s)=PR,Ä s=ss at*;simp[ci,Ů,ŭ,ce,ì,Ñ,hr,h3,hi,hl,iw,hx,o1,o2,q,fj,wX,MR.of,Ŧ]
 ·have hl:¬((Qqj7 T).length:Int)=40:=by rw[Qqj8];lia
  have q:=eqT Z2u;rw[Nw,if_neg RL] at o2;generalize YT T=Y,Qqj7 T=RV,sV (wC "put " ++ wC s)=PR,Ä s=ss at*;simp[ci,Ů,ŭ,ce,ì,Ñ,hr,h3,hi,hl,iw,hx,o1,o2,q,fj,wX,MR.of,Ŧ]
def Z1p{T:List Th}(hg:∀t∈T,Qqj6 t.1 t.2=true/\t.2.length<=90)(hT:T.length<=40){cell r:Int}(h3:cell % 3=2)(hr:cell / 3 % 1000000000=r)(h9:r % 9=4):Dn T cell:=by
 refine⟨T,?_,hg,hT⟩;obtain⟨i,hi⟩:∃i:Nat,r / 9 % 5=i:=⟨(r / 9 % 5).toNat,by lia⟩;have hlb:P7.length=5:=rfl;obtain⟨s,hs⟩:∃s,P7[i]?=some s:=⟨_,Ϭ (by lia)⟩;have o2:=Z2b (T:=T) s (lx hs);have hx:([.str "put",.str "take",.str "take 1 1",.str "put post 1 1 x",.str "put post 1  1"]:List PV)[i]?=some (.str s):=by have:([.str "put",.str "take",.str "take 1 1",.str "put post 1 1 x",.str "put post 1  1"]:List PV)=P7.map λs=>PV.str (Ä s):=rfl;rw[this,ķ,hs];rfl
 have q:=eqT P8;generalize YT T=Y,Qqj7 T=RV,Ä s=ss at*;simp[ci,Ů,ŭ,ce,ì,Ñ,hr,h3,h9,hi,hx,o2,q,MR.of,Ŧ]
def Z0H(T:List Th)(k:Nat):(Qqj7 T).eraseIdx k=Qqj7 (T.eraseIdx k):=by unfold Qqj7;rw[qF,qF,ŀ,qG,qH]
def Z1q{T:List Th}(hg:∀t∈T,Qqj6 t.1 t.2=true/\t.2.length<=90)(hT:T.length<=40){cell r:Int}(h3:cell % 3=2)(hr:cell / 3 % 1000000000=r)(h9:¬r % 9=4):Dn T cell:=by
 obtain⟨k,hk⟩:∃k:Int,r % 42-1=k:=⟨_,rfl⟩;have nb:Nb k:=⟨by lia,by lia⟩;have st:=Zu nb;have ta:=(Zx nb).1;have iw:(Qqj7 T).length<=16777216:=by rw[Qqj8];lia
 by_cases h0:k<0
 ·refine⟨T,?_,hg,hT⟩;have sd:=WL hT nb (.inl h0);have q:=eqT P8;generalize YT T=Y,Qqj7 T=RV,sV (Qqj0 [wC "take",nT k])=PR,ģ k=N at*;simp[ci,Ů,ŭ,ce,ì,Ñ,hr,h3,h9,hk,h0,st,ta,sd,q,iw,MR.of,Ŧ,-dF]
 ·by_cases h1:(T.length:Int)<=k
  ·refine⟨T,?_,hg,hT⟩;have sd:=WL hT nb (.inr h1);have q:=eqT P8;have h2:((Qqj7 T).length:Int)<=k:=by rw[Qqj8];exact h1
   generalize YT T=Y,Qqj7 T=RV,sV (Qqj0 [wC "take",nT k])=PR,ģ k=N at*;simp[ci,Ů,ŭ,ce,ì,Ñ,hr,h3,h9,hk,h0,h2,st,ta,sd,q,iw,MR.of,Ŧ,-dF]
  ·have WQ:0<=k:=by lia
   have ek:((k.toNat:Nat):Int)=k:=by lia
   refine⟨T.eraseIdx k.toNat,?_,λt ht=>hg t (List.mem_of_mem_eraseIdx ht),by have:=yb T k.toNat;lia⟩;have sd:=Z2c hT (k:=k.toNat) (by lia);rw[ek] at sd;have q:=WM WN;have h2:¬((Qqj7 T).length:Int)<=k:=by rw[Qqj8];exact h1
   have h4:k<1000000:=by lia
   have h5:k.toNat<(Qqj7 T).length:=by rw[Qqj8];lia
   rw[<-Z0H];generalize YT (T.eraseIdx k.toNat)=Y2,YT T=Y,Qqj7 T=RV,sV (Qqj0 [wC "take",nT k])=PR,ģ k=N at*;have pp:ql 1 (Ĉ 4) [.rc "Desk" ["yard"] [Y],.pw RV,.sh (.int cell),.sh (.int r),.sh (.int k),.no,.no,.no,.no]=.ok .nx [.rc "Desk" ["yard"] [Y],.pw (RV.eraseIdx k.toNat),.sh (.int cell),.sh (.int r),.sh (.int k),.no,.no,.no,.no]:=by show(if 0<=k/\k<1000000/\k.toNat<RV.length then _ else _)=_;rw[if_pos ⟨WQ,h4,h5⟩];rfl
   clear ek h5 h4;generalize k.toNat=j at*;simp[ci,Ů,ŭ,ce,ì,Ñ,hr,h3,h9,hk,h0,WQ,h2,st,ta,sd,q,iw,pp,MR.of,Ŧ,-dF,-Fw]
def Z2d{T:List Th}(hg:∀t∈T,Qqj6 t.1 t.2=true/\t.2.length<=90)(hT:T.length<=40)(cell:Int):Dn T cell:=by
 have:cell % 3=0\/cell % 3=1\/cell % 3=2:=by lia
 rcases this with h|h|h
 ·exact Z1I hg hT h
 ·exact Z1J hg hT h
 ·by_cases h9:cell / 3 % 1000000000 % 9=4
  ·exact Z1p hg hT h rfl h9
  ·exact Z1q hg hT h rfl h9
def WS:Ä "; " =S [59,32]:=by decide +kernel
def Z2v{ls:List (List Nat)}(h0:ls≠[])(h:∀l∈ls,10∉l):jd (S (Ĭ [10] ls)) (Ä "\n") (Ä "; ")=S (Ĭ [59,32] ls):=by rw[Pr,WS];have e:=PySem.StrLaws.replace_one (S (Ĭ [10] ls)) (S [59,32]) 10;have e2:=Sp.vp (S (Ĭ [10] ls)) (c:=10) (by lia);have e3:(S (Ĭ [10] ls)).cps.toList=Ĭ [10] ls:=rfl;rw[e3,Sp.eW 10 ls h0 h] at e2;have e4:=uu (S [59,32]) ls;refine e.trans ?_;rw[<-e4];exact congrArg _ e2
def Z1K{ys:List (List Nat)}{B:Nat}(h:∀x∈ys,x.length<=B)(hl:ys.length*(B+2)<=16000000):bF (.str "; ") [.lst (ys.map sV)]=some (sV (Ĭ [59,32] ys)):=by rw[WS];show((gh (ys.map sV)).bind λys=>if(ys.map aN).sum+ys.length*(S [59,32]).length<=16777216 then some (PV.str (S (Ĭ (S [59,32]).cps.toList ys))) else none)=_;rw[UF];have h1:=UG ys B h;have h2:(S [59,32]).length=2:=rfl;show(if(ys.map aN).sum+ys.length*(S [59,32]).length<=16777216 then some (PV.str (S (Ĭ [59,32] ys))) else none)=_;rw[h2,if_pos (by rw[Nat.mul_add] at hl;lia)];rfl
def zS(T:List Th):List Nat:=Ĭ [59,32] (pj 1 1 T [])
def WT(T:List Th):(pj 1 1 T []).map sV=.str "yard 1 1" ::Qqj7 T:=by
 rw[WC,á,List.flatMap_nil,ϩ,ŷ];have:Qqj0 (yT 1 1)=wC "yard 1 1" := by decide +kernel
 rw[this,<-ZD];rfl
def Zj:(1:Int)<=1/\(1:Int)<=20:=by lia
def WU{T:List Th}(hg:∀t∈T,Qqj6 t.1 t.2=true)(hT:T.length<=40):(∀l∈pj 1 1 T [],10∉l/\l.length<=1212)/\(pj 1 1 T []).length<=41:=by
 constructor
 ·intro l hl;rcases ė.mp hl with rfl|hl
  ·obtain⟨y1,y2,y3⟩:=P5 Zj Zj;exact⟨UD y1,Zr y1 y3⟩
  ·obtain⟨r,hr,rfl⟩:=ĸ.mp hl;obtain⟨h1,h2,h3⟩:=ZG (ZV (D:=[]) hg (by simp) r hr);exact⟨UD h1,Zr h1 h3⟩
 ·unfold pj Zn;simp;lia
def WV{T:List Th}(hg:∀t∈T,Qqj6 t.1 t.2=true)(hT:T.length<=40):bF (.str "; ") [.lst (.str "yard 1 1" ::Qqj7 T)]=some (sV (zS T)):=by obtain⟨h1,h2⟩:=WU hg hT;rw[<-WT];exact Z1K (B:=1212) (λx hx=>(h1 x hx).2) (by have:(pj 1 1 T []).length*(1212+2)<=41*1214:=gm h2 (by lia);lia)
def WW{T:List Th}(hg:∀t∈T,Qqj6 t.1 t.2=true)(hT:T.length<=40):cX ["yard"] [YT T] none [.str "show"]=.ret (sV (zS T)) ["yard"] [YT T] none:=by
 obtain⟨h1,h2⟩:=WU hg hT;have sh:=Qqj28 Zj Zj hg hT (D:=[]) (by simp) (by simp);have rp:=Z2v (ls:=pj 1 1 T []) (by unfold pj;simp) λl hl=>(h1 l hl).1;have jl:=ZN (c:=10) (pj 1 1 T []) 1212 λl hl=>(h1 l hl).2;have jl2:(pj 1 1 T []).length*(1212+1)<=41*1213:=gm h2 (by lia);have jl3:(S (pk 1 1 T [])).length<=100000:=by rw[Zd];unfold pk;lia
 have z2:(Ä "; ").length=2:=by decide +kernel
 have bd:(S (pk 1 1 T [])).length+((S (pk 1 1 T [])).length+1)*(Ä "; ").length<=16777216:=by rw[z2];lia
 have an:vG [.sh (YT T),.sh (.lst [])]=.ret (.sh (sV (zS T))):=by change vF [.sh (YT T)]=.ret (.sh (.str (S (pk 1 1 T [])))) at sh;change jd (S (pk 1 1 T [])) _ _=_ at rp;have e:sV (zS T)=.str (S (Ĭ [59,32] (pj 1 1 T []))):=rfl;rw[e];generalize S (pk 1 1 T [])=TX,YT T=Y,Ĭ [59,32] (pj 1 1 T [])=J at*;simp[vG,CV,Ñ,sh,bd,rp]
 have nb:im [.bw [.str "show"],.sh (.int 1)]=.ret (.ow []):=RD (W:=[.str "show"]) (k:=1) (ns:=[]) (by simp) rfl (by simp) (by simp);have r1:Fk "ROWS" ZJ (.str "show") (.cls "ROWS")=some (.bl false):=by kernel_rfl
 have r2:Fm "ROWS" ZJ (.cls "ROWS") (.str "show")=some (.tup [.int 0,.int 0,.cls "answer_show"]):=by kernel_rfl
 have ct:bx [PV.str (Ä "show")] (some 1) (some 1)=[]:=by decide +kernel
 have ct2:bx [PV.str (Ä "show")] (some 1) (some (1+0))=[]:=ct;have al:ø (.lst []) (.lst [])=some (.ow []):=ie (by simp);have aw:zL [.sh (YT T),.bw [.str "show"]]=.ret (.sh (sV (zS T))):=by generalize YT T=Y,sV (zS T)=Qqj at*;simp[zL,CW,Ñ,r1,r2,ct,nb,al,an,ϊ,jZ]
 have q1:=ŕ (show č (Ä "show")=true by decide +kernel) RE;have q2:=ŕ (show č (Ä "show")=true by decide +kernel) RF;rw[show decide (Ä "show" =Ä "put")=false by decide +kernel] at q1;rw[show decide (Ä "show" =Ä "take")=false by decide +kernel] at q2;have hs:ϻ (.str "show") [.str " "]=some (.ow [.str "show"]):=by kernel_rfl
 have f:ī ["Desk"] (Ä "yard") (.ins "Desk" ["yard"] [YT T])=some (YT T):=by unfold ī;simp
 generalize YT T=Y,sV (zS T)=Qqj at*;simp[cX,Ů,ŭ,kq,ì,Ñ,hs,q1,q2,f,aw,MR.of,Ŧ]
theorem WX{sep:List Nat}{c:Nat}:∀ys:List (List Nat),c∈Ĭ sep ys->c∈sep\/∃y∈ys,c∈y
 | [],h=>by simp[Ĭ] at h
 | [x],h=>.inr ⟨x,by simp,h⟩
 |x::y::r,h=>by
  have h':c∈x++sep++Ĭ sep (y::r):=h;rw[qz,ah,ah] at h';rcases h' with h|h|h
  ·exact .inr ⟨x,by simp,h⟩
  ·exact .inl h
  ·rcases WX (y::r) h with h|⟨z,hz,h⟩
   ·exact .inl h
   ·exact .inr ⟨z,ù _ hz,h⟩
def Z2D{T:List Th}(hg:∀t∈T,Qqj6 t.1 t.2=true):č (S (zS T))=true:=by
 refine DG.ok λc hc=>?_;rcases WX _ hc with h|⟨y,hy,h⟩
 ·have:c=59\/c=32:=by simpa using h
  lia
 ·have W:∀ws:List (List Nat),(∀x∈ws,Wd x)→∀c∈Qqj0 ws,c<1000:=fun ws hws c hc=>by
   rcases UC _ hc with e|⟨y,hy,e⟩
   ·lia
   ·have:=(hws y hy).2 c e;lia
  rcases ė.mp hy with rfl|hy
  ·exact W _ (P5 Zj Zj).1 c h
  ·obtain⟨r,hr,rfl⟩:=ĸ.mp hy;exact W _ (ZG (ZV (D:=[]) hg (by simp) r hr)).1 c h
def RM{a b:List Nat}(ha:a.length<=10000)(hb:b.length<=10000):ø (sV a) (sV b)=some (.sh (sV (a++b))):=by
 have l2:(S a).length<=10000:=by rw[Zd];exact ha
 have l3:(S b).length<=10000:=by rw[Zd];exact hb
 unfold sV ø;simp only;rw[if_pos (by lia)];congr 3;exact ao (by simp[jc])
def pT(f:Int)(k:Nat):Th:=("post",[f+k,k,1+(k:Int) % 9])
def Z2e{f:Int}(hf:0<=f/\f<1000){k:Nat}(hk:k<40):Qqj6 (pT f k).1 (pT f k).2=true:=UH ⟨by lia,by lia⟩ ⟨by lia,by lia⟩ ⟨by lia,by lia⟩
def Z1r{f:Int}(hf:0<=f/\f<1000){m:Nat}(hm:m<=40):ϊ (gN 1) ś (ä (Ě ø (ä (Ě ø (ä (Ě ø (ä (Ě ø (ä (Ě ø (mC (.str "post ")) (bt ώ (Í (ä (Ě ø (Ì 0) (Ì 1))) å)))) (mC (.str " ")))) (bt ώ (Í (Ì 1) å)))) (mC (.str " ")))) (bt ώ (Í (ä (Ě ø (Ø 1) (Þ ae (Ì 1) (Ø 9)))) å)))) ((ϑ m).map λ(i:Nat)=>PV.int (i:Int)) [.sh (.int f),.no] []=some (Qqj7 ((ϑ m).map (pT f))):=by
 have:=Ű (g:=gN 1) (mt:=ś) (me:=ä (Ě ø (ä (Ě ø (ä (Ě ø (ä (Ě ø (ä (Ě ø (mC (.str "post ")) (bt ώ (Í (ä (Ě ø (Ì 0) (Ì 1))) å)))) (mC (.str " ")))) (bt ώ (Í (Ì 1) å)))) (mC (.str " ")))) (bt ώ (Í (ä (Ě ø (Ø 1) (Þ ae (Ì 1) (Ø 9)))) å)))) (λ(i:Nat)=>PV.int (i:Int)) (λi=>sV (Qqj0 (Ŵ (.th (pT f i))))) (λU=>∃s,U=[.sh (.int f),s]) (ϑ m) [.sh (.int f),.no] [] ⟨_,rfl⟩ (by simp;lia) (by
  rintro i hi U ⟨s,rfl⟩;have RT:=lu.mp hi;have n1:Nb (f+i):=⟨by lia,by lia⟩;have n2:Nb (i:Int):=⟨by lia,by lia⟩;have n3:Nb (1+(i:Int) % 9):=⟨by lia,by lia⟩;have s1:=Zu n1;have s2:=Zu n2;have s3:=Zu n3;have l1:=(ZA n1.1 n1.2).2;have l2:=(ZA n2.1 n2.2).2;have l3:=(ZA n3.1 n3.2).2;have lp:(wC "post ").length=5:=by decide +kernel
  have lb:(wC " ").length=1:=by decide +kernel
  have a1:ø (.str "post ") (ģ (f+i))=some (.sh (sV (wC "post " ++ nT (f+i)))):=RK (by lia) (by lia);have a2:ø (sV (wC "post " ++ nT (f+i))) (.str " ")=some (.sh (sV (wC "post " ++ nT (f+i)++wC " "))):=by rw[ZD " "];exact RM (by simp;lia) (by lia)
  have a3:ø (sV (wC "post " ++ nT (f+i)++wC " ")) (ģ i)=some (.sh (sV (wC "post " ++ nT (f+i)++wC " " ++ nT i))):=RM (by simp;lia) (by lia);have a4:ø (sV (wC "post " ++ nT (f+i)++wC " " ++ nT i)) (.str " ")=some (.sh (sV (wC "post " ++ nT (f+i)++wC " " ++ nT i++wC " "))):=by rw[ZD " "];exact RM (by simp;lia) (by lia)
  have a5:ø (sV (wC "post " ++ nT (f+i)++wC " " ++ nT i++wC " ")) (ģ (1+(i:Int) % 9))=some (.sh (sV (wC "post " ++ nT (f+i)++wC " " ++ nT i++wC " " ++ nT (1+(i:Int) % 9)))):=RM (by simp;lia) (by lia);have er:Qqj0 (Ŵ (.th (pT f i)))=wC "post " ++ nT (f+i)++wC " " ++ nT i++wC " " ++ nT (1+(i:Int) % 9):=by
   have e1:wC "post " =wC "post" ++ [32]:=by decide +kernel
   have e2:wC " " =[32]:=by decide +kernel
   rw[e1,e2];show wC "post" ++ [32]++(nT (f+i) ++ [32]++(nT i ++ [32]++nT (1+(i:Int) % 9)))=_;simp
  refine⟨[.sh (.int f),.sh (.int i)],_,[.sh (.int f),.sh (.int i)],by simp,rfl,?_,_,rfl⟩;rw[er];generalize sV (wC "post " ++ nT (f+i)++wC " " ++ nT i++wC " " ++ nT (1+(i:Int) % 9))=Qqj5,sV (wC "post " ++ nT (f+i)++wC " " ++ nT i++wC " ")=Qqj4,sV (wC "post " ++ nT (f+i)++wC " " ++ nT i)=Qqj3,sV (wC "post " ++ nT (f+i)++wC " ")=Qqj2,sV (wC "post " ++ nT (f+i))=Qqj1,ģ (f+i)=N1 at*;generalize ģ (i:Int)=N2 at*;generalize ģ (1+(i:Int) % 9)=N3 at*;simp[s1,s2,s3,a1,a2,a3,a4,a5,-dF])
 unfold Qqj7;rw[ŷ];simpa[lr] using this
def WY{T:List Th}(hg:∀t∈T,Qqj6 t.1 t.2=true):da (sV (zS T)) (sV (zS T))=some (.bl false)/\Ŀ (sV (zS T)) (sV (zS T))=some (.bl true):=by have pl:=Z2D hg;exact⟨Ax (by unfold sV ť;exact pl) (by unfold sV kT;decide),qd (by unfold sV ť;exact pl) (by unfold sV kT;decide)⟩
def Z2f{T:List Th}(hg:∀t∈T,Qqj6 t.1 t.2=true/\t.2.length<=90)(hT:T.length<=40)(cell:Int)(s0 s1 s3:di):∃T':List Th,nU [s0,s1,.sh (.int cell),s3,.ow (Qqj7 T),.rc "Desk" ["yard"] [YT T]]=.ok .nx [s0,s1,.sh (.int cell),s3,.ow (Qqj7 T'),.rc "Desk" ["yard"] [YT T']]/\(∀t∈T',Qqj6 t.1 t.2=true/\t.2.length<=90)/\T'.length<=40:=by
 obtain⟨T',e,h1,h2⟩:=Z2d hg hT cell;refine⟨T',?_,h1,h2⟩;have Vu:∀t∈T',Qqj6 t.1 t.2=true:=λt ht=>(h1 t ht).1;have sh:=WW Vu h2;have jn:=WV Vu h2;have ne:=(WY Vu).1;have ad:ø (.lst [.str "yard 1 1"]) (.lst (Qqj7 T'))=some (.ow (.str "yard 1 1" ::Qqj7 T')):=by rw[ie (by simp[Qqj8];lia)];rfl
 have n2:(Ä "say" =Ä "yard")=False:=eq_false (by decide +kernel);generalize YT T=Y at*;generalize YT T'=Y',Qqj7 T=RV at*;generalize Qqj7 T'=RV',sV (zS T')=Qqj at*;simp[nU,e,sh,jn,ne,ad,n2]
theorem WZ(s0 s1 s3:di):∀(cs:List Int) (T:List Th) (s2:di),(∀t∈T,Qqj6 t.1 t.2=true/\t.2.length<=90)->T.length<=40->∃(T':List Th) (DX:di),gf (gN 2) nU (cs.map .int) [s0,s1,s2,s3,.ow (Qqj7 T),.rc "Desk" ["yard"] [YT T]]=.ok .nx [s0,s1,DX,s3,.ow (Qqj7 T'),.rc "Desk" ["yard"] [YT T']]/\(∀t∈T',Qqj6 t.1 t.2=true/\t.2.length<=90)/\T'.length<=40
 | [],T,s2,h1,h2=>⟨T,s2,rfl,h1,h2⟩
 |c::cs,T,s2,h1,h2=>by obtain⟨T1,e1,q1,q2⟩:=Z2f h1 h2 c s0 s1 s3;obtain⟨T2,DX,e2,q3,q4⟩:=WZ s0 s1 s3 cs T1 (.sh (.int c)) q1 q2;refine⟨T2,DX,?_,q3,q4⟩;rw[á,gf];show(nU [s0,s1,.sh (.int c),s3,.ow (Qqj7 T),.rc "Desk" ["yard"] [YT T]]).bind _=_;rw[e1];exact e2
def UI(xs:List Int)(lo hi:Option Int):∃ys:List Int,bx (xs.map PV.int) lo hi=ys.map PV.int:=by refine⟨(xs.drop (HT.gC xs.length 0 lo)).take (HT.gC xs.length xs.length hi-HT.gC xs.length 0 lo),?_⟩;unfold bx;rw[Ŏ,qG,qH]
theorem W_(s0 s3 s4 s5:di):∀(cs:List Int) (m:Int) (s2:di),36<=m/\m<=40->∃(m':Int) (DX:di),gf (gN 2) nW (cs.map .int) [s0,.sh (.int m),s2,s3,s4,s5]=.ok .nx [s0,.sh (.int m'),DX,s3,s4,s5]/\36<=m'/\m'<=40
 | [],m,s2,h=>⟨m,s2,rfl,h⟩
 |c::cs,m,s2,h=>by
  obtain⟨m',DX,e,q⟩:=W_ s0 s3 s4 s5 cs (36+c % 5) (.sh (.int c)) (by lia);refine⟨m',DX,?_,q⟩;have st:nW [s0,.sh (.int m),.sh (.int c),s3,s4,s5]=.ok .nx [s0,.sh (.int (36+c % 5)),.sh (.int c),s3,s4,s5]:=by simp[nW]
  rw[á,gf];show(nW [s0,.sh (.int m),.sh (.int c),s3,s4,s5]).bind _=_;rw[st];exact e
theorem W0(s0 s1 s4 s5:di):∀(cs:List Int) (m:Int) (s2:di),0<=m/\m<1000->∃(m':Int) (DX:di),gf (gN 2) nV (cs.map .int) [s0,s1,s2,.sh (.int m),s4,s5]=.ok .nx [s0,s1,DX,.sh (.int m'),s4,s5]/\0<=m'/\m'<1000
 | [],m,s2,h=>⟨m,s2,rfl,h⟩
 |c::cs,m,s2,h=>by
  obtain⟨m',DX,e,q⟩:=W0 s0 s1 s4 s5 cs (c % 1000) (.sh (.int c)) (by lia);refine⟨m',DX,?_,q⟩;have st:nV [s0,s1,.sh (.int c),.sh (.int m),s4,s5]=.ok .nx [s0,s1,.sh (.int c),.sh (.int (c % 1000)),s4,s5]:=by simp[nV]
  rw[á,gf];show(nV [s0,s1,.sh (.int c),.sh (.int m),s4,s5]).bind _=_;rw[st];exact e
def Z2w{l:eB}{w:Ô}{K:Æ}{mg:Str->Option Á}{fa:À}{a:vH}(T:Tx K mg a w.params)(hfa:mg "law" =some (.ref fa)):∃fd:ú,(∀(s:Â) (v:Á),aR s fd ⟨[v],[]⟩ [("_law_script",v)])/\∀base:Ë,K.In base->base.Ns Ź mg->∃cm,Ď l.prog w K mg base (Ϟ l.prog w) 11 fa fd ["_law_script"] (bX ⟨K,cm⟩ 1 qr):=by have e:=hfa.symm.trans T.Db.m;cases e;exact⟨a.C6,λs v=>T.Db.bb s [v] rfl,λbase _ _=>⟨_,MT T⟩⟩
def Z1L(ns:List Int)(hn:ns.length<=63):qr [.sh (.lst (ns.map .int))]=.ret (.sh (.bl true)):=by
 obtain⟨c1,e1⟩:=UI ns none (some 1);obtain⟨c2,e2⟩:=UI ns (some 1) (some 2);obtain⟨c3,e3⟩:=UI ns (some 2) (some 26);obtain⟨m,sA,l1,hm⟩:=W_ (.sh (.lst (ns.map .int))) .no .no .no c1 40 .no (by lia);obtain⟨f,sB,l2,hf⟩:=W0 (.sh (.lst (ns.map .int))) (.sh (.int m)) .no .no c2 0 sA (by lia);obtain⟨k,rfl⟩:∃k:Nat,m=k:=⟨m.toNat,by lia⟩;have pc:=Z1r hf (m:=k) (by lia);have Xq:∀t∈(ϑ k).map (pT f),Qqj6 t.1 t.2=true/\t.2.length<=90:=λt ht=>by obtain⟨i,hi,rfl⟩:=ĸ.mp ht;exact⟨Z2e hf (by have:=lu.mp hi;lia),by simp[pT]⟩
 have Vv:((ϑ k).map (pT f)).length<=40:=by simp;lia
 have rg:pU [.int (k:Int)]=some ((ϑ k).map λ(i:Nat)=>PV.int (i:Int)):=by
  have hs:mY (k:Int)=true:=by unfold mY;simp;lia
  unfold pU ik;simp[hs]
 generalize (ϑ k).map (pT f)=T0 at*;have Xr:∀t∈T0,Qqj6 t.1 t.2=true:=λt ht=>(Xq t ht).1;have jn:=WD Zj Zj Xr Vv (D:=[]) (by simp) (by simp);rw[WT] at jn;have rd:=Qqj25 Zj Zj Xr Vv (D:=[]) (by simp) (by simp) (by simp);change vE [.sh (sV (pk 1 1 T0 []))]=.ret (.sh (YT T0)) at rd;have mk:l_ [.sh (sV (pk 1 1 T0 []))]=.ok ["yard"] [YT T0]:=by generalize sV (pk 1 1 T0 [])=TX,YT T0=Y at*;simp[l_,bj,xA,aD,ì,Ñ,rd,IR.of,putN,nq]
 have ad0:ø (.lst [.str "yard 1 1"]) (.lst (Qqj7 T0))=some (.ow (.str "yard 1 1" ::Qqj7 T0)):=by rw[ie (by simp[Qqj8];lia)];rfl
 obtain⟨T1,sC,l3,Vd,Xs⟩:=WZ (.sh (.lst (ns.map .int))) (.sh (.int k)) (.sh (.int f)) c3 T0 sB Xq Vv;have UJ:∀t∈T1,Qqj6 t.1 t.2=true:=λt ht=>(Vd t ht).1;have sh:=WW UJ Xs;have jn1:=WV UJ Xs;have eq:=(WY UJ).2;have ad1:ø (.lst [.str "yard 1 1"]) (.lst (Qqj7 T1))=some (.ow (.str "yard 1 1" ::Qqj7 T1)):=by rw[ie (by simp[Qqj8];lia)];rfl
 have n2:(Ä "say" =Ä "yard")=False:=eq_false (by decide +kernel);have hl0:(ns.map PV.int).length<=16777216:=by simp;lia
 generalize ns.map PV.int=NS,c1.map PV.int=C1,c2.map PV.int=C2,c3.map PV.int=C3,YT T0=Y0,YT T1=Y1,Qqj7 T0=R0,Qqj7 T1=R1,sV (pk 1 1 T0 [])=TX,sV (zS T1)=Qqj at*;generalize ((ϑ k).map λ(i:Nat)=>PV.int (i:Int))=RG at*;simp[qr,CY,Ñ,e1,e2,e3,l1,l2,rg,jZ,uP,pc,ad0,jn,mk,xu,l3,sh,jn1,eq,ad1,n2,hl0]
def Z2x{l:eB}{q:Ù}{ib:List Str}{XP:(Str->Option Á)->Ë->Prop}{YP:Ô->Ë->Prop}{d:DefRec}{K:ĺ->Æ}(hn:l.most=some 63)(MV:d.params.defaults=[])
 (hY:∀(w:Ô) (h:Ë),YP w h->(K w.params).In h)
 (F:∀(w:Ô) (mg:Str→Option Á) (fa:À) (h:Ë),(K w.params).In h→h.Ns Ź mg→mg d.name=some (.ref fa)→
   ∃fd:ú,(∀(s:Â) (u:Á),aR s fd ⟨[u],[]⟩ [("_law_script",u)])/\∀base:Ë,(K w.params).In base->base.Ns Ź mg->∃cm,Ď l.prog w (K w.params) mg base (Ϟ l.prog w) 11 fa fd ["_law_script"] (bX ⟨K w.params,cm⟩ 1 qr)) :
 lO q ib XP YP l.row.toRowW d [] (λf vs=>lF f vs):=
 P.Av (k:=11) (x:= "_law_script") (m:=qr) hn MV ⟨rfl,by decide,by decide⟩ hY F Z1L
end
end T
namespace PySem.W.Fast
def tw1782947050223493406:=Nat
def tw18201604917675505848:=Nat
def tw12079492897031784162:=Nat
def tw1154761064215459085:=Nat
def tw17081126141200715143:=Nat
def tw13071451267673880418:=Nat
def tw9860854311589219126:=Nat
def tw16825303206716359772:=Nat
def tw14135360695207080392:=Nat
def tw15267760012875485326:=Nat
def tw11195901712869544983:=Nat
def tw5824456171925801074:=Nat
def tw11362521542848632154:=Nat
def tw11090639987221011528:=Nat
def tw8819332053233978891:=Nat
def tw15164241083894198900:=Nat
def tw17183209203431297216:=Nat
def tw6166543968014020555:=Nat
def tw7959503058674048017:=Nat
def tw16191992845166590312:=Nat
def tw4459634480648272169:=Nat
def tw12815573238131008618:=Nat
def tw6770485062226743949:=Nat
def tw7816172705600238172:=Nat
def tw16732436233427211958:=Nat
def tw12486715606668217364:=Nat
def tw12674883135279793773:=Nat
def tw10243818847797898560:=Nat
def tw224887320214505990:=Nat
def tw4082854928865758555:=Nat
def tw5984777467838343021:=Nat
def tw9506911918372296194:=Nat
def tw7657153896373798133:=Nat
def tw15693121125370743569:=Nat
def tw4613467010626337406:=Nat
def tw163362584104961507:=Nat
def tw15550313553293953410:=Nat
def tw9085748394225896252:=Nat
def tw424140430553664874:=Nat
def tw349743721365296014:=Nat
def tw4165718237207237307:=Nat
def tw4762250289166705342:=Nat
def tw4240585867417359491:=Nat
def tw5114284103059097570:=Nat
def tw10041246876585546919:=Nat
def tw6649263471564207461:=Nat
def tw8293543465938987222:=Nat
def tw17442634171102390849:=Nat
def tw10846901993632394755:=Nat
def tw7576723156517531181:=Nat
def tw4620109529712789621:=Nat
def tw8545314300633834394:=Nat
def tw14454558151076632181:=Nat
def tw640808466422209734:=Nat
def tw2266806752504377778:=Nat
def tw14972070984418484455:=Nat
def tw1671488591793235945:=Nat
def tw6169888805487021204:=Nat
def tw1038117826251517557:=Nat
def tw18225171473104845196:=Nat
def tw17501638498711001579:=Nat
def tw8096387717013782750:=Nat
def tw8980269215873137046:=Nat
def tw17331075417296475832:=Nat
def tw10284905695836679991:=Nat
def tw4718727637767046374:=Nat
def tw5628185148248897292:=Nat
def tw3197741997542340768:=Nat
def tw16181644388825286224:=Nat
def tw6505851254730572082:=Nat
def tw9015794038995678509:=Nat
def tw13260749240304175038:=Nat
def tw11535098570676562296:=Nat
def tw1470121977251955316:=Nat
def tw12598118996393271028:=Nat
def tw8551706971997748787:=Nat
def tw12064929660747886423:=Nat
def tw14025194534491467462:=Nat
def tw6572577728882636217:=Nat
def tw18265512706954515066:=Nat
def tw2942510173308065764:=Nat
def tw7822001349604359:=Nat
def tw6180443738991053719:=Nat
def tw1119137028566743309:=Nat
def tw17369608227619796094:=Nat
def tw4618069255518948415:=Nat
def tw6461156891197642121:=Nat
def tw16093573297712029007:=Nat
def tw8588324569141702271:=Nat
def tw7579722726399022945:=Nat
def tw12942430095806565613:=Nat
def tw3498403335812935858:=Nat
def tw13350367367366699970:=Nat
def tw2957431017002825670:=Nat
def tw4394244790429504394:=Nat
def tw1878585217482109446:=Nat
def tw8297596131779339519:=Nat
def tw214061314090858120:=Nat
def tw2750192326264839362:=Nat
def tw14460762625334431095:=Nat
def tw14167241543146420070:=Nat
def tw6080100672339472634:=Nat
def tw8727534193650364670:=Nat
def tw12677792330954435063:=Nat
def tw4355470613890877733:=Nat
def tw7924473131929213015:=Nat
def tw5717040503654892827:=Nat
def tw11790339517934793483:=Nat
def tw3359628863410231085:=Nat
def tw8461027712654874232:=Nat
def tw13653927962177350168:=Nat
def tw8562015689901183877:=Nat
def tw3958970865319086882:=Nat
def tw15535979747010885611:=Nat
def tw17380031105773526281:=Nat
def tw3501519331434236847:=Nat
def tw14055764079444714740:=Nat
def tw13798347535019231410:=Nat
def tw5635974743595950658:=Nat
def tw10026124309484670256:=Nat
def tw18179229197013061080:=Nat
def tw3891976424620090664:=Nat
def tw9939926406599735589:=Nat
def tw16707915932346825866:=Nat
def tw772243025252579380:=Nat
def tw1887631641008792197:=Nat
def tw11242963063645835537:=Nat
def tw15887969442835423048:=Nat
def tw18234831970738157431:=Nat
def tw2073353628724869690:=Nat
def tw8368266717708924138:=Nat
def tw13842904735669729233:=Nat
def tw14012069813767760464:=Nat
def tw17547284020041819373:=Nat
def tw9228896646536810735:=Nat
def tw1220880635872911195:=Nat
def tw7059608696218020833:=Nat
def tw10758231498544698207:=Nat
def tw1124247617508958272:=Nat
def tw977450995881090105:=Nat
def tw15945352823097110114:=Nat
def tw15061125610750054942:=Nat
def tw11551215477005240319:=Nat
def tw11579854689659572652:=Nat
def tw4697674539537123513:=Nat
def tw12084507633553877770:=Nat
def tw4485941782583743751:=Nat
def tw15943707357906876054:=Nat
def tw9424132729806391003:=Nat
def tw7958952307192321196:=Nat
def tw14188068206148877259:=Nat
def tw1536141722231177602:=Nat
def tw16075291856126053120:=Nat
def tw7800027966290226574:=Nat
def tw5571484186506739980:=Nat
def tw14152645869920091283:=Nat
def tw10154378339557352646:=Nat
def tw1025418930636903725:=Nat
def tw7418393908479770312:=Nat
def tw2944783348984182040:=Nat
def tw5277778726890880012:=Nat
def tw11968292894723089232:=Nat
def tw67225790037357715:=Nat
def tw12738818796110307782:=Nat
def tw7463158273497060199:=Nat
def tw16949876996785809263:=Nat
def tw18102184759598457492:=Nat
def tw14496303890120367270:=Nat
def tw18178203031832434658:=Nat
def tw15171647293538067714:=Nat
def tw1044631262707465585:=Nat
def tw1074047532489349171:=Nat
def tw9632244132677759115:=Nat
def tw15994245166988749374:=Nat
def tw13324550340843291428:=Nat
def tw8001778193308342431:=Nat
def tw15060312650480890697:=Nat
def tw7530620133386638792:=Nat
def tw7341395119404847657:=Nat
def tw15396155346481234138:=Nat
def tw3989609976250531558:=Nat
def tw5211708172084189141:=Nat
def tw1993544590415012057:=Nat
def tw10908768996011737741:=Nat
def tw17463835504434782946:=Nat
def tw13453369494071891343:=Nat
def tw13443467471538551662:=Nat
def tw9854815749128818187:=Nat
def tw1676791428882691676:=Nat
def tw15522248883172277033:=Nat
def tw18433280992222263984:=Nat
def tw13452975835999211352:=Nat
def tw6870689173074012353:=Nat
def tw2656987799980920130:=Nat
def tw13393176661560541591:=Nat
def tw1422422523421303662:=Nat
def tw17590666078786542909:=Nat
def tw14216265642472586862:=Nat
def tw1150637397598837251:=Nat
def tw6553945914650290368:=Nat
def tw3864993315789216102:=Nat
def tw10987486651856117432:=Nat
def tw5265367362386659201:=Nat
def tw7239014334397547896:=Nat
def tw18088332352746192595:=Nat
def tw16926866399019709991:=Nat
def tw12653022219885302751:=Nat
def tw2297214646369922777:=Nat
def tw5772462560335684948:=Nat
def tw12673576095023913871:=Nat
def tw8789436698083596206:=Nat
def tw3562470185667039595:=Nat
def tw4778584175880937105:=Nat
def tw18002904085408796446:=Nat
def tw2134932454435870483:=Nat
def tw14755485772467314910:=Nat
def tw2388272435204671300:=Nat
def tw14729682902472509102:=Nat
def tw18164727816941013013:=Nat
def tw17161283583119936679:=Nat
def tw18337393978865428881:=Nat
def tw12116148436298116719:=Nat
def tw9211951946760787308:=Nat
def tw3166740311316118087:=Nat
def tw4580302224833326187:=Nat
def tw13478201238313035180:=Nat
def tw819557391793556910:=Nat
def tw2957281381258822747:=Nat
def tw14002025317702000456:=Nat
def tw17099873625294061814:=Nat
def tw16303731720398404763:=Nat
def tw16360913731175265666:=Nat
def tw10525277888797143982:=Nat
def tw14301923427462877945:=Nat
def tw8278950972379641203:=Nat
def tw7714970445667347696:=Nat
def tw14366720236090877337:=Nat
def tw8218541060801697217:=Nat
def tw11029833462520862299:=Nat
def tw10371612265552017482:=Nat
def tw13450365200009835768:=Nat
def tw11321952495673254908:=Nat
def tw11248966928691807599:=Nat
def tw16868691910345535272:=Nat
def tw17901826097855855357:=Nat
def tw10760953111623086064:=Nat
def tw3566930640844929693:=Nat
def tw10733339553215169905:=Nat
def tw7289651399136916504:=Nat
def tw777943926502054460:=Nat
def tw828915472569302361:=Nat
def tw2472895495029732162:=Nat
def tw11935097179463688527:=Nat
def tw10056192213942230588:=Nat
def tw15911277538885580997:=Nat
def tw16924711393747058401:=Nat
def tw7689526131517315025:=Nat
def tw3368547861171649932:=Nat
def tw13851423608533484733:=Nat
def tw3445284654339701120:=Nat
def tw3064010054646499521:=Nat
def tw2677157483833728175:=Nat
def tw14361741579770308714:=Nat
def tw11214225060489727037:=Nat
def tw1130103605170085757:=Nat
def tw8588393154310114013:=Nat
def tw8098592782951028784:=Nat
def tw14899093141910279758:=Nat
def tw3095462709778110179:=Nat
def tw2854430036067121885:=Nat
def tw2265136251403238539:=Nat
def tw5025082139426900216:=Nat
def tw14586497940194212204:=Nat
def tw11377719078663779486:=Nat
def tw9742234798360466444:=Nat
def tw3523113133537592752:=Nat
def tw11283610931432086852:=Nat
def tw14412119663766948990:=Nat
def tw5436355442448857442:=Nat
def tw13193113323503525427:=Nat
def tw16610878112204405101:=Nat
def tw5381690072497437996:=Nat
def tw13920407177922276246:=Nat
def tw17354982628621254889:=Nat
def tw3180846817824064164:=Nat
def tw7103901938416718489:=Nat
def tw227500643772924234:=Nat
def tw6531538422932534093:=Nat
def tw3911433848553580297:=Nat
def tw6746658587888635690:=Nat
def tw14759328828508598201:=Nat
def tw17726165071975471457:=Nat
def tw133144975139417841:=Nat
def tw5504257462770282094:=Nat
def tw6920413854339363531:=Nat
def tw14713590973787027369:=Nat
def tw17336554026930488694:=Nat
def tw18132647030329268639:=Nat
def tw12666898705653175965:=Nat
def tw2544332154456931791:=Nat
def tw2023764910150390808:=Nat
def tw6158491733813168818:=Nat
def tw10743219054987873474:=Nat
def tw1228766892144598618:=Nat
def tw2253993627627635163:=Nat
def tw10798912790123985040:=Nat
def tw16561396040678373563:=Nat
def tw17132077170778014008:=Nat
def tw17054249933089376703:=Nat
def tw15965260666214332911:=Nat
def tw7793212375680040152:=Nat
def tw14947526314744796879:=Nat
def tw10956549714879394893:=Nat
def tw14646544766201938913:=Nat
def tw17047973840459182271:=Nat
def tw1465891099066547856:=Nat
def tw15422784392479293391:=Nat
def tw9671924827346265637:=Nat
def tw3337888048493738818:=Nat
def tw10920485710338897651:=Nat
def tw8103644009365863650:=Nat
def tw17040620745757214177:=Nat
def tw3970835317274816944:=Nat
def tw4576889797042662163:=Nat
def tw18416001847339028456:=Nat
def tw350752842340478800:=Nat
def tw3818653482254339086:=Nat
def tw16006821511785136014:=Nat
def tw4274706207117119520:=Nat
def tw18132763624446915795:=Nat
def tw2762160935964860766:=Nat
def tw15961650736873409415:=Nat
def tw11371887735997459064:=Nat
def tw6297904923993412500:=Nat
def tw1333802056070898127:=Nat
def tw6059713806594442328:=Nat
def tw9426738609233218505:=Nat
def tw8359350845284296249:=Nat
def tw18227410448705026022:=Nat
def tw17803529971930513014:=Nat
def tw2661406225042952141:=Nat
def tw9100932961214978922:=Nat
def tw14556235936856224221:=Nat
def tw4855528891445951638:=Nat
def tw100792173079107285:=Nat
def tw2389473527461893926:=Nat
def tw18331802380448538902:=Nat
def tw705114905653443120:=Nat
def tw15262271618714974559:=Nat
def tw12201211326624999832:=Nat
def tw3188275587707616933:=Nat
def tw3816335965127345135:=Nat
def tw12848793312393330340:=Nat
def tw7433458971261425529:=Nat
def tw8962466577061212692:=Nat
def tw14825448006172472700:=Nat
def tw2080796537525436968:=Nat
def tw4523650614099326305:=Nat
def tw181727321398077789:=Nat
def tw3201804540158572580:=Nat
def tw9931604934802085686:=Nat
def tw4274585865160097965:=Nat
def tw11559341357225668835:=Nat
def tw12438315667112760351:=Nat
def tw2769428025016544968:=Nat
def tw9845350136828053496:=Nat
def tw9878159365442369538:=Nat
def tw607839216590758092:=Nat
def tw8544706323104466932:=Nat
def tw7174960216748420261:=Nat
def tw2655224925083289002:=Nat
def tw8739023649872768656:=Nat
def tw4498772793263800513:=Nat
def tw17322740443287902021:=Nat
def tw9403451182395754518:=Nat
def tw7609473199652742818:=Nat
def tw526999010286795126:=Nat
def tw16113579127563428684:=Nat
def tw12664966686278774922:=Nat
def tw14751176239085794010:=Nat
def tw10772149612475396397:=Nat
def tw836531144257308778:=Nat
def tw2462081804020296591:=Nat
def tw16490676215393099501:=Nat
def tw4716820053737833229:=Nat
def tw10233733546478577578:=Nat
def tw13997109310913042880:=Nat
def tw3617294664249210833:=Nat
def tw9907485587636115298:=Nat
def tw10745578882324459820:=Nat
def tw8675543005375300807:=Nat
def tw9896181599025781252:=Nat
def tw11454917726782968193:=Nat
def tw16795491302063547463:=Nat
def tw2078502323507438715:=Nat
def tw13884775100234536728:=Nat
def tw2707259181822585633:=Nat
def tw902284402113976923:=Nat
def tw12245712757690567556:=Nat
def tw11832437212837054060:=Nat
def tw6927961576913722323:=Nat
def tw10340388766243507165:=Nat
def tw6150234906953677997:=Nat
def tw16180564198446389484:=Nat
def tw3029559183213593216:=Nat
def tw5225898268182562300:=Nat
def tw7091100433878509512:=Nat
def tw3462808773114571966:=Nat
def tw771985228444804697:=Nat
def tw13339223015766676011:=Nat
def tw17711698276426959943:=Nat
def tw4145658486135626210:=Nat
def tw12374757986821640963:=Nat
def tw18377420623005963014:=Nat
def tw9731629402396660776:=Nat
def tw3162578586389513109:=Nat
def tw14867294829999171483:=Nat
def tw4861948891708982862:=Nat
def tw18115608690809582706:=Nat
def tw12783794797390791127:=Nat
def tw8316336469771812312:=Nat
def tw15599985944766355252:=Nat
def tw16410745220490249181:=Nat
def tw10092855886255668639:=Nat
def tw10788013849043275805:=Nat
def tw1059664563269201937:=Nat
def tw10373981528177505285:=Nat
def tw10622896055980387561:=Nat
def tw5118471178169726335:=Nat
def tw9004860069077709205:=Nat
def tw16769250574192028584:=Nat
def tw3880227784306178671:=Nat
def tw13683309990826560337:=Nat
def tw13139586344420935176:=Nat
def tw6214823452990214540:=Nat
def tw13238124053686437839:=Nat
def tw16030573451452142086:=Nat
def tw10693984369684530081:=Nat
def tw8179240394393094780:=Nat
def tw13151774032239608958:=Nat
def tw6146579329827555318:=Nat
def tw11148553354877210910:=Nat
def tw16110977719401708944:=Nat
def tw8584970057993104322:=Nat
def tw5783734579116351174:=Nat
def tw6388777613933416505:=Nat
def tw1425160331811448934:=Nat
def tw14714921181093435327:=Nat
def tw8876206847642546825:=Nat
def tw18042697537907999751:=Nat
def tw5830997364263357706:=Nat
def tw15423612788210419189:=Nat
def tw10771059963751871294:=Nat
def tw14974418323838626114:=Nat
def tw12515911913734556025:=Nat
def tw10927143364163227638:=Nat
def tw201690618683345236:=Nat
def tw15059089701786000034:=Nat
def tw5712766717288151679:=Nat
def tw7353659157991249910:=Nat
def tw8843079305677164494:=Nat
def tw2785276148566249322:=Nat
def tw3764130382743900094:=Nat
def tw16207668380451405976:=Nat
def tw17702017343676243414:=Nat
def tw1326310680783900755:=Nat
def tw7811622269745169395:=Nat
def tw5731142744283302962:=Nat
def tw5240225380502472941:=Nat
def tw11064284769807130008:=Nat
def tw9130394023294625067:=Nat
def tw13401674124761742583:=Nat
def tw7264109796186349474:=Nat
def tw1915109737357523282:=Nat
def tw3970494724194499064:=Nat
def tw398449607478931399:=Nat
def tw11245288572230790381:=Nat
def tw13042444595090499121:=Nat
def tw11927737867163956797:=Nat
def tw15778944395487565050:=Nat
def tw5262575901077451607:=Nat
def tw1232716693032764147:=Nat
def tw14529881556867743210:=Nat
def tw3697978759489830989:=Nat
def tw14806919506316340265:=Nat
def tw553121918084054930:=Nat
def tw5461733310546627328:=Nat
def tw10422870523119476113:=Nat
def tw2342477688246362407:=Nat
def tw1136941146596591627:=Nat
def tw2905123273043851675:=Nat
def tw17678474568795750698:=Nat
def tw6055939111250832902:=Nat
def tw14183895528196640787:=Nat
def tw12232544434987429315:=Nat
def tw13617278435018144422:=Nat
def tw16206316664594224781:=Nat
def tw6225123110618976495:=Nat
def tw9573792113645782512:=Nat
def tw8412858293602627901:=Nat
def tw17872523121670098592:=Nat
def tw10389319346751791530:=Nat
def tw11099178588199626956:=Nat
def tw11173984637186836128:=Nat
def tw10569314767621531291:=Nat
def tw11311660671297626468:=Nat
def tw6214012625491452106:=Nat
def tw8022889798928359385:=Nat
def tw2684465787288839370:=Nat
def tw15518396043789979994:=Nat
def tw15531001713518196441:=Nat
def tw4557095405802002891:=Nat
def tw17268422427386903127:=Nat
def tw18299331332927879808:=Nat
def tw13617475067573960453:=Nat
def tw17551506085179193119:=Nat
def tw2269233375831963318:=Nat
def tw7181702174744844349:=Nat
def tw15210295885879451495:=Nat
def tw7184301659363465594:=Nat
def tw7213018714144145364:=Nat
def tw10004922530500234739:=Nat
def tw851148617845359515:=Nat
def tw9692229211909627175:=Nat
def tw11463342615950770847:=Nat
def tw12537183402143960119:=Nat
def tw11531434379517363484:=Nat
def tw6693324208208720525:=Nat
def tw15678886667624938870:=Nat
def tw5328883695996282966:=Nat
def tw6898867247544799319:=Nat
def tw6046555929908479773:=Nat
def tw14288357782606274741:=Nat
def tw11760354975481604370:=Nat
def tw15328869664363506604:=Nat
def tw15503699991786980930:=Nat
def tw15149483483140387434:=Nat
def tw8778376912010042579:=Nat
def tw14897688497744267411:=Nat
def tw5964278806302472406:=Nat
def tw16330177135731685575:=Nat
def tw4090567514502509492:=Nat
def tw4262611869911274057:=Nat
def tw12062764768771030751:=Nat
def tw15054930651253703322:=Nat
def tw6364432471893248333:=Nat
def tw14156648358226402781:=Nat
def tw10671116057577834915:=Nat
def tw4438604695034880464:=Nat
def tw12969568909626215486:=Nat
def tw9865820327075845998:=Nat
def tw1516304369773497718:=Nat
def tw15411058657832110703:=Nat
def tw4691483658811587403:=Nat
def tw2078850686535396624:=Nat
def tw11962634025382152976:=Nat
def tw5408399560462157507:=Nat
def tw4847791778363439807:=Nat
def tw16906733979483891013:=Nat
def tw1367132220104434446:=Nat
def tw17805929681884726826:=Nat
def tw15911046001991765050:=Nat
def tw11832825457892825397:=Nat
def tw17544778438714767440:=Nat
def tw9858150198566047317:=Nat
def tw9545409322720278557:=Nat
def tw5728036267722771282:=Nat
def tw12106082611458337988:=Nat
def tw2868615319543578804:=Nat
def tw2945042033973837179:=Nat
def tw12057975203429355903:=Nat
def tw11042309223865020134:=Nat
def tw12139167338979222784:=Nat
def tw15831888527049843185:=Nat
def tw9972205808341283973:=Nat
def tw1452985471577261662:=Nat
def tw18171339541009317503:=Nat
def tw2568974949197501631:=Nat
def tw9498518764178023410:=Nat
def tw18190218652577237599:=Nat
def tw5964804810628239818:=Nat
def tw4424741549849215416:=Nat
def tw16763809948954683456:=Nat
def tw15448064692654916862:=Nat
def tw5039347332001899061:=Nat
def tw8090678097698716981:=Nat
def tw10023812800544605135:=Nat
def tw9051560075944551756:=Nat
def tw267823082141385356:=Nat
def tw10166427685163904980:=Nat
def tw10484718173973523791:=Nat
def tw7401241191967625258:=Nat
def tw13265606611721966962:=Nat
def tw250749639701431865:=Nat
def tw3040813618158497118:=Nat
def tw14082679756587343718:=Nat
def tw15693765486476984197:=Nat
def tw13341864206607547738:=Nat
def tw14651627474108486523:=Nat
def tw11341288990034905149:=Nat
def tw16671970792389387604:=Nat
def tw10051093599640166829:=Nat
def tw5461146773233133038:=Nat
def tw7681534573731051213:=Nat
def tw12449760938882636186:=Nat
def tw2337605026121101324:=Nat
def tw3622164201045114363:=Nat
def tw11473513246673811171:=Nat
def tw6257283460345533784:=Nat
def tw4254610264942397408:=Nat
def tw16855014458934454291:=Nat
def tw236078272260806631:=Nat
def tw5588325859051932955:=Nat
def tw15676832192768061015:=Nat
def tw11384890365553820563:=Nat
def tw6159415892187246349:=Nat
def tw6152646603024331159:=Nat
def tw17461523030128404604:=Nat
def tw5488918462026004403:=Nat
def tw17451155091842364845:=Nat
def tw11361380424630054707:=Nat
def tw11711453499832277590:=Nat
def tw7452180066120238448:=Nat
def tw13236508399877118861:=Nat
def tw5697850684133677849:=Nat
def tw4982380996480103595:=Nat
def tw2090852215636351085:=Nat
def tw7034044059702408011:=Nat
def tw9829923324965861989:=Nat
def tw7988374731858393346:=Nat
def tw12804639207156785427:=Nat
def tw9426439365505832715:=Nat
def tw6628925869970716035:=Nat
def tw2450460734724200197:=Nat
def tw7729877461536057701:=Nat
def tw2607949081383613817:=Nat
def tw3143723400175753294:=Nat
def tw14334640983297096164:=Nat
def tw5893655366418939510:=Nat
def tw7520638421603420072:=Nat
def tw8378580772311888806:=Nat
def tw16630231220082143675:=Nat
def tw485497745663225921:=Nat
def tw9034361398651767236:=Nat
def tw17144500368120323962:=Nat
def tw11463917601104466555:=Nat
def tw1728584066748285804:=Nat
def tw13390153169354634139:=Nat
def tw7265864222584040291:=Nat
def tw1641036793858777409:=Nat
def tw8444594954700493402:=Nat
def tw2040897064370300393:=Nat
def tw11407913057051201501:=Nat
def tw13158544025802051725:=Nat
def tw8508308677030419367:=Nat
def tw1271418944425032160:=Nat
def tw2712693296774693270:=Nat
def tw6627718489639623657:=Nat
def tw11616065048690537004:=Nat
def tw18035185999648954013:=Nat
def tw9927352080289185473:=Nat
def tw8361999282057676747:=Nat
def tw14317928260317925040:=Nat
def tw6150573347548762592:=Nat
def tw10869993310168081846:=Nat
def tw17803306193480386232:=Nat
def tw12312809468289849422:=Nat
def tw10542097011612618514:=Nat
def tw14038920149100806653:=Nat
def tw481125979440041398:=Nat
def tw18361095574283425210:=Nat
def tw17124796241085791879:=Nat
def tw13516130131654750791:=Nat
def tw14218686618119553285:=Nat
def tw4562364588752800214:=Nat
def tw11702897296308171343:=Nat
def tw8225069574040044773:=Nat
def tw10985837566149117473:=Nat
def tw12922634232287764378:=Nat
def tw15468517515980141425:=Nat
def tw11467400031397038331:=Nat
def tw14912545495849162250:=Nat
def tw5756408238136770846:=Nat
def tw15299168260984570450:=Nat
def tw9382247608657445014:=Nat
def tw10405929602551611504:=Nat
def tw10906924613321816432:=Nat
def tw1286752465205694656:=Nat
def tw14018664292422008623:=Nat
def tw13556674887201063873:=Nat
def tw4607013373454063621:=Nat
def tw14249837905968552384:=Nat
def tw17349531391740940941:=Nat
def tw11393352485149616895:=Nat
def tw10450123896295742699:=Nat
def tw17186141378392197854:=Nat
def tw14761233613217483864:=Nat
def tw9505132488173773566:=Nat
def tw6995278526855700145:=Nat
def tw15233715075049070986:=Nat
def tw15288627031042898034:=Nat
def tw9259492216708273007:=Nat
def tw17455298195604450074:=Nat
def tw17265558481119854412:=Nat
def tw7386586194956349396:=Nat
def tw11308050307978018400:=Nat
def tw13262306072920623259:=Nat
def tw13590479085730909115:=Nat
def tw9973383097046277768:=Nat
def tw10549305229301711636:=Nat
def tw9697582633912252335:=Nat
def tw3143655333288121613:=Nat
def tw364355871948766687:=Nat
def tw15294377092610683354:=Nat
def tw14303444313292365614:=Nat
def tw6902587119597037059:=Nat
def tw5497860283583918225:=Nat
def tw1132364716663268918:=Nat
def tw17926636260740812966:=Nat
def tw6687223270905362342:=Nat
def tw1957156604173432849:=Nat
def tw3637856528480994878:=Nat
def tw7074566142202300279:=Nat
def tw14075469514254465576:=Nat
def tw11713559614580334485:=Nat
def tw10755922655118742984:=Nat
def tw16510065295597340982:=Nat
def tw1864295879467359121:=Nat
def tw6061117116582636527:=Nat
def tw3565786525720649339:=Nat
def tw15341272379475438424:=Nat
def tw3936150631384767884:=Nat
def tw173173568716518246:=Nat
def tw12896543907586672774:=Nat
def tw9345682125276853737:=Nat
def tw12464737910972397007:=Nat
def tw10906850190619840819:=Nat
def tw6908264380900618158:=Nat
def tw15159637109340417702:=Nat
def tw2213440774675275544:=Nat
def tw6119157491897607223:=Nat
def tw10942779334250367997:=Nat
def tw10505544563229768883:=Nat
def tw13318238430822742392:=Nat
def tw12996940126971097571:=Nat
def tw11368562135546565092:=Nat
def tw374722830072933961:=Nat
def tw12431475053175819529:=Nat
def tw4904033278432606012:=Nat
def tw8217343215229849518:=Nat
def tw14254670076574629022:=Nat
def tw7842820885097802945:=Nat
def tw14296690901847565256:=Nat
def tw3500435586937006380:=Nat
def tw9145431781101320883:=Nat
def tw16768434645392011900:=Nat
def tw16266413701153814900:=Nat
def tw7626086570792807061:=Nat
def tw10515474228403670893:=Nat
def tw15112008935126746570:=Nat
def tw5413388406535347166:=Nat
def tw9929998930704134964:=Nat
def tw12493200907869826840:=Nat
def tw15127889327404175367:=Nat
def tw16621836616693617029:=Nat
def tw18206959302499934323:=Nat
def tw12144413670657059818:=Nat
def tw1827877110373331500:=Nat
def tw15314330185184787500:=Nat
def tw12142247169937823505:=Nat
def tw13895490483390150153:=Nat
def tw15108223414922584955:=Nat
def tw16791579239705846671:=Nat
def tw935633942414594687:=Nat
def tw11653789991380603360:=Nat
def tw10991169724218151994:=Nat
def tw6419772943793772667:=Nat
def tw1580376326012397955:=Nat
def tw14224728159126811632:=Nat
def tw15383165476642464685:=Nat
def tw15163255614552742394:=Nat
def tw4130278300254754799:=Nat
def tw1141566137364378398:=Nat
def tw14920846249647849363:=Nat
def tw2821746300895978110:=Nat
def tw6669644790173036287:=Nat
def tw11448720578226738607:=Nat
def tw9485081047561577165:=Nat
def tw4334328379714442729:=Nat
def tw16128932525752033140:=Nat
def tw831237488544672646:=Nat
def tw11693652448332925223:=Nat
def tw16090162226432082724:=Nat
def tw3525494230119184436:=Nat
def tw1943753762619942258:=Nat
def tw17529731154565917644:=Nat
def tw9556128002641941816:=Nat
def tw2198488713068793482:=Nat
def tw9817254651539741820:=Nat
def tw9834604287608086789:=Nat
def tw8059333910654583847:=Nat
def tw6749298577430812575:=Nat
def tw1535403769731460321:=Nat
def tw12221341896717086068:=Nat
def tw15481984618238578639:=Nat
def tw5864980636862180664:=Nat
def tw9500464870318792817:=Nat
def tw7684179988892397283:=Nat
def tw15637082633131652245:=Nat
def tw1331311047502918743:=Nat
def tw7368472858836022194:=Nat
def tw8513691449375018800:=Nat
def tw5726419125496729949:=Nat
def tw16132009365224595768:=Nat
def tw9157872587410723517:=Nat
def tw17144496215634508673:=Nat
def tw10023802040107948226:=Nat
def tw11266975120418681163:=Nat
def tw17052302835378761177:=Nat
def tw9910986090478507226:=Nat
def tw9901163078572469195:=Nat
def tw11682666986703600473:=Nat
def tw14516908289792230701:=Nat
def tw8642423933971233569:=Nat
def tw9195241357358200314:=Nat
def tw4312909924324164489:=Nat
def tw555377135216353893:=Nat
def tw10926211265818826834:=Nat
def tw10662429428085684071:=Nat
def tw15916228547617991094:=Nat
def tw18094387359763225894:=Nat
def tw687198388282333450:=Nat
def tw7359201334293465748:=Nat
def tw1532062430804604309:=Nat
def tw5015661479368797080:=Nat
def tw75546795961390017:=Nat
def tw15810429606284788736:=Nat
def tw16475870321119076174:=Nat
def tw6777046129044783510:=Nat
def tw1085128415791497316:=Nat
def tw613495282356051998:=Nat
def tw17274852815593300482:=Nat
def tw9745281410971835019:=Nat
def tw18397916252185117413:=Nat
def tw17193543127162546155:=Nat
def tw7033571633713187782:=Nat
def tw15593414992796050625:=Nat
def tw12058302057815563679:=Nat
def tw16216072354591427428:=Nat
def tw11095613210107090151:=Nat
def tw9688020824480856053:=Nat
def tw5373514305541306983:=Nat
def tw17723979610648038673:=Nat
def tw4041768498728335480:=Nat
def tw9412673602316031597:=Nat
def tw7132775272448413268:=Nat
def tw2880307545308799072:=Nat
def tw11923077505980530424:=Nat
def tw3592652339604854279:=Nat
def tw8754892407113853160:=Nat
def tw16976512145879881149:=Nat
def tw2797121945178446385:=Nat
def tw1170903296367647267:=Nat
def tw17283449932339388844:=Nat
def tw9678055830734608338:=Nat
def tw7944247254891555689:=Nat
def tw12320952881860678246:=Nat
def tw11833189305561807636:=Nat
def tw1801720322838501233:=Nat
def tw5898059185225548792:=Nat
def tw3572079416226650077:=Nat
def tw14936465286256903032:=Nat
def tw13052294932281954459:=Nat
def tw12470785574992625405:=Nat
def tw5228746421184026069:=Nat
def tw1771531563996163798:=Nat
def tw18207584184959890152:=Nat
def tw12988656826493561834:=Nat
def tw9276681920948134364:=Nat
def tw15048234270009130328:=Nat
def tw8694346661769308353:=Nat
def tw9301213778816318095:=Nat
def tw6502043102249902199:=Nat
def tw12966790595595439839:=Nat
def tw7166441130069531035:=Nat
def tw55524294520517001:=Nat
def tw3853187474694979345:=Nat
def tw8748479822391509471:=Nat
def tw8699838209552750066:=Nat
def tw10270113461968873041:=Nat
def tw8892678351791543561:=Nat
def tw15016905173099572961:=Nat
def tw10217450877882203143:=Nat
def tw2651590651730493016:=Nat
def tw16183604079886003748:=Nat
def tw17178452832936107348:=Nat
def tw2006222982371911298:=Nat
def tw13329436688532632792:=Nat
def tw12659504072404423151:=Nat
def tw3241445632507365267:=Nat
def tw9314734968855422333:=Nat
def tw979233182853541257:=Nat
def tw11025522238949255:=Nat
def tw13362500909754310414:=Nat
def tw14412176285218602043:=Nat
def tw2982208893046995918:=Nat
def tw17193175226392944689:=Nat
def tw11134716312889039309:=Nat
def tw10686690934444323213:=Nat
def tw6390701090538982796:=Nat
def tw13160991802532374336:=Nat
def tw13946405099296786312:=Nat
def tw5960058307711762284:=Nat
def tw3192579583167519735:=Nat
def tw7044133176907267281:=Nat
def tw14417694422962709823:=Nat
def tw3396407439601519518:=Nat
def tw10412377268350132519:=Nat
def tw9585146112300421933:=Nat
def tw4372899464646865806:=Nat
def tw2686388360405968106:=Nat
def tw2987800385802433290:=Nat
def tw4752717444419633579:=Nat
def tw15932019942711829843:=Nat
def tw1700096895270929865:=Nat
def tw1215735279815833832:=Nat
def tw689677138045337038:=Nat
def tw12210077295523451861:=Nat
def tw17143508727524972304:=Nat
def tw2907093259140089434:=Nat
def tw3753032995640157414:=Nat
def tw5541543323897575973:=Nat
def tw8353988578248673528:=Nat
def tw12813489061365840976:=Nat
def tw933757964929962657:=Nat
def tw2651373132346602885:=Nat
def tw1539440980141081681:=Nat
def tw16811374589403270918:=Nat
def tw9830437375455251915:=Nat
def tw7172384691252276460:=Nat
def tw9046302781070086273:=Nat
end PySem.W.Fast
open PySem PySem.W PyProof.Rows
set_option maxRecDepth 100000 in
set_option maxHeartbeats 0 in
theorem PySem.Challenge.cw_shadowpost_k74_full_yards_holds : PySem.Challenge.rw_shadowpost_k74_full_yards.Holds := by
 w_on;o_law;k_head;(case hw=>w_witness2)
 k_fill
 refine T.Z2x (l:=PySem.Challenge.rw_shadowpost_k74_full_yards) rfl rfl (λw h Y=>by first|exact PySem.W.kIn_of Y|exact PySem.W.km_in_of Y) ?F
 case F=>
  intro w mg fa h KX G Qe
  refine' T.Z2w (a:=T.vH.mk) (T.Tx.mk (Ă KX G ?_) (Ă KX G ?_) (Ă KX G ?_) (Ă KX G ?_) (Ă KX G ?_) (Ă KX G ?_) (Ă KX G ?_) (Ă KX G ?_) (Ă KX G ?_) (Ă KX G ?_) (Ă KX G ?_) (Ă KX G ?_) (Ă KX G ?_) (Ă KX G ?_) (Ă KX G ?_) (Ă KX G ?_) (Ă KX G ?_) (Ă KX G ?_) (Ă KX G ?_) (Ă KX G ?_) (Ă KX G ?_) (Ă KX G ?_) (Ă KX G ?_) (Ă KX G ?_) (P.ĭ KX G (λ_ _ _ _ _ _ _ _ _=>rfl) ?_ ?_ ?_ ?_) (P.ĭ KX G (λ_ _ _ _ _ _ _=>rfl) ?_ ?_ ?_ ?_) (P.ĭ KX G (λ_ _ _ _ _ _ _=>rfl) ?_ ?_ ?_ ?_) (P.ĭ KX G (λ_ _ _ _ _ _ _ _=>rfl) ?_ ?_ ?_ ?_) (P.ĭ KX G (λ_ _ _ _ _ _ _ _=>rfl) ?_ ?_ ?_ ?_) (P.ĭ KX G (λ_ _ _ _ _ _ _=>rfl) ?_ ?_ ?_ ?_) (P.jA (λ_ _ _ _ _ _ _ _ _ _ _=>rfl) ?_ ?_ ?_ ?_) (P.ĭ KX G (λ_ _ _ _ _ _ _=>rfl) ?_ ?_ ?_ ?_) (P.ĭ KX G (λ_ _ _ _ _ _ _ _=>rfl) ?_ ?_ ?_ ?_) (P.ĭ KX G (λ_ _ _ _ _ _ _ _ _=>rfl) ?_ ?_ ?_ ?_) (P.ĭ KX G (λ_ _ _ _ _ _ _=>rfl) ?_ ?_ ?_ ?_) (P.ĭ KX G (λ_ _ _ _ _ _ _ _=>rfl) ?_ ?_ ?_ ?_) (P.ĭ KX G (λ_ _ _ _ _ _ _ _ _=>rfl) ?_ ?_ ?_ ?_) (P.ĭ KX G (λ_ _ _ _ _ _ _=>rfl) ?_ ?_ ?_ ?_) (P.ĭ KX G (λ_ _ _ _ _ _ _=>rfl) ?_ ?_ ?_ ?_) (P.ĭ KX G (λ_ _ _ _ _ _ _=>rfl) ?_ ?_ ?_ ?_) (P.jA (λ_ _ _ _ _ _ _ _ _=>rfl) ?_ ?_ ?_ ?_) (P.ĭ KX G (λ_ _ _ _ _ _ _=>rfl) ?_ ?_ ?_ ?_) (P.ĭ KX G (λ_ _ _ _ _ _ _=>rfl) ?_ ?_ ?_ ?_) (P.ĭ KX G (λ_ _ _ _ _ _ _=>rfl) ?_ ?_ ?_ ?_) (P.ĭ KX G (λ_ _ _ _ _ _ _=>rfl) ?_ ?_ ?_ ?_) (P.ĭ KX G (λ_ _ _ _ _ _ _=>rfl) ?_ ?_ ?_ ?_) (P.ĭ KX G (λ_ _ _ _ _ _ _ _=>rfl) ?_ ?_ ?_ ?_) (P.ĭ KX G (λ_ _ _ _ _ _ _ _=>rfl) ?_ ?_ ?_ ?_) (P.ĭ KX G (λ_ _ _ _ _ _ _ _ _ _=>rfl) ?_ ?_ ?_ ?_) (P.ĭ KX G (λ_ _ _ _ _ _ _ _ _ _=>rfl) ?_ ?_ ?_ ?_) (P.ĭ KX G (λ_ _ _ _ _ _ _=>rfl) ?_ ?_ ?_ ?_) (P.jA (λ_ _ _ _ _ _ _ _=>rfl) ?_ ?_ ?_ ?_) (P.ĭ KX G (λ_ _ _ _ _ _ _ _=>rfl) ?_ ?_ ?_ ?_) (P.jA (λ_ _ _ _ _ _ _=>rfl) ?_ ?_ ?_ ?_) (P.ĭ KX G (λ_ _ _ _ _ _ _=>rfl) ?_ ?_ ?_ ?_) (P.ĭ KX G (λ_ _ _ _ _ _ _=>rfl) ?_ ?_ ?_ ?_) (P.ĭ KX G (λ_ _ _ _ _ _ _ _=>rfl) ?_ ?_ ?_ ?_) (P.ĭ KX G (λ_ _ _ _ _ _ _ _=>rfl) ?_ ?_ ?_ ?_) (P.ĭ KX G (λ_ _ _ _ _ _ _ _=>rfl) ?_ ?_ ?_ ?_) (P.ĭ KX G (λ_ _ _ _ _ _ _ _=>rfl) ?_ ?_ ?_ ?_) (P.ĭ KX G (λ_ _ _ _ _ _ _ _=>rfl) ?_ ?_ ?_ ?_) (P.ĭ KX G (λ_ _ _ _ _ _ _ _=>rfl) ?_ ?_ ?_ ?_) (P.jA (λ_ _ _ _ _ _ _ _=>rfl) ?_ ?_ ?_ ?_) (P.ĭ KX G (λ_ _ _ _ _ _ _ _=>rfl) ?_ ?_ ?_ ?_) (P.ĭ KX G (λ_ _ _ _ _ _ _ _ _=>rfl) ?_ ?_ ?_ ?_) (P.ĭ KX G (λ_ _ _ _ _ _ _=>rfl) ?_ ?_ ?_ ?_) (P.jA (λ_ _ _ _ _ _ _ _=>rfl) ?_ ?_ ?_ ?_) (P.jA (λ_ _ _ _ _ _ _ _ _=>rfl) ?_ ?_ ?_ ?_) (P.jA (λ_ _ _ _ _ _ _ _=>rfl) ?_ ?_ ?_ ?_) (P.jA (λ_ _ _ _ _ _ _ _=>rfl) ?_ ?_ ?_ ?_) (Ă KX G ?_) (Ă KX G ?_) (Ă KX G ?_) (Ă KX G ?_) (Ă KX G ?_) (Ă KX G ?_) (Ă KX G ?_) (Ă KX G ?_) (Ă KX G ?_) (Ă KX G ?_) (Ă KX G ?_) (Ă KX G ?_) (bU KX G ?_) (bU KX G ?_) (bU KX G ?_) (bU KX G ?_) (bU KX G ?_) (bU KX G ?_) (bU KX G ?_) (bU KX G ?_) (bU KX G ?_) ?_ ?_ ?_ ?_ ?_ ?_ ?_ ?_ ?_ (P.sQ ?_) ?_ ?_ (P.sQ ?_) ?_ ?_ ?_ (P.sQ ?_) ?_ ?_ ?_ ?_ ?_ (P.sQ ?_) ?_ ?_ (P.fU ?_) (P.kC ?_) ?_ ?_ (P.eU ?_) (P.fU ?_) (P.kC ?_) ?_ ?_ (P.eU ?_) (P.fU ?_) (P.kC ?_) ?_ ?_ (P.eU ?_) (P.fU ?_) (P.kC ?_) ?_ ?_ (P.eU ?_) (P.fU ?_) (P.kC ?_) ?_ ?_ (P.eU ?_) (P.fU ?_) (P.kC ?_) ?_ ?_ (P.eU ?_) (P.fU ?_) (P.kC ?_) ?_ ?_ ?_ ?_ (P.fU ?_) (P.kC ?_) ?_ (P.eU ?_) ?_ (P.jw ?_) (P.jw ?_) ?_ (P.jw ?_) (P.jw ?_) (P.B3 ?_) (P.B4 ?_) (P.B5 ?_) (P.zn ?_) (P.Fv ?_ ?k ?_ ?_)) Qe
  any_goals (dsimp only;k_is)
  case k=>k_keys
  any_goals first|kernel_rfl|(unfold L2.ĉ;kernel_rfl)
  all_goals skip
