import PyProof.Rows.All
import Wide.All
import OpenK.AllK
import Wide.FinOn
import Lean
import PyProof.EqAt
import PyProof.EqKinds
import PyProof.TupleCall
import PySem.Challenge.RW_shadowpost_k55_stones_to_watch
set_option Elab.async false
set_option linter.all false
set_option maxRecDepth 100000
set_option maxHeartbeats 4000000
local macro_rules|`(~~~$x)=>`(.sh (.int $x))
noncomputable section
open Array renaming length_toList->a_,getElem?_eq_some_iff->om
open Bool renaming false_ne_true->ϥ,false_eq_true->iw,eq_iff_iff->jU,or_eq_true->tY,and_eq_true->Ė,false_or->tZ,or_eq_true_iff->Bc
open Classical renaming choose->Bd,byContradiction->Be
open False renaming elim->Š
open ForInStep renaming yield->df
open Int renaming natCast_nonneg->oo,fdiv_eq_ediv_of_nonneg->jV,fmod_eq_emod_of_nonneg->iy,toNat_natCast->t_,le_refl->dg,fmod->oq,fmod_nonneg_of_pos->Bf,neg_mul_neg->ua,mul_nonneg->Ň,le_total->e_,mul_nonneg_of_nonpos_of_nonpos->ou,mul_neg_of_neg_of_pos->iz,mul_le_mul_of_nonneg_left->jW,mul_pos->ub,natAbs_mul->oy,natCast_mul->jX,mul_le_mul_of_nonneg_right->iA,le_of_mul_le_mul_right->uc,zero_sub->oz,mul_sub->oA,emod_emod_of_dvd->dh
open List renaming range->Ò,mem_filter->jY,mem_range->ĸ,filterMap_cons->oB,mem_cons_self->ĭ,mem_cons_of_mem->Ă,mem_cons->Ā,mem_append->cw,mem_append_left->oE,getElem?_eq_some_iff->Ϧ,getElem?_set_self->oG,getElem?_set_ne->iB,mem_filterMap->oH,mem_append_right->Ř,size_toArray->Ĥ,length_cons->ŋ,length_nil->oJ,lookup->ba,map_cons->ý,length_map->ř,append_nil->cx,nodup_cons->iE,of_mem_zip->jZ,replicate->Ï,length_take->oK,getElem?_append_right->bc,getElem?_replicate->fb,getElem?_append_left->ϧ,getElem?_map->Ϩ,length_append->ϩ,replicate_succ->cy,flatten_cons->fc,append_assoc->bO,foldl_cons->aC,nil_append->Ś,map_nil->be,all_eq_true->fe,lookup_cons->ś,forIn_cons->j_,forIn_nil->oM,mem_iff_getElem->ka,getD_eq_getElem?_getD->Ϫ,getElem?_eq_getElem->Ō,getElem_mem->cz,length_range->oN,take_of_length_le->Bh,eq_nil_of_length_eq_zero->Bi,cons_append->kc,mem_singleton->aD,drop_eq_getElem_cons->Bj,drop_eq_nil_of_le->Bk,getElem?_range->Bl,getElem?_eq_none->Bm,length_eq_zero_iff->Bn,contains_cons->ke,getElem?_cons_succ->iF,not_mem_nil->bP,any_cons->di,findSome?_cons->oO,ne_nil_of_mem->ud,mem_flatMap->kf,mem_map_of_mem->dq,mem_map->aE,findSome?_eq_none_iff->ue,exists_of_findSome?_eq_some->uf,length_pos_iff->ug,set_cons_succ->uh,set_cons_zero->ui,flatMap_cons->ff,map_append->š,map_congr_left->uj,sum_cons->oP,map_map->ag,range_succ->kg,flatMap_append->Bo,range'->ϊ,range'_succ->oQ,range_eq_range'->ki,ext_getElem->uk,getD_cons_zero->ul,getD_cons_succ->kj,filter_cons_of_pos->Bp,filter_cons_of_neg->Bq
open List.Pairwise renaming nil->Br
open MonadExcept renaming tryCatch->iG
open Nat renaming lt_of_lt_of_le->Ţ,lt_irrefl->ų,ne_of_lt->ę,le_trans->Ĺ,le_of_lt->fg,ne_of_gt->bf,le_refl->õ,le_of_eq->um,lt_succ_self->oR,zero_le->cA,succ_mul->uo,add_comm->oS,le_of_not_lt->ur,lt_trans->ut,lt_succ_of_lt->dr,mul_le_mul->du,le_succ->uu,zero_add->oU,lt_or_gt_of_ne->uv,testBit_lt_two_pow->uw,pow_le_pow_right->km,mul_le_mul_right->Bt,two_pow_pos->ux,lt_succ_iff_lt_or_eq->kn,mul_pos->oV
open Ne renaming symm->ĥ
open OfNat renaming ofNat->Ū
open Option renaming isSome_iff_exists->Bu,bind_some->uy,map_eq_some_iff->ko,bind_eq_some_iff->Bv,isNone_iff_eq_none->Bw
open Option.some renaming inj->ŀ
open Or renaming inl->Ġ,inr->Č
open Pure renaming pure->ö
open PyProof renaming noPylong_small->Bx
open PyProof.Rows renaming AllBare->bQ,assignInOrder_cons->uz,callWith_type1->iH,envOfC->ġ,IntsAre->iI,recsOf->oW,seqObj->cB,boot_list->ah,boot_all->kq,boot_any->By,boot_sum->kr,boot_isinstance->ţ,boot_tuple->oX,boot_str->Bz,boot_int->BA,boot_bool->BB,boot_max->BC,boot_min->BD
open PySem renaming Value->Á,World->ß,Program->î,Addr->À,Heap->Õ,Within->kx,mainGlobals->ū,bootBuiltins->bg,Around->ð,Shared->Å,Scope->ą,wpAny->Î,Expr->Ð,model->Ó,eval->Ý,backTo->Ŭ,starEach->å,Stmt->Ö,wpAny_mono->ŭ,wpAny_execs_nil->ky,swapsWith->ai,assign->aF,assignInOrder->uA,assignEach->ϋ,Operator->kz,holding->aG,standAt->fh,wpAny_bind->Ê,wpAny_holding->ϫ,wpAny_standAt->dw,swapsWithSole->oY,swappedStores->oZ,wpAny_pure->é,wpAny_newObj_type->iJ,bindName->kA,wpAny_rule->o_,wpAny_passesOwn->fi,pyNext->bR,letOwnedTupleGo->pb,pyIter->cC,rawInt->Ŵ,IsRangeIter->pc,foldedSetIterable->dz,binaryOp->Ł,compareOp->ĺ,CmpOp->cD,behindInMarks->iK,sizeLine_eq->cE,wpAny_truthy_bool->cF,wpAny_loadPart->pd,wpAny_lookBehind->uB,pastItsLine_dict->uC,Result->dA,codeAny->Ϛ,attributeBase->kB,plainObj_wpAny_Assign_Attribute->BE,recursionLimit->pe,cLine->Ϭ,FuncData->ě,BindsTo->dB,bindArgs->bh,NameKind->aH,cellsFrom->œ,mem_of_lookup->fj,Arguments->dC,wpAny_Call_Name_kw->fk,typeLookup->kC,sliceBounds->fm,call_meets->pf,callerA->dD,call->ph,codeAny_mono->iL,PyData->ϭ,noteFrame->fq,wpAny_comprehension_free->BF,wpAny_pyIter_list->kD,wpAny_call->cG,codeAny_builtin->uD,seqItems?->cH,wpAny_seqItems->bS,wpAny_tryCatch->iM,wpAny_updateSeq->uE,wpAny_letGo->iO,plainId_quiet->pi,wpAny_pyIter_tuple->uF,wpAny_setField->kE,wpAny_field->ό,isInstance->iP,ExceptHandler->kF,Builtin->iQ,wpAny_loadPart_at->kG,codeAny_call_builtin->uG,getAttrByItsOwn->pj,wpAny_attempt->kH,nums_intItems->pk,intItems->dE,numAt->bi,wpAny_callSpecial?_slot->pp,wpAny_call_entry->pq,IsZip->ϛ,IsPair->Ŝ,wpAny_setField_rec->kI,wpAny_onRaise->uH,boot_len->Ŕ
open PySem.Around renaming under->uI,frames_deeper->BG,under_plainId->uJ
open PySem.Builtin renaming bitAnd->bT,bitOr->kJ,bitNot->iR
open PySem.Builtin.Builtins renaming bindParams->BH
open PySem.Builtin.Int renaming intBits->pw
open PySem.Builtin.List renaming listTooLong->pz
open PySem.Builtin.Range renaming rangeSize->kK,small->BI
open PySem.Builtin.SmallTypes renaming nextOf->ft,ownedTupleIsFree->pA,ownedTupleHandOut->BJ
open PySem.Builtin.Str renaming strSliceIndices->iS
open PySem.Calls renaming Name_function_global->BK
open PySem.Code renaming isFrame->uK
open PySem.Data renaming fields->pC,cell->iU
open PySem.EntryCells renaming newEntry->BL
open PySem.F renaming slot_list_append->Ϯ,slot_list_extend->kL,entry_min_loop->uL,plain_min_loop->fu,excBase_ValueError->BM,attrBase_ValueError->pD,entry_bexc_ga->BO,args_bexc_ga->BP,slot_tuple_iterator_next->pE,entry_tuple_iterator_next->BQ,args_tuple_iterator_next_1->BR,slot_zip_next->pF,plainAttrs_list->ύ,type_list_append->aj,type_list_extend->pG
open PySem.Heap renaming lt_size->ó,get?_none_of_le->uM,SameBut->ϯ,get?_push_of_some->ï,get?_push_size->Ħ,size_push->ϰ,get?_update_self->fv,get?_update_other->iV,MadeExcOf->uN,get?_push_at->uO,get?_update_ne->BS,get?_push_cases->BU
open PySem.Heap.Ns1 renaming of_empty->BV
open PySem.Heap.SameBut renaming update->kM
open PySem.NameKind renaming free->aI,cell->dF
open PySem.Obj renaming mapSeq->bU,data_mapFields->fw,mapFields->kN,isFreed_of_fields->kO
open PySem.PassesOwn renaming leaving->ĵ
open PySem.PyData renaming eqv->ak,strOk->Ϝ,canLay0->uP,canLayAll0->fy
open PySem.Str renaming ofString->Ì
open PySem.Value renaming int->kP,str->pH,none->ϝ,bool->am,float->uQ,ref->ē
open PySem.Value.type renaming inj->kQ
open PySem.W renaming instObj->cI,methodObj->uR,hideAll->kR,hideAll_get->BW,of_hideAll->BX,hideAll_none->BY,Frag->Ñ,tabIn->Ů,CodeHd->uS,lookIn->iW,InstAt->bV,plainGet->kS,hasDictIn->iX,findIn->ł,handedIn->uT,plainGet_of->uU,findObj_own->uV,isFn->kT,plainOver->uW,takerIn->uX,set_plain->uY,looks_clsIn->pI,makesIn->uZ,typeIn->pJ,emptyDict->bW,looks_findIn->fz,keepIn->Ť,specialIn->u_,takesIn->vc,mroIn->dG,kitOne->ō,kia_one->ϱ,kitx_list->vd,kitx_tuple->BZ,kitx_dict->B_,cellsFrom_some->B0,fnOf->Ŏ,codeIn->dH,OpenLaw->fA,WalkO->pK,noTabs->pL,kla_obj->kU,envX->pM,kla_fn->ve,callWith_K->pN,excIn->fB,tail_of_in->B1,kitCls->fC,looks_mroIn->iY,tailIn->iZ,Looks->dI,check_slot->vf,looks_find->vg,handedOut_of->B2,nsIn->pO,mg_of->ů,mg_none_of->ŵ
open PySem.W.Looks renaming here->vh
open PySem.Walks renaming list->kW
open PySem.Within renaming cons->vi
open Sum renaming inl->fE,inr->fF
open True renaming intro->dJ
namespace L2
open PySem PySem.Spec PyProof.Rows
abbrev xk:=Sum Int Str
noncomputable def Ku:xk->Á->Bool
 | .inl k,v=>Value.isInt k v
 | .inr x,v=>Value.isStrOf x v
def Yj(w:ß):xk->Int
 | .inl k=>hashInt k
 | .inr x=>hashStr w x
theorem ώ:∀{k:xk} {v:Á},Ku k v=true->(∃i t,k=fE i/\v=kP i t)\/(∃x t,k=fF x/\v=pH x t)
 | .inl i,v,h=>by obtain⟨t,e⟩:=Value.isInt_shape (k:=i) (v:=v) h;exact .inl ⟨i,t,rfl,e⟩
 | .inr x,v,h=>by obtain⟨t,e⟩:=Value.isStrOf_shape (x:=x) (v:=v) h;exact .inr ⟨x,t,rfl,e⟩
def OP(a b:Int):decide ((fE a:xk)=fE b)=(a== b):=by
 by_cases e:a=b
 ·subst e;simp
 ·have h:¬(fE a:xk)=fE b:=λq=>e (Sum.inl.inj q);rw[decide_eq_false h];exact(beq_eq_false_iff_ne.mpr e).symm
def OQ(a b:Str):decide ((fF a:xk)=fF b)=decide (a=b):=by
 by_cases e:a=b
 ·subst e;simp
 ·have h:¬(fF a:xk)=fF b:=λq=>e (Sum.inr.inj q);rw[decide_eq_false h,decide_eq_false e]
def OR(a:Int)(b:Str):decide ((fE a:xk)=fF b)=false:=decide_eq_false (λq=>nomatch q)
def OT(a:Str)(b:Int):decide ((fF a:xk)=fE b)=false:=decide_eq_false (λq=>nomatch q)
def vj(prog:î)(w:ß):PySem.KeyKind prog w xk where
 is:=Ku
 hash:=Yj w
 inj:=λv a b ha hb=>by
  rcases ώ ha with⟨i,t,rfl,rfl⟩|⟨x,t,rfl,rfl⟩
  ·rcases ώ hb with⟨j,u,rfl,e⟩|⟨y,u,rfl,e⟩
   ·injection e with e1 _;rw[e1]
   ·exact nomatch e
  ·rcases ώ hb with⟨j,u,rfl,e⟩|⟨y,u,rfl,e⟩
   ·exact nomatch e
   ·injection e with e1 _;rw[e1]
 byValue:=λk v h=>by rcases ώ h with⟨i,t,rfl,rfl⟩|⟨x,t,rfl,rfl⟩<;>rfl
 pyHash:=λhv h=>by
  rcases ώ hv with⟨i,t,rfl,rfl⟩|⟨x,t,rfl,rfl⟩
  ·exact wpAny_pyHash_int h
  ·exact wpAny_pyHash_str h
 eqBool:=λhu hv h=>by
  rcases ώ hu with⟨i,t,rfl,rfl⟩|⟨x,t,rfl,rfl⟩
  ·rcases ώ hv with⟨j,u,rfl,rfl⟩|⟨y,u,rfl,rfl⟩
   ·rw[OP] at h;exact wpAny_eqBool_int h
   ·rw[OR] at h;exact SeqAt.EqAt.int_str i t y u _ _ _ _ h
  ·rcases ώ hv with⟨j,u,rfl,rfl⟩|⟨y,u,rfl,rfl⟩
   ·rw[OT] at h;exact SeqAt.EqAt.str_int x t j u _ _ _ _ h
   ·rw[OQ] at h;exact wpAny_eqBool_str h
 «strs» := fun k x t v h=>by
   rcases ώ h with⟨i,u,rfl,e⟩|⟨y,u,rfl,e⟩
   ·exact nomatch e
   ·injection e with e1 _
    subst e1;cases v<;>rfl
inductive Qqj where
 |non|bl (b:Bool)|int (i:Int)|str (x:Str)|Kv (b:Array UInt8)|flt (b:UInt64)|ref (a:À)|ty (n:String)
 deriving DecidableEq
def RelV:Qqj->Á->Prop
 | .non,u=>u=ϝ
 | .bl b,u=>u=am b
 | .int i,u=>∃t,u=kP i t
 | .str x,u=>∃t,u=pH x t
 | .Kv b,u=>∃t,u=Value.bytes b t
 | .flt b,u=>∃t,u=uQ b t
 | .ref a,u=>u=ē a
 | .ty n,u=>u=Value.type n
abbrev Ĳ:List Qqj->List Á->Prop:=Paired RelV
theorem Ĳ.length{xs:List Qqj}{us:List Á}(r:Ĳ xs us):xs.length=us.length:=Paired.length r
theorem Ĳ.get:∀{xs:List Qqj} {us:List Á} {i:Nat} {x:Qqj},Ĳ xs us->xs[i]?=some x->∃u,us[i]?=some u/\RelV x u
 |_,_,_,_,.nil,e=>by simp at e
 |_,_,0,_,.cons r _,e=>by simp at e;subst e;exact⟨_,rfl,r⟩
 |_,_,i+1,x,.cons _ t,e=>by obtain⟨u,h1,h2⟩:=Ĳ.get (i:=i) (x:=x) t (by simpa using e);exact⟨u,by simpa using h1,h2⟩
theorem Ĳ.set{x:Qqj}{u:Á}(r:RelV x u):∀{xs:List Qqj} {us:List Á} (i:Nat),Ĳ xs us->Ĳ (xs.set i x) (us.set i u)
 |_,_,_,.nil=>.nil
 |_,_,0,.cons _ t=>.cons r t
 |_,_,i+1,.cons q t=>.cons q (Ĳ.set r i t)
theorem Ĳ.append:∀{xs ys:List Qqj} {us ws:List Á},Ĳ xs us->Ĳ ys ws->Ĳ (xs++ys) (us++ws)
 |_,_,_,_,.nil,s=>s
 |_,_,_,_,.cons r t,s=>.cons r (Ĳ.append t s)
theorem Ĳ.take:∀{xs:List Qqj} {us:List Á} (n:Nat),Ĳ xs us->Ĳ (xs.take n) (us.take n)
 |_,_,0,_=>.nil
 |_,_,_+1,.nil=>.nil
 |_,_,n+1,.cons r t=>.cons r (Ĳ.take n t)
theorem Ĳ.drop:∀{xs:List Qqj} {us:List Á} (n:Nat),Ĳ xs us->Ĳ (xs.drop n) (us.drop n)
 |_,_,0,r=>r
 |_,_,_+1,.nil=>.nil
 |_,_,n+1,.cons _ t=>Ĳ.drop n t
def kX:Option Qqj->Option Á->Prop
 |some v,some u=>RelV v u
 |none,none=>True
 |_,_=>False
def KV{κ:Type}:List (κ×Qqj)->List (κ×Á)->Prop:=Paired λ(p:κ×Qqj) (q:κ×Á)=>p.1=q.1/\RelV p.2 q.2
noncomputable def kV:xk->Qqj
 | .inl i=>.int i
 | .inr x=>.str x
inductive HO where
 |lst (xs:List Qqj)
 |tup (xs:List Qqj)
 |dK (eZ:List (xk×Qqj))|dT (eZ:List (List xk×Qqj))
 |set (S:Int->Bool) (n:Nat)
 |ins (C dx:À) (fs:List (Str×Qqj))
 |own (x:À)
 |xd (fs:List (Str×Qqj))
 |met (f x:À)
 |rng (lo hi:Int)
 |dY (o:Obj) (u:HO)
 |gK (q:Str)
 |B3 (q:Str)
 |ext (φ:Õ->Prop)
abbrev Hp:=À->Option HO
noncomputable def upd(H:Hp)(a:À)(o:HO):Hp:=λb=>if b=a then some o else H b
def þ{H:Hp}{a:À}{o:HO}:upd H a o a=some o:=by unfold upd;rw[if_pos rfl]
def ì{H:Hp}{a b:À}{o:HO}(h:b≠a):upd H a o b=H b:=by unfold upd;rw[if_neg h]
def ø{H:Hp}{a b:À}{o:HO}(h:H a=some o)(h':H b=none):a≠b:=by intro e;subst e;rw[h] at h';cases h'
section
variable(P:î)(w:ß)
def ϓ(H:Hp)(h:Õ)(a:À):HO->Prop
 | .lst xs=>xs.length<=sizeLine/\∃(ċ:List Á) (n:Nat),Ĳ xs ċ/\h.get? a=some {cls:=.type "list",data:=.seq ċ.toArray n}
 | .tup xs=>xs.length<=sizeLine/\∃ċ:List Á,Ĳ xs ċ/\IsTup h a ċ.toArray
 | .dK eZ=>eZ.length<=sizeLine/\(a== sysModules)=false/\∃vs,KV eZ vs/\h.DictOf (vj P w) a vs
 | .dT eZ=>eZ.length≤sizeLine∧(a== sysModules)=false∧∃xs:List (List xk×À×Á),
     Paired (λ(p:List xk×Qqj) (q:List xk×À×Á)=>p.1=q.1/\H q.2.1=some (.tup (p.1.map kV))/\RelV p.2 q.2.2) eZ xs/\
     ∃o es ep,h.get? a=some o/\o.ExactDict/\o.data=.dict es ep/\es.toList=xs.map (entryOfKey (tupleKind (vj P w)))/\(xs.map (·.1)).Nodup
 | .set S n=>h.SetOf (intKind P w) a S n
 | .ins C dx fs=>H dx=some (.own a)∧fs.length≤1000∧dx≠a∧h.get? a=some (cI C dx)∧
     ∃mA,h.Ns1 dx mA/\(∀f,kX (fs.lookup f) (mA f))/\kx mA (fs.map (·.1))
 | .own _=>∃o,h.get? a=some o
 | .xd fs=>∃mA,h.Ns1 a mA/\∀f,kX (fs.lookup f) (mA f)
 | .rng lo hi=>∃t u v,h.get? a=some {cls:=.type "range",data:=.fields #[.int lo t,.int hi u,.int 1 v]}
 | .dY o u=>h.get? a=some o/\ϓ H h a u
 | .gK q=>∃ps:Array Á,h.get? a=some {cls:=.none,data:=.fields ps}/\TriplesOk ps.toList/\∀pos cv,codeAmong pos ps.toList=some cv->∃c,cv=.ref c/\H c=some (.B3 q)
 | .B3 q=>h.CodeRec (.ref a) q
 | .met f x=>h.get? a=some (uR (.ref f) (.ref x))
 | .ext φ=>φ h/\(∃o,h.get? a=some o)/\∀h1 h2:Õ,φ h1->(∀o,h1.get? a=some o->h2.get? a=some o)->φ h2
def eD(H:Hp)(h:Õ):Prop:=∀a o,H a=some o->ϓ P w H h a o
end
section
variable{P:î}{w:ß}{H H':Hp}{h h':Õ}{a:À}{o:HO}
theorem ϓ.lt(x:ϓ P w H h a o):a<h.objs.size:=by
 cases o with
 |lst xs=>obtain⟨_,_,_,_,e⟩:=x;exact ó e
 |tup xs=>obtain⟨_,_,_,p⟩:=x;exact p.lt
 |dK eZ=>obtain⟨_,_,_,_,o,_,_,e,_⟩:=x;exact ó e
 |dT eZ=>obtain⟨_,_,_,_,o,_,_,e,_⟩:=x;exact ó e
 |set S n=>obtain⟨o,_,_,_,e,_⟩:=x;exact ó e
 |ins C dx fs=>obtain⟨_,_,_,e,_⟩:=x;exact ó e
 |own y=>obtain⟨_,e⟩:=x;exact ó e
 |xd fs=>obtain⟨_,⟨_,_,_,e,_⟩,_⟩:=x;exact ó e
 |rng lo hi=>obtain⟨_,_,_,e⟩:=x;exact ó e
 |dY ob u=>obtain⟨e,_⟩:=x;exact ó e
 |gK q=>obtain⟨_,e,_⟩:=x;exact ó e
 |B3 q=>obtain⟨c,o,_,_,z,e,_⟩:=x;cases z;exact ó e
 |met f y=>exact ó (show h.get? a=some _ from x)
 |ext φ=>obtain⟨_,⟨_,e⟩,_⟩:=x;exact ó e
theorem Paired.TH{α β:Type}{F G:α->β->Prop}:∀{l₁:List α} {l₂:List β},Paired F l₁ l₂->(∀a b,F a b->G a b)->Paired G l₁ l₂
 |_,_,.nil,_=>.nil
 |_,_,.cons r t,f=>.cons (f _ _ r) (Paired.TH t f)
def ϓ.stay(x:ϓ P w H h a o)(k:∀b u,(b=a\/H b=some (.own a))->h.get? b=some u->h'.get? b=some u)
 (ho:∀b,H b=some (.own a)->H' b=some (.own a))(ht:∀b xs,H b=some (.tup xs)->H' b=some (.tup xs))(hc:∀b q,H b=some (.B3 q)->H' b=some (.B3 q):=by exact λ_ _ z=>z):ϓ P w H' h' a o:=by
 induction o with
 |lst xs=>obtain⟨z,ċ,n,r,e⟩:=x;exact⟨z,ċ,n,r,k _ _ (.inl rfl) e⟩
 |tup xs=>obtain⟨z,ċ,r,ob,e,c⟩:=x;exact⟨z,ċ,r,ob,k _ _ (.inl rfl) e,c⟩
 |dK eZ=>obtain⟨z,y,vs,r,ob,es,ep,e,c⟩:=x;exact⟨z,y,vs,r,ob,es,ep,k _ _ (.inl rfl) e,c⟩
 |dT eZ=>obtain⟨z,y,xs,r,ob,es,ep,e,c⟩:=x;exact⟨z,y,xs,Paired.TH r λp q z=>⟨z.1,ht _ _ z.2.1,z.2.2⟩,ob,es,ep,k _ _ (.inl rfl) e,c⟩
 |set S n=>obtain⟨ob,es,ep,t,e,c⟩:=x;exact⟨ob,es,ep,t,k _ _ (.inl rfl) e,c⟩
 |ins C dx fs=>obtain⟨d,z,ne,e,mA,⟨od,es,ep,e2,c⟩,r⟩:=x;exact⟨ho _ d,z,ne,k _ _ (.inl rfl) e,mA,⟨od,es,ep,k _ _ (.inr d) e2,c⟩,r⟩
 |own y=>obtain⟨ob,e⟩:=x;exact⟨ob,k _ _ (.inl rfl) e⟩
 |xd fs=>obtain⟨mA,⟨od,es,ep,e,c⟩,r⟩:=x;exact⟨mA,⟨od,es,ep,k _ _ (.inl rfl) e,c⟩,r⟩
 |rng lo hi=>obtain⟨t,u,v,e⟩:=x;exact⟨t,u,v,k _ _ (.inl rfl) e⟩
 |dY ob u ih=>obtain⟨e,q⟩:=x;exact⟨k _ _ (.inl rfl) e,ih q⟩
 |gK q=>obtain⟨ps,e,t,r⟩:=x;exact⟨ps,k a _ (.inl rfl) e,t,λpos cv z=>let ⟨c,z1,z2⟩:=r pos cv z;⟨c,z1,hc c q z2⟩⟩
 |B3 q=>obtain⟨c,o,vs,t,z,e,r⟩:=x;cases z;exact⟨a,o,vs,t,rfl,k a _ (.inl rfl) e,r⟩
 |met f y=>have e:h.get? a=some (uR (.ref f) (.ref y)):=x;show h'.get? a=some (uR (.ref f) (.ref y));exact k a _ (.inl rfl) e
 |ext φ=>obtain⟨p,⟨o,e⟩,st⟩:=x;exact⟨st _ _ p λo q=>k _ _ (.inl rfl) q,⟨o,k _ _ (.inl rfl) e⟩,st⟩
theorem eD.lt(x:eD P w H h)(e:H a=some o):a<h.objs.size:=(x a o e).lt
def eD.fresh(x:eD P w H h)(e:h.objs.size<=a):H a=none:=by
 cases q:H a with
 |none=>rfl
 |some u=>exact absurd (Ţ (x.lt q) e) (ų _)
def eD.kept(x:eD P w H h)(k:∀b u,h.get? b=some u->h'.get? b=some u):eD P w H h':=λa o e=>
 (x a o e).stay (λb u _ q=>k b u q) (λ_ q=>q) λ_ _ q=>q
def eD.laid(x:eD P w H h)(k:∀b u,h.get? b=some u->h'.get? b=some u)(hp:h.objs.size<=a)(new:ϓ P w (upd H a o) h' a o):eD P w (upd H a o) h':=λb u e=>by
 have hn:=x.fresh hp;by_cases hb:b=a
 ·subst hb;rw[þ] at e;cases e;exact new
 ·rw[ì hb] at e;exact(x b u e).stay (λc v _ q=>k c v q) (λc q=>by rw[ì (ø q hn)];exact q) (λc xs q=>by rw[ì (ø q hn)];exact q) λc xs q=>by rw[ì (ø q hn)];exact q
end
def Rd(H:Hp)(a:À)(u:HO):Prop:=H a=some u\/∃o,H a=some (.dY o u)
def Rd.ok{P:î}{w:ß}{H:Hp}{h:Õ}{a:À}{u:HO}(r:Rd H a u)(x:eD P w H h):ϓ P w H h a u:=by
 rcases r with r|⟨o,r⟩
 ·exact x a u r
 ·obtain⟨_,q⟩:=x a _ r;exact q
def WT:Option HO->Prop
 |some (.lst _)=>True
 |some (.dK _)=>True
 |some (.dT _)=>True
 |some (.set _ _)=>True
 |some (.ins _ _ _)=>True
 |some (.ext _)=>True
 |some (.xd _)=>True
 |_=>False
section
variable{P:î}{w:ß}{H:Hp}{h h':Õ}{x e:À}{o':HO}
def eD.write(ok:eD P w H h)(mu:WT (H x))(he:e=x\/H e=some (.own x))(k:∀b u,b≠e->h.get? b=some u->h'.get? b=some u)(Tw:∃u,h'.get? e=some u)
 (new:ϓ P w (upd H x o') h' x o'):eD P w (upd H x o') h':=λb u q=>by
 have TJ:∀c y,H c=some (.own y)->c≠x:=λc y r z=>by subst z;rw[r] at mu;exact mu
 have Yk:∀c xs,H c=some (.tup xs)->c≠x:=λc xs r z=>by subst z;rw[r] at mu;exact mu
 have Yl:∀c q,H c=some (.B3 q)->c≠x:=λc xs r z=>by subst z;rw[r] at mu;exact mu
 by_cases hb:b=x
 ·subst hb;rw[þ] at q;cases q;exact new
 ·rw[ì hb] at q;by_cases Iw:b=e
  ·have q':H b=some (.own x):=by
    rcases he with z|z
    ·exact absurd (Iw.trans z) hb
    ·rw[Iw];exact z
   rw[q] at q';cases q';obtain⟨v,hv⟩:=Tw;exact⟨v,by rw[Iw];exact hv⟩
  ·refine(ok b u q).stay (λc v hc r=>k c v ?_ r) (λc r=>by rw[ì (TJ c b r)];exact r) (λc xs r=>by rw[ì (Yk c xs r)];exact r) λc xs r=>by rw[ì (Yl c xs r)];exact r
   rcases hc with rfl|hc
   ·exact Iw
   ·rintro rfl;rcases he with z|z
    ·exact TJ c b hc z
    ·rw[hc] at z;cases z;exact hb rfl
end
structure Un(fs ex:List À)(H H':Hp)(h h':Õ):Prop where
 keep:∀b o,h.get? b=some o->H b=none->b∉fs->b∉ex->h'.get? b=some o
 slot:∀b o,h.get? b=some o->H b=none->b∈fs->b∉ex->∃sl,h'.get? b=some {o with slots:=sl}
 free:∀b o,h.get? b=some o->H b=none->b∉ex->H' b=none
 there:∀b o,h.get? b=some o->b∉ex->∃o',h'.get? b=some o'
 tups:∀b xs,H b=some (.tup xs)->H' b=some (.tup xs)
 fG:∀b o u,H b=some (.dY o u)->H' b=some (.dY o u)
 dZ:∀b q,H b=some (.gK q)->H' b=some (.gK q)
section
variable{fs ex:List À}{H H1:Hp}{h h1 h':Õ}{a x e:À}{o:HO}
def Un.any(u:Un fs ex H H1 h h1){b:À}{ob:Obj}(q:h.get? b=some ob)(n:H b=none)(hx:b∉ex):∃sl,h1.get? b=some {ob with slots:=sl}:=by
 by_cases hb:b∈fs
 ·exact u.slot b ob q n hb hx
 ·exact⟨ob.slots,u.keep b ob q n hb hx⟩
def Un.kept(k:∀b u,h.get? b=some u->h'.get? b=some u):Un fs ex H H h h':=
 ⟨λb ob q _ _ _=>k b ob q,λb ob q _ _ _=>⟨ob.slots,k b ob q⟩,λ_ _ _ n _=>n,λb ob q _=>⟨ob,k b ob q⟩,λ_ _ q=>q,λ_ _ _ q=>q,λ_ _ q=>q⟩
def Un.refl:Un fs ex H H h h:=Un.kept λ_ _ q=>q
def Un.laid(k:∀b u,h.get? b=some u->h'.get? b=some u)(hp:h.objs.size<=a)(hn:H a=none):Un fs ex H (upd H a o) h h' where
 keep:=λb u q _ _ _=>k b u q
 slot:=λb u q _ _ _=>⟨u.slots,k b u q⟩
 free:=λb u q n _=>by rw[ì (ę (Ţ (ó q) hp))];exact n
 there:=λb u q _=>⟨u,k b u q⟩
 tups:=λb xs q=>by rw[ì (ø q hn)];exact q
 fG:=λb u xs q=>by rw[ì (ø q hn)];exact q
 dZ:=λb ps q=>by rw[ì (ø q hn)];exact q
def Un.write(mu:WT (H x))(he:e=x\/H e=some (.own x))(k:∀b u,b≠e->h.get? b=some u->h'.get? b=some u)(Tw:∃u,h'.get? e=some u):Un fs ex H (upd H x o) h h':=by
 have hx:∀b,H b=none->b≠x:=λb n z=>by subst z;rw[n] at mu;exact mu
 have hb:∀b,H b=none->b≠e:=λb n z=>by
  subst z;rcases he with r|r
  ·exact hx b n r
  ·rw[n] at r;cases r
 have hm:∀b u,H b=some u->¬WT (some u)->b≠x:=λb u q nm z=>by subst z;rw[q] at mu;exact nm mu
 refine⟨λb u q n _ _=>k b u (hb b n) q,λb u q n _ _=>⟨u.slots,k b u (hb b n) q⟩,λb u q n _=>by rw[ì (hx b n)];exact n,λb u q _=>?_,
  λb xs q=>by rw[ì (hm b _ q λz=>z)];exact q,λb u xs q=>by rw[ì (hm b _ q λz=>z)];exact q,λb ps q=>by rw[ì (hm b _ q λz=>z)];exact q⟩
 by_cases Iw:b=e
 ·subst Iw;exact Tw
 ·exact⟨u,k b u Iw q⟩
end
def WU(h:Õ)(H:Hp):List À:=(Ò h.objs.size).filter λa=>(H a).isSome
def r_(h:Õ)(H:Hp):Õ:=kR h (WU h H)
def Dv(h:Õ)(H:Hp):(r_ h H).objs.size=h.objs.size:=PySem.W.hideAll_size _ _
def Ew{h:Õ}{H:Hp}{b:À}{o:Obj}(e:h.get? b=some o)(n:H b=none):(r_ h H).get? b=some o:=
 BW _ e λhm=>by have q:(H b).isSome=true:=(jY.mp hm).2;rw[n] at q;simp at q
def IF{h:Õ}{H:Hp}{b:À}{o:Obj}(e:(r_ h H).get? b=some o):h.get? b=some o/\H b=none:=by
 have e':h.get? b=some o:=BX (WU h H) e;refine⟨e',?_⟩;cases q:H b with
 |none=>rfl
 |some x=>have hm:b∈WU h H:=jY.mpr ⟨ĸ.mpr (ó e'),by simp[q]⟩;have z:(r_ h H).get? b=none:=BY (WU h H) hm;rw[z] at e;cases e
noncomputable def IG(g h:Õ)(L:À):List (À×Obj):=(Ò h.objs.size).filterMap λa=>if a=L\/(g.get? a).isSome=true then none else(h.get? a).map λo=>(a,o)
def rest(g h:Õ)(L d:À):List (À×Obj):=(IG g h L).filter λp=>decide (p.1≠d)
structure Mod(K:Ñ)(mg:Str->Option Á)(base:Õ):Prop where
 OU:K.In base
 glob:base.Ns ū mg
 blt:∃mb,base.Ns builtinsNs mb/\∀x:Str,x≠ "__name__" ->mb x=bg x
 nolimit:base.NoLimit
def lams:List Str:=["cheapest"]
abbrev cQ(x:Str):Str:=(x ++ ".<locals>.") ++ "<lambda>"
def wT(K:Ñ)(mg:Str->Option Á)(base:Õ)(H:Hp):Prop:=∀x c P,x∈lams->Ů K x=some (c,P)->uS base c P/\H P=some (.gK (cQ x))/\base.BuiltinsAt mg P
structure Cx where
 prog:î
 w:ß
 K:Ñ
 mg:Str->Option Á
 base:Õ
 A:ð
 N:List Str
 s₀:Å
 H₀:Hp
 env:Env
 outer:List Env
 stack:List Env
 ex:List À
 fn:Str->Bool
 calm:Bool
 pn:List (À×Obj)
 xe:Á->Å->Prop
def ng(l:List Env):List À:=l.filterMap (·.frame)
abbrev Cx.fs(X:Cx):List À:=ng X.outer
def w_(sc:ą)(x:Str):Prop:=sc.names.lookup x=some .local\/sc.names.lookup x=some .cell\/sc.names.lookup x=some .free
def Loc(sc:ą)(x:Str):Prop:=sc.names.lookup x=some .local\/sc.names.lookup x=some .cell
def Look(env:Env)(h:Õ)(m:Str->Option Á)(x:Str)(u:Á):Prop:=
 (env.kindOf x=some .local/\m x=some u)\/((env.kindOf x=some .cell\/env.kindOf x=some .free)/\∃c,env.cells.lookup x=some c/\h.IsCell c (some u))
structure Cx.Ok(X:Cx):Prop where
 mod:Mod X.K X.mg X.base
 kind:X.env.scope.kind=.function
 glob:X.env.globals=ū
 blt:X.env.builtins=builtinsNs
 above:X.s₀.heap.objs.size<=X.env.locals
 inj:∀x y c,X.env.cells.lookup x=some c->X.env.cells.lookup y=some c->x=y
 has:∀x,(X.env.kindOf x=some .cell\/X.env.kindOf x=some .free)->∃c,X.env.cells.lookup x=some c
 cab:∀x c,X.fn x=true->X.env.cells.lookup x=some c->X.s₀.heap.objs.size<=c
 hd:X.calm=true->X.A.handled=none
 frames:X.A.frames=some X.stack
 stk:X.stack=X.outer\/(X.stack=X.env::X.outer/\X.env.frame=some X.env.locals)
 S7:∀b∈X.ex,b≠X.env.locals/\∀x c,X.env.cells.lookup x=some c->c≠b
 bs:∀b o,X.base.get? b=some o->X.s₀.heap.get? b=some o/\X.H₀ b=none
 B4:X.base.objs.size<=X.s₀.heap.objs.size
 sd:∀b o,X.base.get? b=some o->b∉X.ex
 xm:∀b∈X.ex,b∉X.fs
 jk:X.s₀.heap.FunFrames X.base X.outer
 Ex:∀b∈X.fs,X.H₀ b=none
 tb:wT X.K X.mg X.base X.H₀
structure Inv(X:Cx)(Ã:List (À×Obj))(V:List (Option Qqj))(H:Hp)(s:Å):Prop where
 ok:X.Ok
 os:s.os=X.s₀.os
 bare:bQ s.gens
 base:Un X.fs X.ex X.H₀ H X.s₀.heap s.heap
 loc:∃m,s.heap.Ns X.env.locals m/\∀(i:Nat) (x:Str) (v:Qqj),X.N[i]?=some x->V[i]?=some (some v)->w_ X.env.scope x->∃u,RelV v u/\Look X.env s.heap m x u
 cell:∀x c,X.env.cells.lookup x=some c->∃v,s.heap.IsCell c v
 free:H X.env.locals=none
 b_:∀x c,X.env.cells.lookup x=some c->H c=none
 pin:∀p∈X.pn++Ã,s.heap.get? p.1=some p.2/\H p.1=none/\p.1≠X.env.locals/\p.1∉X.fs/\∀v,p.2.data≠ .cell v
 hok:eD X.prog X.w H s.heap
 len:V.length=X.N.length
section
variable{X:Cx}{Ã:List (À×Obj)}{V:List (Option Qqj)}{H H':Hp}{s:Å}{h':Õ}
def Cx.Ok.Ym(ok:X.Ok){b:À}{o:Obj}(e:X.base.get? b=some o):b∉X.fs:=λhb=>by have:=(ok.jk.mem hb).1;rw[e] at this;cases this
theorem Inv.bs(I:Inv X Ã V H s):∀b o,X.base.get? b=some o->s.heap.get? b=some o/\H b=none:=λb o e=>
 ⟨I.base.keep b o (I.ok.bs b o e).1 (I.ok.bs b o e).2 (I.ok.Ym e) (I.ok.sd b o e),I.base.free b o (I.ok.bs b o e).1 (I.ok.bs b o e).2 (I.ok.sd b o e)⟩
def Inv.bk(I:Inv X Ã V H s):∀b o,X.base.get? b=some o->s.heap.get? b=some o:=λb o e=>(I.bs b o e).1
theorem Inv.tb(I:Inv X Ã V H s):wT X.K X.mg X.base H:=λx c P hx e=>⟨(I.ok.tb x c P hx e).1,I.base.dZ _ _ (I.ok.tb x c P hx e).2.1,(I.ok.tb x c P hx e).2.2⟩
theorem Inv.mod(I:Inv X Ã V H s):Mod X.K X.mg X.base:=I.ok.mod
def Inv.eY(I:Inv X Ã V H s):X.K.In s.heap:=I.ok.mod.OU.keeps I.bk
theorem Inv.nolimit(I:Inv X Ã V H s):s.heap.NoLimit:=I.ok.mod.nolimit.keeps I.bk
theorem Inv.lt(I:Inv X Ã V H s):X.env.locals<s.heap.objs.size:=let ⟨_,hn,_⟩:=I.loc;hn.lt
def Inv.sz(I:Inv X Ã V H s):X.s₀.heap.objs.size<=s.heap.objs.size:=Ĺ I.ok.above (fg I.lt)
def Inv.Yn(I:Inv X Ã V H s){a:À}(h:s.heap.objs.size<=a):a∉X.fs:=λhb=>by obtain⟨_,o,ho,_⟩:=I.ok.jk.mem hb;exact absurd (Ţ (ó ho) (Ĺ I.sz h)) (ų _)
def Inv.IH(I:Inv X Ã V H s):∀x c,X.env.cells.lookup x=some c->c≠X.env.locals:=λx c e z=>by obtain⟨v,o,ho,hd⟩:=I.cell x c e;obtain⟨m,⟨o',es,ep,A3,Sw,_⟩,_⟩:=I.loc;rw[z,A3] at ho;cases ho;rw[Sw] at hd;cases hd
theorem Inv.jk(I:Inv X Ã V H s):s.heap.FunFrames X.base X.outer:=by
 have all:∀(l:List Env),(∀b∈ng l,b∈X.fs)->X.s₀.heap.FunFrames X.base l->s.heap.FunFrames X.base l:=by
  intro l
  induction l with
  |nil=>intro _ _;trivial
  |cons env r ih=>intro hs hl;obtain⟨hk,⟨L,o,hf,hn,ho,hd⟩,hr⟩:=hl;have hL:L∈X.fs:=hs L (by unfold ng;rw[oB,hf];exact ĭ);obtain⟨sl,e⟩:=I.base.slot L o ho (I.ok.Ex L hL) hL λz=>I.ok.xm L z hL;exact⟨hk,⟨L,_,hf,hn,e,hd⟩,ih (λb hb=>hs b (by unfold ng;rw[oB,hf];exact Ă _ hb)) hr⟩
 exact all X.outer (λ_ hb=>hb) I.ok.jk
theorem Inv.stack(I:Inv X Ã V H s):s.heap.FunFrames X.base X.stack:=by
 rcases I.ok.stk with e|⟨e,hf⟩
 ·rw[e];exact I.jk
 ·rw[e];obtain⟨m,hn,_⟩:=I.loc;refine .cons (by rw[I.ok.kind];decide) hf hn ?_ I.jk;exact uM (Ĺ I.ok.B4 I.ok.above)
def Inv.p_(I:Inv X Ã V H s):∀b∈ng X.stack,b∈X.env.locals::X.fs:=λb hb=>by
 rcases I.ok.stk with e|⟨e,hf⟩
 ·rw[e] at hb;exact Ă _ hb
 ·rw[e] at hb;unfold ng at hb;rw[oB,hf] at hb;exact hb
def Inv.pP(I:Inv X Ã V H s):∀b∈ng X.stack,H b=none:=λb hb=>by
 rcases Ā.mp (I.p_ b hb) with e|hb
 ·rw[e];exact I.free
 ·obtain⟨_,o,ho,_⟩:=I.ok.jk.mem hb;exact I.base.free b o ho (I.ok.Ex b hb) λz=>I.ok.xm b z hb
def Inv.step{g':Array GenState}{t':Nat}{d':Drawn}{ch:List À}(I:Inv X Ã V H s)
 (Ix:∀b∈ch,(b∈X.ex\/X.s₀.heap.objs.size<=b)/\b≠X.env.locals/\(∀x c,X.env.cells.lookup x=some c->c≠b)/\∀p∈X.pn++Ã,p.1≠b)
 (keep:∀b o,b≠X.env.locals->b∉X.fs->b∉ch->s.heap.get? b=some o->H b=none->h'.get? b=some o)
 (slot:∀b o,b≠X.env.locals->b∈X.fs->b∉ch->s.heap.get? b=some o->H b=none->∃sl,h'.get? b=some {o with slots:=sl})(free:∀b o,b∉ch->s.heap.get? b=some o->H b=none->H' b=none)
 (there:∀b o,b∉ch->s.heap.get? b=some o->∃o',h'.get? b=some o')
 (tups:∀b xs,H b=some (.tup xs)->H' b=some (.tup xs))(fG:∀b o u,H b=some (.dY o u)->H' b=some (.dY o u))(dZ:∀b q,H b=some (.gK q)->H' b=some (.gK q))
 (ns:∀m,s.heap.Ns X.env.locals m->h'.Ns X.env.locals m)(hok:eD X.prog X.w H' h')(hg:bQ g') :
 Inv X Ã V H' {s with heap:=h',gens:=g',drawn:=d',toks:=t'}:=by
 have Io:∀b o,X.s₀.heap.get? b=some o->b≠X.env.locals:=λb o e=>ę (Ţ (ó e) I.ok.above);have WV:∀b o,X.s₀.heap.get? b=some o->b∉X.ex->b∉ch:=λb o e hx hb=>by
  rcases(Ix b hb).1 with z|z
  ·exact hx z
  ·exact absurd (Ţ (ó e) z) (ų _)
 have Oz:∀x c,X.env.cells.lookup x=some c->∀v,s.heap.IsCell c v->h'.IsCell c v:=λx c e v ⟨o,ho,hd⟩=>by
  have TL:c∉ch:=λz=>(Ix c z).2.2.1 x c e rfl;by_cases hc:c∈X.fs
  ·obtain⟨sl,q⟩:=slot c o (I.IH x c e) hc TL ho (I.b_ x c e);exact⟨_,q,hd⟩
  ·exact⟨o,keep c o (I.IH x c e) hc TL ho (I.b_ x c e),hd⟩
 refine⟨I.ok,I.os,hg,⟨λb o e n hb hx=>?_,λb o e n hb hx=>?_,λb o e n hx=>?_,λb o e hx=>?_,λb xs e=>tups b xs (I.base.tups b xs e),λb o xs e=>fG b o xs (I.base.fG b o xs e),λb ps e=>?_⟩,?_,λx c e=>?_,?_,λx c e=>?_,λp hp=>?_,hok,I.len⟩
 ·exact keep b o (Io b o e) hb (WV b o e hx) (I.base.keep b o e n hb hx) (I.base.free b o e n hx)
 ·obtain⟨sl,e1⟩:=I.base.slot b o e n hb hx;obtain⟨sl',e2⟩:=slot b _ (Io b o e) hb (WV b o e hx) e1 (I.base.free b o e n hx);exact⟨sl',e2⟩
 ·obtain⟨o',e1⟩:=I.base.there b o e hx;exact free b o' (WV b o e hx) e1 (I.base.free b o e n hx)
 ·obtain⟨o',e1⟩:=I.base.there b o e hx;exact there b o' (WV b o e hx) e1
 ·exact dZ b ps (I.base.dZ b ps e)
 ·obtain⟨m,hn,hl⟩:=I.loc;refine⟨m,ns m hn,λi x v e1 e2 e3=>?_⟩;obtain⟨u,r,l⟩:=hl i x v e1 e2 e3;refine⟨u,r,?_⟩;rcases l with l|⟨k,c,e,z⟩
  ·exact .inl l
  ·exact .inr ⟨k,c,e,Oz x c e _ z⟩
 ·obtain⟨v,z⟩:=I.cell x c e;exact⟨v,Oz x c e v z⟩
 ·obtain⟨m,⟨o,_,_,ho,_⟩,_⟩:=I.loc;exact free _ o (λz=>(Ix _ z).2.1 rfl) ho I.free
 ·obtain⟨v,o,ho,hd⟩:=I.cell x c e;exact free c o (λz=>(Ix c z).2.2.1 x c e rfl) ho (I.b_ x c e)
 ·obtain⟨e,n,ne,nf,d⟩:=I.pin p hp;have TL:p.1∉ch:=λz=>(Ix p.1 z).2.2.2 p hp rfl;exact⟨keep p.1 p.2 ne nf TL e n,free p.1 p.2 TL e n,ne,nf,d⟩
def Inv.un{t':Nat}(I:Inv X Ã V H s)(u:Un X.fs [] H H' s.heap h')(hok:eD X.prog X.w H' h'):Inv X Ã V H' {s with heap:=h',toks:=t'}:=by obtain⟨m,⟨o,es,ep,ho,r⟩,_⟩:=id I.loc;obtain⟨sl,hL⟩:=u.any ho I.free (by simp);exact I.step (g':=s.gens) (d':=s.drawn) (ch:=[]) (λ_ z=>nomatch z) (λb o _ hb _ e n=>u.keep b o e n hb (by simp)) (λb o _ hb _ e n=>u.slot b o e n hb (by simp)) (λb o _ e n=>u.free b o e n (by simp)) (λb o _ e=>u.there b o e (by simp)) u.tups u.fG u.dZ (λm' hm=>by obtain⟨o',es',ep',A3,r'⟩:=hm;rw[ho] at A3;cases A3;exact⟨_,es',ep',hL,r'⟩) hok I.bare
def Inv.call{g':Array GenState}{t':Nat}{d':Drawn}{ch:List À}(I:Inv X Ã V H s)(u:Un (ng X.stack) ch H H' s.heap h')(hok:eD X.prog X.w H' h')(hg:bQ g')
 (Ix:∀b∈ch,(b∈X.ex\/X.s₀.heap.objs.size<=b)/\b≠X.env.locals/\(∀x c,X.env.cells.lookup x=some c->c≠b)/\∀p∈X.pn++Ã,p.1≠b) :
 Inv X Ã V H' {s with heap:=h',gens:=g',drawn:=d',toks:=t'}:=by
 obtain⟨m,⟨o,es,ep,ho,r⟩,_⟩:=id I.loc;obtain⟨sl,hL⟩:=u.any ho I.free λz=>(Ix _ z).2.1 rfl;exact I.step (ch:=ch) Ix (λb o hL hb hc e n=>u.keep b o e n (λz=>(Ā.mp (I.p_ b z)).elim hL hb) hc) (λb o _ _ hc e n=>u.any e n hc) (λb o hc e n=>u.free b o e n hc) (λb o hc e=>u.there b o e hc) u.tups u.fG u.dZ (λm' hm=>by obtain⟨o',es',ep',A3,r'⟩:=hm;rw[ho] at A3;cases A3;exact⟨_,es',ep',hL,r'⟩) hok hg
def Inv.turned{t':Nat}{it:À}(I:Inv X Ã V H s)(k:∀b o,b≠it->s.heap.get? b=some o->h'.get? b=some o)(hn:H it=none)(hL:it≠X.env.locals)
 (h1:it∈X.ex\/X.s₀.heap.objs.size<=it)(h2:∀x c,X.env.cells.lookup x=some c->c≠it)(h3:∀p∈X.pn++Ã,p.1≠it):Inv X Ã V H {s with heap:=h',toks:=t'}:=by
 have TM:∀b u,H b=some u->b≠it:=λb u e z=>by rw[z,hn] at e;cases e
 refine I.step (g':=s.gens) (d':=s.drawn) (ch:=[it]) (λb hb=>?_) (λb o _ _ hc e _=>k b o (λz=>hc (by simp[z])) e) (λb o _ _ hc e _=>⟨o.slots,k b o (λz=>hc (by simp[z])) e⟩) (λ_ _ _ _ n=>n)
  (λb o hc e=>⟨o,k b o (λz=>hc (by simp[z])) e⟩) (λ_ _ e=>e) (λ_ _ _ e=>e) (λ_ _ e=>e) (λm hm=>?_) (λb u e=>?_) I.bare
 ·have e:b=it:=by simpa using hb
  subst e;exact⟨h1,hL,h2,h3⟩
 ·obtain⟨o,es,ep,ho,r⟩:=hm;exact⟨o,es,ep,k _ o (ĥ hL) ho,r⟩
 ·refine(I.hok b u e).stay (λc v hc q=>k c v ?_ q) (λ_ q=>q) λ_ _ q=>q;rcases hc with z|z
  ·rw[z];exact TM b u e
  ·exact TM c _ z
def Inv.tok(I:Inv X Ã V H s)(t:Nat):Inv X Ã V H {s with toks:=t}:=I.un (h':=s.heap) (t':=t) Un.refl I.hok
theorem Inv.kept{t':Nat}(I:Inv X Ã V H s)(k:∀b u,s.heap.get? b=some u->h'.get? b=some u):Inv X Ã V H {s with heap:=h',toks:=t'}:=I.un (Un.kept k) (I.hok.kept k)
theorem Inv.laid{a:À}{o:HO}{t':Nat}(I:Inv X Ã V H s)(k:∀b u,s.heap.get? b=some u->h'.get? b=some u)(hp:s.heap.objs.size<=a)(new:ϓ X.prog X.w (upd H a o) h' a o) :
 Inv X Ã V (upd H a o) {s with heap:=h',toks:=t'}:=I.un (Un.laid k hp (I.hok.fresh hp)) (I.hok.laid k hp new)
theorem Inv.write{x e:À}{o:HO}{t':Nat}(I:Inv X Ã V H s)(mu:WT (H x))(he:e=x\/H e=some (.own x))(k:∀b u,b≠e->s.heap.get? b=some u->h'.get? b=some u)(Tw:∃u,h'.get? e=some u)
 (new:ϓ X.prog X.w (upd H x o) h' x o):Inv X Ã V (upd H x o) {s with heap:=h',toks:=t'}:=I.un (Un.write mu he k Tw) (I.hok.write mu he k Tw new)
def Inv.B5{cR:List (À×Obj)}(I:Inv X Ã V H s)(h:∀p∈cR,s.heap.get? p.1=some p.2/\H p.1=none/\p.1≠X.env.locals/\p.1∉X.fs/\∀v,p.2.data≠ .cell v):Inv X cR V H s:=
 ⟨I.ok,I.os,I.bare,I.base,I.loc,I.cell,I.free,I.b_,λp hp=>(cw.mp hp).elim (λz=>I.pin p (oE _ z)) (h p),I.hok,I.len⟩
def qa{N:List Str}(hN:N.Nodup){i j:Nat}{x:Str}(a:N[i]?=some x)(b:N[j]?=some x):i=j:=by obtain⟨h1,e1⟩:=Ϧ.mp a;obtain⟨h2,e2⟩:=Ϧ.mp b;exact(List.getElem_inj hN).mp (e1.trans e2.symm)
def sB{M:Model}{A:ð}{E:Á->Å->Prop}{i:Nat}{x:Str}{v:Qqj}{u:Á}{Q:Unit->Å->Prop}(I:Inv X Ã V H s)(hN:X.N.Nodup)(hi:X.N[i]?=some x)(hx:Loc X.env.scope x)(r:RelV v u)
 (h:∀s',Inv X Ã (V.set i (some v)) H s'->(∃a,ϯ a s.heap s'.heap/\(a=X.env.locals\/X.env.cells.lookup x=some a))->Q () s')(hf:X.fn x=true\/X.env.scope.names.lookup x=some .local:=by first|exact .inl rfl|exact .inr rfl|assumption):Î M A (storeName X.env x u) Q E s:=by
 obtain⟨m,hn,hl⟩:=id I.loc;have Zbb:(X.env.scope.kind== .class || (X.env.scope.kind== .module && X.env.locals != X.env.globals))=false:=by rw[I.ok.kind];rfl
 have Zbu:i < V.length:=by rw[I.len];exact(Ϧ.mp hi).1
 have IH:=I.IH;have Dq:∀{a:À} {h':Õ},(∃o,s.heap.get? a=some o/\H a=none)->ϯ a s.heap h'->eD X.prog X.w H h':=fun{a h'} ha hs b ob e=>by
  obtain⟨_,_,hfree⟩:=ha;refine(I.hok b ob e).stay (λc w' hc q=>(hs.2 c ?_).trans q) (λ_ q=>q) λ_ _ q=>q;rintro rfl;rcases hc with rfl|hc
  ·rw[hfree] at e;cases e
  ·rw[hfree] at hc;cases hc
 rcases hx with hk|hk
 ·refine wpAny_storeName_local hk hn (λh' OA hs=>?_) Zbb;obtain⟨oL,_,_,hoL,_⟩:=id hn;refine h _ ⟨I.ok,I.os,I.bare,⟨λb o e n hb hx=>?_,λb o e n hb hx=>?_,I.base.free,λb o e hx=>?_,I.base.tups,I.base.fG,I.base.dZ⟩,⟨_,OA,λj y v' e1 e2 e3=>?_⟩,λy c e=>?_,I.free,I.b_,λp hp=>?_,Dq ⟨oL,hoL,I.free⟩ hs,by simpa using I.len⟩ ⟨_,hs,.inl rfl⟩
  ·exact(hs.2 b (ę (Ţ (ó e) I.ok.above))).trans (I.base.keep b o e n hb hx)
  ·obtain⟨sl,e1⟩:=I.base.slot b o e n hb hx;exact⟨sl,(hs.2 b (ę (Ţ (ó e) I.ok.above))).trans e1⟩
  ·obtain⟨o',e1⟩:=I.base.there b o e hx;exact⟨o',(hs.2 b (ę (Ţ (ó e) I.ok.above))).trans e1⟩
  ·by_cases hj:j=i
   ·subst hj;rw[hi] at e1;cases e1;rw[oG Zbu] at e2;cases e2;exact⟨u,r,.inl ⟨hk,by simp⟩⟩
   ·rw[iB (ĥ hj)] at e2;obtain⟨u',r',q⟩:=hl j y v' e1 e2 e3;refine⟨u',r',?_⟩;rcases q with⟨k,e⟩|⟨k,c,e,z⟩
    ·refine .inl ⟨k,?_⟩;have:y≠x:=λe=>hj (qa hN e1 (e▸hi));simp[this,e]
    ·exact .inr ⟨k,c,e,z.sameBut hs (IH y c e)⟩
  ·obtain⟨w',z⟩:=I.cell y c e;exact⟨w',z.sameBut hs (IH y c e)⟩
  ·obtain⟨e,n,ne,nf,d⟩:=I.pin p hp;exact⟨(hs.2 p.1 ne).trans e,n,ne,nf,d⟩
 ·have hfn:X.fn x=true:=by
   rcases hf with z|z
   ·exact z
   ·rw[z] at hk;cases hk
  obtain⟨c,hc⟩:=I.ok.has x (.inl hk);obtain⟨w',z⟩:=I.cell x c hc;refine wpAny_storeName_cell I.ok.kind hk hc z (λh' jN hs=>?_);obtain⟨oc,Sx,Yo⟩:=id z;refine h {s with heap:=h'} ⟨I.ok,I.os,I.bare,⟨λb o e n hb hx=>?_,λb o e n hb hx=>?_,I.base.free,λb o e hx=>?_,I.base.tups,I.base.fG,I.base.dZ⟩,⟨m,hn.sameBut hs (ĥ (IH x c hc)),λj y v' e1 e2 e3=>?_⟩,λy c' e=>?_,I.free,I.b_,λp hp=>?_,Dq ⟨oc,Sx,I.b_ x c hc⟩ hs,by simpa using I.len⟩ ⟨c,hs,.inr hc⟩
  ·exact(hs.2 b (ę (Ţ (ó e) (I.ok.cab x c hfn hc)))).trans (I.base.keep b o e n hb hx)
  ·obtain⟨sl,e1⟩:=I.base.slot b o e n hb hx;exact⟨sl,(hs.2 b (ę (Ţ (ó e) (I.ok.cab x c hfn hc)))).trans e1⟩
  ·obtain⟨o',e1⟩:=I.base.there b o e hx;exact⟨o',(hs.2 b (ę (Ţ (ó e) (I.ok.cab x c hfn hc)))).trans e1⟩
  ·by_cases hj:j=i
   ·subst hj;rw[hi] at e1;cases e1;rw[oG Zbu] at e2;cases e2;exact⟨u,r,.inr ⟨.inl hk,c,hc,jN⟩⟩
   ·rw[iB (ĥ hj)] at e2;obtain⟨u',r',q⟩:=hl j y v' e1 e2 e3;refine⟨u',r',?_⟩;rcases q with q|⟨k,c',e,z'⟩
    ·exact .inl q
    ·refine .inr ⟨k,c',e,z'.sameBut hs ?_⟩;rintro rfl;exact hj (qa hN e1 (I.ok.inj _ _ _ e hc▸hi))
  ·by_cases X6:c'=c
   ·subst X6;exact⟨_,jN⟩
   ·obtain⟨w2,z2⟩:=I.cell y c' e;exact⟨w2,z2.sameBut hs X6⟩
  ·obtain⟨e,n,ne,nf,d⟩:=I.pin p hp;refine⟨(hs.2 p.1 ?_).trans e,n,ne,nf,d⟩;intro q;rw[q,Sx] at e;have q':oc=p.2:=ŀ e;exact d w' (by rw[<-q'];exact Yo)
def eG{M:Model}{A:ð}{E:Á->Å->Prop}{i:Nat}{x:Str}{v:Qqj}{u:Á}{Q:Unit->Å->Prop}(I:Inv X Ã V H s)(hN:X.N.Nodup)(hi:X.N[i]?=some x)(hx:Loc X.env.scope x)(r:RelV v u)
 (h:∀s',Inv X Ã (V.set i (some v)) H s'->Q () s')(hf:X.fn x=true\/X.env.scope.names.lookup x=some .local:=by first|exact .inl rfl|exact .inr rfl|assumption):Î M A (storeName X.env x u) Q E s:=
 sB I hN hi hx r (λs' I' _=>h s' I') hf
def Inv.call'{s':Å}{ch:List À}(I:Inv X Ã V H s)(ho:s'.os=s.os)(u:Un (ng X.stack) ch H H' s.heap s'.heap)(hok:eD X.prog X.w H' s'.heap)(hg:bQ s'.gens)
 (Ix:∀b∈ch,(b∈X.ex\/X.s₀.heap.objs.size<=b)/\b≠X.env.locals/\(∀x c,X.env.cells.lookup x=some c->c≠b)/\∀p∈X.pn++Ã,p.1≠b):Inv X Ã V H' s':=by
 obtain⟨h',g',d',t',o'⟩:=s';have e:o'=s.os:=ho;subst e;exact I.call (g':=g') (t':=t') (d':=d') u hok hg Ix
end
abbrev XK:=Á->Option À->Hp->Prop
abbrev St:=List (Option Qqj)
abbrev Ģ:= St
abbrev VK:=Qqj->Hp->Prop
abbrev TE:=St->Hp->VK->Prop
abbrev TT:=St->Hp->(Bool->Hp->Prop)->Prop
abbrev TA:=St->Hp->(List Qqj->Hp->Prop)->Prop
structure Ends where
 nx:St->Hp->Prop
 rt:VK
 bk:St->Hp->Prop:=λ_ _=>False
 ct:St->Hp->Prop:=λ_ _=>False
abbrev TS:=Ends->St->Hp->Prop
def EP(X:Cx)(Ã:List (À×Obj))(V:St)(Q:VK)(u:Á)(s':Å):Prop:=∃v H',Inv X Ã V H' s'/\RelV v u/\Q v H'
def TP(X:Cx)(Ã:List (À×Obj))(V:St)(Q:Bool->Hp->Prop)(b:Bool)(s':Å):Prop:=∃H',Inv X Ã V H' s'/\Q b H'
def AP(X:Cx)(Ã:List (À×Obj))(V:St)(Q:List Qqj->Hp->Prop)(us:List Á)(s':Å):Prop:=∃vs H',Inv X Ã V H' s'/\Ĳ vs us/\Q vs H'
def SP(X:Cx)(Ã:List (À×Obj))(D:Ends)(f:Flow)(s':Å):Prop:=
 match f with
 | .next=>∃V' H',Inv X Ã V' H' s'/\D.nx V' H'
 | .brk=>∃V' H',Inv X Ã V' H' s'/\D.bk V' H'
 | .cont=>∃V' H',Inv X Ã V' H' s'/\D.ct V' H'
 | .ret u=>∃v V' H',Inv X Ã V' H' s'/\RelV v u/\D.rt v H'
def PE(X:Cx)(e:Ð)(t:TE):Prop:=
 ∀(Ã:List (À×Obj)) (s:Å) (V:St) (H:Hp) (Q:VK),Inv X Ã V H s->t V H Q->Î (Ó X.prog X.w) X.A (Ý e X.env) (EP X Ã V Q) X.xe s
def PT(X:Cx)(e:Ð)(t:TT):Prop:=
 ∀(Ã:List (À×Obj)) (s:Å) (V:St) (H:Hp) (Q:Bool->Hp->Prop),Inv X Ã V H s->t V H Q->Î (Ó X.prog X.w) X.A (isTrue e X.env (Ý e X.env)) (TP X Ã V Q) X.xe s
def PW(X:Cx)(e:Ð)(t:TT):Prop:=
 ∀(whole:Sem Á) (Ã:List (À×Obj)) (s:Å) (V:St) (H:Hp) (Q:Bool->Hp->Prop),Inv X Ã V H s->t V H Q->Î (Ó X.prog X.w) X.A (isTrue e X.env whole) (TP X Ã V Q) X.xe s
def PW.pt{X:Cx}{e:Ð}{t:TT}(h:PW X e t):PT X e t:=h _
def PA(X:Cx)(es:List Ð)(t:TA):Prop:=
 ∀(pos:Pos) (Ã:List (À×Obj)) (s:Å) (V:St) (H:Hp) (Q:List Qqj->Hp->Prop),Inv X Ã V H s->t V H Q->Î (Ó X.prog X.w) X.A (spliced (Ŭ pos (å es X.env))) (AP X Ã V Q) X.xe s
def PS(X:Cx)(st:Ö)(t:TS):Prop:=
 ∀(Ã:List (À×Obj)) (s:Å) (V:St) (H:Hp) (D:Ends),Inv X Ã V H s->t D V H->Î (Ó X.prog X.w) X.A (exec st X.env) (SP X Ã D) X.xe s
def fH(X:Cx)(st:List Ö)(t:TS):Prop:=
 ∀(Ã:List (À×Obj)) (s:Å) (V:St) (H:Hp) (D:Ends),Inv X Ã V H s->t D V H->Î (Ó X.prog X.w) X.A (execs st X.env) (SP X Ã D) X.xe s
def Ų{α:Type}{t:Sem α}{Q Q':α->Å->Prop}{M:Model}{A:ð}{E:Á->Å->Prop}{s:Å}(h:Î M A t Q E s)(hQ:∀a s,Q a s->Q' a s):Î M A t Q' E s:=ŭ h hQ λ_ _ x=>x
section
variable{X:Cx}
def se(i:Nat):TE:=λV H Q=>∃v,V[i]?=some (some v)/\Q v H
def tC(v:Qqj):TE:=λ_ H Q=>Q v H
def cS{i:Nat}{x:Str}{pos:Pos}(hN:X.N[i]?=some x)(hv:w_ X.env.scope x)(hd:(x== ("__debug__" :Str))=false:=by decide)(et:(x== ("__classdict__" :Str))=false:=by decide):PE X (.Name x pos) (se i):=by
 intro Ã s V H Q I h;obtain⟨v,e,h⟩:=h;obtain⟨m,hn,hl⟩:=I.loc;obtain⟨u,r,l⟩:=hl i x v hN e hv;have gz:EP X Ã V Q u s:=⟨v,H,I,r,h⟩;rcases l with⟨hk,hm⟩|⟨hk,c,hc,hcell⟩
 ·exact wpAny_Name (wpAny_loadName_local I.ok.kind hk hn hm gz) hd
 ·rcases hk with hk|hk
  ·exact wpAny_Name (wpAny_loadName_cell I.ok.kind hk hc hcell gz) hd
  ·exact wpAny_Name (wpAny_loadName_free I.ok.kind hk hc hcell gz et) hd
def Ey{i j pos}:PE X (.Constant (.int i) j pos) (tC (.int i)):=λ_ _ _ H _ I h=>wpAny_Constant_int ⟨.int i,H,I.tok _,⟨_,rfl⟩,h⟩
def TN{b j pos}:PE X (.Constant (.bool b) j pos) (tC (.bl b)):=λ_ _ _ H _ I h=>Constant_bool ⟨.bl b,H,I,rfl,h⟩
def OW{j pos}:PE X (.Constant .none j pos) (tC .non):=λ_ _ _ H _ I h=>Constant_none ⟨.non,H,I,rfl,h⟩
def OX{x j pos}:PE X (.Constant (.str x) j pos) (tC (.str x)):=λ_ _ _ H _ I h=>Calls.Constant_str ⟨.str x,H,I.tok _,⟨_,rfl⟩,h⟩
def Gl(X:Cx)(x:Str):Prop:=X.env.kindOf x=some .globalImplicit
def fJ{E:Á->Å->Prop}{Ã:List (À×Obj)}{s:Å}{V:St}{H:Hp}{x:Str}{u:Á}{pos:Pos}{Q:Á->Å->Prop}(I:Inv X Ã V H s)(hg:Gl X x)(hm:X.mg x=some u)(h:Q u s)
 (hd:(x== ("__debug__" :Str))=false:=by decide):Î (Ó X.prog X.w) X.A (Ý (.Name x pos) X.env) Q E s:=
 BK I.ok.kind hg (Calls.loadGlobal_global (by rw[I.ok.glob];exact I.mod.glob.keeps I.bk) hm h) hd
def fK{E:Á->Å->Prop}{Ã:List (À×Obj)}{s:Å}{V:St}{H:Hp}{x:Str}{u:Á}{pos:Pos}{Q:Á->Å->Prop}(I:Inv X Ã V H s)(hg:Gl X x)(hm:X.mg x=none)(hv:bg x=some u)(h:Q u s)
 (hn:x≠ "__name__" := by decide)(hd:(x== ("__debug__" :Str))=false:=by decide):Î (Ó X.prog X.w) X.A (Ý (.Name x pos) X.env) Q E s:=by
 obtain⟨mb,h1,h2⟩:=I.mod.blt;exact BK I.ok.kind hg (Calls.loadGlobal_builtin (by rw[I.ok.glob];exact I.mod.glob.keeps I.bk) hm (by rw[I.ok.blt];exact h1.keeps I.bk) ((h2 x hn).trans hv) h) hd
def bj{x:Str}{v:Qqj}{u:Á}{pos:Pos}(hg:Gl X x)(hm:X.mg x=some u)(r:RelV v u)(hd:(x== ("__debug__" :Str))=false:=by decide):PE X (.Name x pos) (tC v):=
 λ_ _ _ H _ I h=>fJ I hg hm ⟨v,H,I,r,h⟩ hd
def ao{x:Str}{v:Qqj}{u:Á}{pos:Pos}(hg:Gl X x)(hm:X.mg x=none)(hv:bg x=some u)(r:RelV v u)(hn:x≠ "__name__" := by decide)(hd:(x== ("__debug__" :Str))=false:=by decide):PE X (.Name x pos) (tC v):=
 λ_ _ _ H _ I h=>fK I hg hm hv ⟨v,H,I,r,h⟩ hn hd
variable{a b:Ð}{pos:Pos}
variable{tA WW:TT}{rest:List Ð}
def Yp(t u:TT):TT:=λV H Q=>t V H λc H1=>if c=true then u V H1 Q else Q false H1
def tOr(t u:TT):TT:=λV H Q=>t V H λc H1=>if c=true then Q true H1 else u V H1 Q
def Yq(t:TT):TT:=λV H Q=>t V H λc H1=>Q (!c) H1
def II(ha:PT X a tA):PW X (.BoolOp .And [a] pos) tA:=by
 intro wh Ã s V H Q I h;refine isTrue_and (Ų (ha Ã s V H Q I h) λc s1 e=>?_);cases c with
 |true=>exact isTrue_and_nil e
 |false=>exact e
def OY(ha:PT X a tA):PW X (.BoolOp .Or [a] pos) tA:=by
 intro wh Ã s V H Q I h;refine isTrue_or (Ų (ha Ã s V H Q I h) λc s1 e=>?_);cases c with
 |false=>exact isTrue_or_nil e
 |true=>exact e
def OZ(ha:PT X a tA)(hb:PW X (.BoolOp .And (b::rest) pos) WW):PW X (.BoolOp .And (a::b::rest) pos) (Yp tA WW):=by
 intro wh Ã s V H Q I h;refine isTrue_and (Ų (ha Ã s V H _ I h) λc s1 ⟨H1,I1,q1⟩=>?_);cases c with
 |true=>exact hb wh Ã s1 V H1 Q I1 q1
 |false=>exact⟨H1,I1,q1⟩
def TQ(ha:PT X a tA)(hb:PW X (.BoolOp .Or (b::rest) pos) WW):PW X (.BoolOp .Or (a::b::rest) pos) (tOr tA WW):=by
 intro wh Ã s V H Q I h;refine isTrue_or (Ų (ha Ã s V H _ I h) λc s1 ⟨H1,I1,q1⟩=>?_);cases c with
 |true=>exact⟨H1,I1,q1⟩
 |false=>exact hb wh Ã s1 V H1 Q I1 q1
def O_(ha:PT X a tA):PT X (.UnaryOp .Not a pos) (Yq tA):=by intro Ã s V H Q I h;exact isTrue_not (ha Ã s V H (λc H1=>Q (!c) H1) I h)
def O0{op}{t:TE}(h:PE X a t):PE X (.BoolOp op [a] pos) t:=λÃ s V H Q I hw=>BoolOp_one (h Ã s V H Q I hw)
end
def Ϟ(K:Ñ)(H:Hp)(a:À)(xs:List Qqj):Prop:=
 Rd H a (.lst xs)\/
  ∃(o:Obj) (ċ:Array Á) (n:Nat),K.lookup a=some o/\o.cls=.type "list" /\o.dict=none/\o.data=.seq ċ n/\ċ.size<=sizeLine/\Ĳ xs ċ.toList
def da(K:Ñ)(H:Hp)(a:À)(xs:List Qqj):Prop:=
 Rd H a (.tup xs)\/
  ∃(o:Obj) (ċ:Array Á) (n:Nat),K.lookup a=some o/\o.cls=.type "tuple" /\o.data=.seq ċ n/\ċ.size<=sizeLine/\Ĳ xs ċ.toList
noncomputable def Yr:Á->Option Qqj
 | .none=>some .non
 | .bool b=>some (.bl b)
 | .int i _=>some (.int i)
 | .str x _=>some (.str x)
 | .bytes b _=>some (.Kv b)
 | .float b _=>some (.flt b)
 | .ref a=>some (.ref a)
 | .type n=>some (.ty n)
 |_=>none
def RelV.abs{x:Qqj}{u:Á}(r:RelV x u):Yr u=some x:=by
 cases x with
 |non=>cases r;rfl
 |bl _=>cases r;rfl
 |int _=>obtain⟨t,rfl⟩:=r;rfl
 |str _=>obtain⟨t,rfl⟩:=r;rfl
 |Kv _=>obtain⟨t,rfl⟩:=r;rfl
 |flt _=>obtain⟨t,rfl⟩:=r;rfl
 |ref _=>cases r;rfl
 |ty _=>cases r;rfl
def RelV.inj{x y:Qqj}{u:Á}(r:RelV x u)(q:RelV y u):x=y:=ŀ (r.abs.symm.trans q.abs)
theorem Ĳ.inj:∀{xs ys:List Qqj} {us:List Á},Ĳ xs us->Ĳ ys us->xs=ys
 |_,_,_,.nil,.nil=>rfl
 |_,_,_,.cons r t,.cons r' t'=>by rw[r.inj r',Ĳ.inj t t']
section
variable{X:Cx}{Ã:List (À×Obj)}{V:St}{H:Hp}{s:Å}{a:À}{xs ys:List Qqj}
def Ϟ.of{K:Ñ}(h:H a=some (.lst xs)):Ϟ K H a xs:=.inl (.inl h)
def da.of{K:Ñ}(h:H a=some (.tup xs)):da K H a xs:=.inl (.inl h)
def Inv.list(I:Inv X Ã V H s)(h:Ϟ X.K H a xs):∃ċ:List Á,Ĳ xs ċ/\PlainL s.heap a ċ.toArray/\xs.length<=sizeLine:=by
 rcases h with h|⟨o,ċ,n,hk,hc,hd,hs,hz,r⟩
 ·obtain⟨z,ċ,n,r,e⟩:=h.ok I.hok;exact⟨ċ,r,⟨_,n,e,rfl,rfl,rfl⟩,z⟩
 ·refine⟨ċ.toList,r,⟨o,n,I.eY a o hk,hc,hd,by simpa using hs⟩,?_⟩;have e:=r.length;simp only[a_] at e;lia
def Inv.tuple(I:Inv X Ã V H s)(h:da X.K H a xs):∃ċ:List Á,Ĳ xs ċ/\IsTup s.heap a ċ.toArray/\xs.length<=sizeLine:=by
 rcases h with h|⟨o,ċ,n,hk,hc,hs,hz,r⟩
 ·obtain⟨z,ċ,r,p⟩:=h.ok I.hok;exact⟨ċ,r,p,z⟩
 ·refine⟨ċ.toList,r,⟨o,I.eY a o hk,hc,n,by simpa using hs⟩,?_⟩;have e:=r.length;simp only[a_] at e;lia
def Inv.qb(I:Inv X Ã V H s)(h:Ϟ X.K H a xs)(h':Ϟ X.K H a ys):xs=ys:=by
 obtain⟨ċ,r,⟨o,n,e,_,_,d⟩,_⟩:=I.list h;obtain⟨its',r',⟨o',n',e',_,_,d'⟩,_⟩:=I.list h';rw[e] at e';cases e';rw[d] at d';injection d' with d1 _
 have:ċ=its':=by simpa using congrArg Array.toList d1
 subst this;exact r.inj r'
def Inv.sC(I:Inv X Ã V H s)(h:da X.K H a xs)(h':da X.K H a ys):xs=ys:=by
 obtain⟨ċ,r,⟨o,e,_,n,d⟩,_⟩:=I.tuple h;obtain⟨its',r',⟨o',e',_,n',d'⟩,_⟩:=I.tuple h';rw[e] at e';cases e';rw[d] at d';injection d' with d1 _
 have:ċ=its':=by simpa using congrArg Array.toList d1
 subst this;exact r.inj r'
end
noncomputable abbrev Cx.wish(X:Cx)(E:Á->Å->Prop):Cx:={X with xe:=E}
abbrev Cx.ϖ(X:Cx):Cx:=X.wish λ_ _=>False
theorem Cx.Ok.wish{X:Cx}(ok:X.Ok)(E:Á->Å->Prop):(X.wish E).Ok:=
 ⟨ok.mod,ok.kind,ok.glob,ok.blt,ok.above,ok.inj,ok.has,ok.cab,ok.hd,ok.frames,ok.stk,ok.S7,ok.bs,ok.B4,ok.sd,ok.xm,ok.jk,ok.Ex,ok.tb⟩
def Cx.Ok.fL{X:Cx}{E:Á->Å->Prop}(ok:(X.wish E).Ok):X.Ok:=
 ⟨ok.mod,ok.kind,ok.glob,ok.blt,ok.above,ok.inj,ok.has,ok.cab,ok.hd,ok.frames,ok.stk,ok.S7,ok.bs,ok.B4,ok.sd,ok.xm,ok.jk,ok.Ex,ok.tb⟩
section
variable{X:Cx}{Ã:List (À×Obj)}{V:St}{H:Hp}{s:Å}{E:Á->Å->Prop}
theorem Inv.wish(I:Inv X Ã V H s)(E:Á->Å->Prop):Inv (X.wish E) Ã V H s:=⟨I.ok.wish E,I.os,I.bare,I.base,I.loc,I.cell,I.free,I.b_,I.pin,I.hok,I.len⟩
theorem Inv.fL(I:Inv (X.wish E) Ã V H s):Inv X Ã V H s:=⟨I.ok.fL,I.os,I.bare,I.base,I.loc,I.cell,I.free,I.b_,I.pin,I.hok,I.len⟩
theorem SP.fL{D:Ends}{f:Flow}{s':Å}(h:SP (X.wish E) Ã D f s'):SP X Ã D f s':=by
 cases f with
 |next=>obtain⟨V',H',I,q⟩:=h;exact⟨V',H',I.fL,q⟩
 |brk=>obtain⟨V',H',I,q⟩:=h;exact⟨V',H',I.fL,q⟩
 |cont=>obtain⟨V',H',I,q⟩:=h;exact⟨V',H',I.fL,q⟩
 |ret u=>obtain⟨v,V',H',I,r,q⟩:=h;exact⟨v,V',H',I.fL,r,q⟩
theorem PE.ϖ{e:Ð}{t:TE}(h:PE X.ϖ e t):PE X e t:=λÃ s V H Q I hw=>
 ŭ (h Ã s V H Q (I.wish _) hw) (λ_ _ ⟨v,H',I',r,q⟩=>⟨v,H',I'.fL,r,q⟩) λ_ _ z=>Š z
end
section
variable{X:Cx}{st:Ö}{rest:List Ö}{t u:TS}{e:Ð}{te:TE}{pos:Pos}
def Kw:TS:=λD V H=>D.nx V H
def TU(t u:TS):TS:=λD V H=>t {D with nx:=u D} V H
def B6:fH X [] Kw:=λ_ _ V H _ I h=>ky ⟨V,H,I,h⟩
def xp(h1:PS X st t)(h2:fH X rest u):fH X (st::rest) (TU t u):=by
 intro Ã s V H D I h;refine wpAny_execs_cons (Ų (h1 Ã s V H {D with nx:=u D} I h) λf s1 q=>?_);cases f with
 |next=>obtain⟨V',H',I',q⟩:=q;exact h2 Ã s1 V' H' D I' q
 |ret v=>exact q
 |brk=>exact q
 |cont=>exact q
def IJ(h1:PS X st t):fH X [st] t:=by
 intro Ã s V H D I h;refine wpAny_execs_cons (Ų (h1 Ã s V H D I h) λf s1 q=>?_);cases f with
 |next=>exact ky q
 |ret v=>exact q
 |brk=>exact q
 |cont=>exact q
def Inv.quiet{Ã:List (À×Obj)}{V:St}{H:Hp}{s:Å}(I:Inv X Ã V H s):interactive X.env=false:=by simp[interactive,I.ok.kind]
def B7(te:TE):TS:=λD V H=>te V H λ_ H1=>D.nx V H1
def Ŷ(he:PE X e te)(hs:ai e none pos.line X.env=ö false:=by rfl):PS X (.Expr e pos) (B7 te):=by intro Ã s V H D I h;exact wpAny_Expr_any (Ų (he Ã s V H _ I h) λv s1 ⟨x,H1,I1,r1,q1⟩=>⟨V,H1,I1,q1⟩) I.quiet hs
def Ys(te:TE):TS:=λD V H=>te V H D.rt
def O1(he:PE X e te):PS X (.Return (some e) pos) (Ys te):=by intro Ã s V H D I h;exact wpAny_Return_some (Ų (he Ã s V H _ I h) λv s1 ⟨x,H1,I1,r1,q1⟩=>⟨x,V,H1,I1,r1,q1⟩)
def Yt(c:TT)(t u:TS):TS:=λD V H=>c V H λb H1=>if b=true then t D V H1 else u D V H1
def TW{c:Ð}{a b:List Ö}{tc:TT}(hc:PT X c tc)(ha:fH X a t)(hb:fH X b u):PS X (.If c a b pos) (Yt tc t u):=by
 intro Ã s V H D I h;refine wpAny_If (Ų (hc Ã s V H _ I h) λd s1 ⟨H1,I1,q1⟩=>?_);cases d with
 |true=>exact ha Ã s1 V H1 D I1 q1
 |false=>exact hb Ã s1 V H1 D I1 q1
def O2:TS:=λ_ _ _=>False
def Ez:PS X st O2:=λ_ _ _ _ _ _ h=>h.elim
end
abbrev TG:=Qqj->St->Hp->(St->Hp->Prop)->Prop
abbrev EA:=List Qqj->St->Hp->(St->Hp->Prop)->Prop
def PG(X:Cx)(target:Ð)(t:TG):Prop:=
 ∀(Ã:List (À×Obj)) (s:Å) (V:St) (H:Hp) (v:Qqj) (u:Á) (Q:St->Hp->Prop),Inv X Ã V H s->RelV v u->t v V H Q->
  Î (Ó X.prog X.w) X.A (aF target X.env u) (λ_ s'=>∃V' H',Inv X Ã V' H' s'/\Q V' H') X.xe s
def zi(X:Cx)(ts:List Ð)(t:EA):Prop:=
 ∀(Ã:List (À×Obj)) (s:Å) (V:St) (H:Hp) (vs:List Qqj) (us:List Á) (Q:St->Hp->Prop),Inv X Ã V H s->Ĳ vs us->t vs V H Q->
  Î (Ó X.prog X.w) X.A (uA ((ϋ ts X.env).map (·.2)) us) (λ_ s'=>∃V' H',Inv X Ã V' H' s'/\Q V' H') X.xe s
abbrev O3:=Qqj->Qqj->Qqj->Hp->(Hp->Prop)->Prop
def TX(X:Cx)(t:O3):Prop:=
 ∀(Ã:List (À×Obj)) (s:Å) (V:St) (H:Hp) (o i v:Qqj) (ov iv u:Á) (Q:Hp->Prop),Inv X Ã V H s->RelV o ov->RelV i iv->RelV v u->t o i v H Q->
  Î (Ó X.prog X.w) X.A (setItem ov iv u) (λ_ s'=>∃H',Inv X Ã V H' s'/\Q H') X.xe s
abbrev WX:=Qqj->Qqj->Hp->VK->Prop
def PIp(X:Cx)(op:kz)(t:WX):Prop:=
 ∀(Ã:List (À×Obj)) (s:Å) (V:St) (H:Hp) (x y:Qqj) (v u:Á) (Q:VK),Inv X Ã V H s->RelV x v->RelV y u->t x y H Q->
  Î (Ó X.prog X.w) X.A (inplaceOp op v u) (EP X Ã V Q) X.xe s
section
variable{X:Cx}{pos:Pos}
def Kx(i:Nat):TG:=λv V H Q=>Q (V.set i (some v)) H
def IK{i:Nat}{x:Str}(hN:X.N.Nodup)(hi:X.N[i]?=some x)(hx:Loc X.env.scope x)(hf:X.fn x=true\/X.env.scope.names.lookup x=some .local:=by first|exact .inl rfl|exact .inr rfl|assumption):PG X (.Name x pos) (Kx i):=by intro Ã s V H v u Q I r h;exact wpAny_assign_Name (eG I hN hi hx r (λs' I'=>⟨_,H,I',h⟩) hf)
def Yu:EA:=λvs V H Q=>vs=[]/\Q V H
def TY(t:TG)(u:EA):EA:=λvs V H Q=>∃v r,vs=v::r/\t v V H λV' H'=>u r V' H' Q
def IL:zi X [] Yu:=by intro Ã s V H vs us Q I r h;obtain⟨e,h⟩:=h;subst e;cases r;exact assignInOrder_nil ⟨V,H,I,h⟩
def EB{e:Ð}{es:List Ð}{t:TG}{u:EA}(h1:PG X e t)(h2:zi X es u)
 (hs:(ϋ (e::es) X.env).map (·.2)=aF e X.env::(ϋ es X.env).map (·.2):=by rfl):zi X (e::es) (TY t u):=by
 intro Ã s V H vs us Q I r h;obtain⟨v,vr,e1,h⟩:=h;subst e1;cases r with
 |cons r rr=>rw[hs];refine uz (Ų (h1 Ã s V H _ _ _ I r h) λ_ s1 ⟨V1,H1,I1,q1⟩=>?_);exact h2 Ã s1 V1 H1 _ _ Q I1 rr q1
def Yw(K:Ñ)(n:Nat)(t:EA):TG:=λv V H Q=>∃a xs,v=.ref a/\da K H a xs/\xs.length=n/\t xs V H Q
def EC{es:List Ð}{k:Nat}{t:EA}{n:Nat}(hc:X.calm=true)(h:zi X es t)
 (hn:(ϋ es X.env).length=n:=by rfl)(Dr:(ϋ es X.env).findIdx? (·.1)=none:=by rfl):PG X (.Tuple es k pos) (Yw X.K n t):=by
 intro Ã s V H v u Q I r hw;obtain⟨a,xs,e1,hq,hl,hw⟩:=hw;subst e1;cases r;obtain⟨ċ,rv,ht,hz⟩:=I.tuple hq;refine assign_Tuple_tuple (I.ok.hd hc) ht (by simp[hn,<-hl,rv.length]) Dr λh' hx=>?_;have I1:Inv X Ã V H {s with heap:=h'}:=I.kept (t':=s.toks) λb o e=>hx b o (ę (ó e)) e;exact h Ã _ V H xs _ Q I1 (by simpa using rv) hw
def Yx(to ti:TE)(t:O3):TG:=λv V H Q=>to V H λo H1=>ti V H1 λi H2=>t o i v H2 λH3=>Q V H3
def O4{o i:Ð}{to ti:TE}{t:O3}(ho:PE X o to)(hi:PE X i ti)(hs:TX X t)
 (ha:∀v,aF (.Subscript o i pos) X.env v=(do
   let ov <-aG [v] (Ý o X.env)
   let iv <-aG [v,ov] (Ý i X.env)
   fh pos
   aG [v,ov,iv] (setItem ov iv v)
   release [v,ov,iv] []):=by intro _;rfl):PG X (.Subscript o i pos) (Yx to ti t):=by
 intro Ã s V H v u Q I r h;rw[ha];refine Ê (ϫ (Ų (ho Ã s V H _ I h) λov s1 ⟨x,H1,I1,r1,q1⟩=>?_));refine Ê (ϫ (Ų (hi Ã s1 V H1 _ I1 q1) λiv s2 ⟨y,H2,I2,r2,q2⟩=>?_));refine Ê (dw (Ê (ϫ (Ų (hs Ã s2 V H2 x y v ov iv u _ I2 r1 r2 r q2) λ_ s3 ⟨H3,I3,q3⟩=>?_))));exact wpAny_release ⟨V,H3,I3,q3⟩
def TZ(te:TE)(g:TG):TS:=λD V H=>te V H λx H1=>g x V H1 D.nx
def ED{tg e:Ð}{te:TE}{g:TG}(he:PE X e te)(hg:PG X tg g)(hs:oY [tg] e pos.line X.env=ö false:=by rfl)(hw:oZ [tg] e X.env=ö none:=by rfl)
 (h1:(ϋ [tg] X.env).map (·.2)=[aF tg X.env]:=by rfl):PS X (.Assign [tg] e pos) (TZ te g):=by
 intro Ã s V H D I h;refine wpAny_Assign_stores (Ų (he Ã s V H _ I h) λv s1 ⟨x,H1,I1,r1,q1⟩=>?_) hs hw;rw[h1];exact Ų (hg Ã s1 V H1 x v _ I1 r1 q1) λ_ s2 q=>q
def O5{i:Nat}{x:Str}{e:Ð}{te:TE}{ck:Pos}(hN:X.N.Nodup)(hi:X.N[i]?=some x)(hx:Loc X.env.scope x)(he:PE X e te)(hs:ai e (some (.Name x ck)) pos.line X.env=ö false:=by rfl)(hf:X.fn x=true\/X.env.scope.names.lookup x=some .local:=by first|exact .inl rfl|exact .inr rfl|assumption) :
 PS X (.Assign [.Name x ck] e pos) (TZ te (Kx i)):=by
 intro Ã s V H D I h;refine wpAny_Assign_Name (Ų (he Ã s V H _ I h) λv s1 ⟨y,H1,I1,r1,q1⟩=>?_) hs;exact eG I1 hN hi hx r1 (λs2 I2=>⟨_,H1,I2,q1⟩) hf
def T_(i j:Nat)(ta:TA):TS:=λD V H=>ta V H λvs H1=>∃v w,vs=[v,w]/\D.nx ((V.set i (some v)).set j (some w)) H1
def O6{i j:Nat}{x y:Str}{a b:Ð}{ta:TA}{px py pt:Pos}{kt k2 Yy}(hc:X.calm=true)(hN:X.N.Nodup)(hi:X.N[i]?=some x)(hj:X.N[j]?=some y)(Wh:i≠j)
 (hx:X.env.scope.names.lookup x=some .local)(hy:X.env.scope.names.lookup y=some .local)(ha:PA X [a,b] ta)
 (hw:oZ [.Tuple [.Name x px,.Name y py] kt pt] (.Tuple [a,b] k2 Yy) X.env=ö (some [x,y]))
 (hs:oY [.Tuple [.Name x px,.Name y py] kt pt] (.Tuple [a,b] k2 Yy) pos.line X.env=ö false:=by rfl) :
 PS X (.Assign [.Tuple [.Name x px,.Name y py] kt pt] (.Tuple [a,b] k2 Yy) pos) (T_ i j ta):=by
 intro Ã s V H D I h;rw[exec_Assign_arm];refine Ê (dw ?_);rw[hs];refine Ê (é ?_);rw[if_neg (by decide)];refine Ê (Tuple_ (Ų (ha _ Ã s V H _ I h) λus s1 ⟨vs,H1,I1,r1,q1⟩=>?_));obtain⟨v,w,e1,q1⟩:=q1;subst e1;obtain⟨u1,u2,rfl,rv,O7⟩:∃u1 u2,us=[u1,u2]/\RelV v u1/\RelV w u2:=by
  cases r1 with
  |cons p q=>
   cases q with
   |cons p' q'=>cases q';exact⟨_,_,rfl,p,p'⟩
 refine iJ ?_ (by show 2<=sizeLine;decide);have I2:Inv X Ã V H1 {s1 with heap:=s1.heap.push {cls:=.type "tuple",data:=.seq [u1,u2].toArray}}:=I1.kept (t':=s1.toks) λb o e=>ï _ e;rw[hw];refine Ê (é ?_);show Î (Ó X.prog X.w) X.A (do rule "assign.swapped-stores";let items <-unpackItems (.ref s1.heap.objs.size) 2 none;uA [λv=>kA X.env y v,λv=>kA X.env x v] items.reverse;ö Flow.next) _ _ _;refine Ê (o_ (Ê (unpackItems_tuple (items:=#[u1,u2]) (I.ok.hd hc) (IsTup.new s1.heap _) λh' OB=>?_)));have I3:=I2.kept (h':=h') (t':=s1.toks) λb o e=>OB b o (ę (ó e)) e;show Î _ _ (uA [λv=>kA X.env y v,λv=>kA X.env x v] [u2,u1] >>= λ_=>ö Flow.next) _ _ _;refine Ê (uz (wpAny_bindName (eG I3 hN hj (.inl hy) O7 (λs2 I4=>?_) (.inr hy))));refine uz (wpAny_bindName (eG I4 hN hi (.inl hx) rv (λs3 I5=>assignInOrder_nil (é ?_)) (.inr hx)));rw[List.set_comm _ _ (ĥ Wh)] at I5;exact⟨_,H1,I5,q1⟩
def Yz(i:Nat)(te:TE)(ti:WX):TS:=λD V H=>∃x,V[i]?=some (some x)/\te V H λy H1=>ti x y H1 λz H2=>D.nx (V.set i (some z)) H2
def O8{i:Nat}{x:Str}{e:Ð}{te:TE}{op:kz}{ti:WX}{ck:Pos}(hN:X.N.Nodup)(hi:X.N[i]?=some x)(hx:Loc X.env.scope x)(he:PE X e te)(ho:PIp X op ti)(hf:X.fn x=true\/X.env.scope.names.lookup x=some .local:=by first|exact .inl rfl|exact .inr rfl|assumption) :
 PS X (.AugAssign (.Name x ck) op e pos) (Yz i te ti):=by
 intro Ã s V H D I h;obtain⟨v,e1,h⟩:=h;obtain⟨m,hn,hl⟩:=I.loc;have vis:w_ X.env.scope x:=by rcases hx with k|k;exact .inl k;exact .inr (.inl k)
 obtain⟨u,r,l⟩:=hl i x v hi e1 vis;refine wpAny_AugAssign_Name ?_;have go:Î (Ó X.prog X.w) X.A (Ý e X.env) (λw s₂=>Î (Ó X.prog X.w) X.A (inplaceOp op u w) (λr s₃=>Î (Ó X.prog X.w) X.A (storeName X.env x r) (λ_=>SP X Ã D .next) X.xe s₃) X.xe s₂) X.xe s:=by refine Ų (he Ã s V H _ I h) λw s1 ⟨y,H1,I1,r1,q1⟩=>?_;refine Ų (ho Ã s1 V H1 v y u w _ I1 r r1 q1) λz s2 ⟨zv,H2,I2,r2,q2⟩=>?_;exact eG I2 hN hi hx r2 (λs3 I3=>⟨_,H2,I3,q2⟩) hf
 rcases l with⟨hk,hm⟩|⟨hk,c,hc,hcell⟩
 ·exact wpAny_loadName_local I.ok.kind hk hn hm go
 ·rcases hk with hk|hk
  ·exact wpAny_loadName_cell I.ok.kind hk hc hcell go
  ·rcases hx with k|k
   ·have:X.env.scope.names.lookup x=some .free:=hk;rw[k] at this;cases this
   ·have:X.env.scope.names.lookup x=some .free:=hk;rw[k] at this;cases this
def ipI(f:Int->Int->Int):WX:=λx y H Q=>∃i j,x=.int i/\y=.int j/\Q (.int (f i j)) H
end
section
variable{X:Cx}{pos:Pos}
def O9(c:TT)(tb:TS):TS:=λD V H=>∃W:Nat->St->Hp->Prop,(∃m,W m V H)/\∀m V H,W m V H->
 c V H λb H1=>if b=true then ∃N:St->Hp->Prop,(∀V' H',N V' H'->∃m',m'<m/\W m' V' H')/\tb {D with nx:=N,ct:=N,bk:=D.nx} V H1 else D.nx V H1
def EE{c:Ð}{body:List Ö}{tc:TT}{tb:TS}(hp:PassesOwn (Ó X.prog X.w) X.A X.env X.xe)(hc:PT X c tc)(hb:fH X body tb):PS X (.While c body [] pos) (O9 tc tb):=by
 intro Ã s V H D I h;obtain⟨W,⟨m0,w0⟩,turn⟩:=h;refine wpAny_While (codeAny_whileLoop (λn s'=>∃V' H',Inv X Ã V' H' s'/\W n V' H') ?_ m0 ⟨V,H,I,w0⟩);rintro n s1 ⟨V1,H1,I1,w1⟩;refine fi hp (Ų (hc Ã s1 V1 H1 _ I1 (turn n V1 H1 w1)) λb s2 ⟨H2,I2,q2⟩=>?_);cases b with
 |true=>
  obtain⟨N,hN,q2⟩:=q2;rw[if_pos rfl];refine fi hp (Ų (hb Ã s2 V1 H2 _ I2 q2) λf s3 q3=>?_);cases f with
  |next=>obtain⟨V3,H3,I3,n3⟩:=q3;obtain⟨m',hm,w3⟩:=hN V3 H3 n3;exact⟨m',hm,V3,H3,I3,w3⟩
  |cont=>obtain⟨V3,H3,I3,n3⟩:=q3;obtain⟨m',hm,w3⟩:=hN V3 H3 n3;exact⟨m',hm,V3,H3,I3,w3⟩
  |brk=>exact q3
  |ret v=>exact q3
 |false=>rw[if_neg ϥ];exact ky ⟨V1,H2,I2,q2⟩
end
structure It where
 go:Nat->Hp->Prop
 WY:Nat->Hp->Qqj->Hp->Prop
 stop:Nat->Hp->Prop
def cb(X:Cx)(Ã:List (À×Obj))(H:Hp)(b:À):Prop:=
 H b=none/\b≠X.env.locals/\b∉X.fs/\(b∈X.ex\/X.s₀.heap.objs.size<=b)/\(∀x c,X.env.cells.lookup x=some c->c≠b)/\∀p∈X.pn++Ã,p.1≠b
def Inv.qc{X:Cx}{Ã:List (À×Obj)}{V:St}{H H':Hp}{s:Å}{b:À}(I:Inv X Ã V H s)(hb:s.heap.objs.size<=b)(hn:H' b=none):cb X Ã H' b:=by
 refine⟨hn,bf (Ţ I.lt hb),I.Yn hb,.inr (Ĺ I.sz hb),λx c e z=>?_,λp hp z=>?_⟩
 ·obtain⟨v,q⟩:=I.cell x c e;exact absurd (Ţ q.lt (by rw[z];exact hb)) (ų _)
 ·exact absurd (Ţ (ó (I.pin p hp).1) (by rw[z];exact hb)) (ų _)
structure za(P:î)(w:ß)(K:Ñ)(tg:Ð)(J:It)(fp:List À)(it:À)(tn:Nat->Õ->Prop):Prop where
 mem:it∈fp
 obj:∀i h,tn i h->∀b∈fp,∃o,h.get? b=some o/\∀v,o.data≠ .cell v
 keep:∀i h h',tn i h->(∀b∈fp,∀o,h.get? b=some o->h'.get? b=some o)->tn i h'
 item:∀(X:Cx),X.prog=P->X.w=w->X.K=K->X.calm=true->∀(i:Nat) (Ã:List (À×Obj)) (s:Å) (V:St) (H:Hp) (E:Á->Å->Prop),Inv X Ã V H s->(∀b∈fp,cb X Ã H b)->tn i s.heap->J.go i H->
  Î (Ó P w) X.A (bR (.ref it)) (λr s1=>∃u,r=some u/\
   Î (Ó P w) X.A (pb tg (.ref it) u) (λ_ s2=>∃x H',Inv X Ã V H' s2/\RelV x u/\J.WY i H x H'/\tn (i+1) s2.heap/\∀b∈fp,H' b=none) E s1) E s
 done:∀(X:Cx),X.prog=P->X.w=w->X.K=K->X.calm=true->∀(i:Nat) (Ã:List (À×Obj)) (s:Å) (V:St) (H:Hp) (E:Á->Å->Prop),Inv X Ã V H s->(∀b∈fp,cb X Ã H b)->tn i s.heap->J.stop i H->
  Î (Ó P w) X.A (bR (.ref it)) (λr s1=>r=none/\Inv X Ã V H s1) E s
 self:∀(A:ð) (i:Nat) (s:Å) (Q:Á->Å->Prop) (E:Á->Å->Prop),tn i s.heap->Q (.ref it) s->Î (Ó P w) A (cC (.ref it)) Q E s
abbrev TI:=St->Hp->(It->Hp->Prop)->Prop
def Wi(X:Cx)(Ã:List (À×Obj))(V:St)(tg:Ð)(R:It->Hp->Prop)(X7:Á)(s2:Å):Prop:=
 ∃(it:À) (fp:List À) (tn:Nat->Õ->Prop) (J:It) (H':Hp),X7=.ref it/\Inv X Ã V H' s2/\za X.prog X.w X.K tg J fp it tn/\tn 0 s2.heap/\(∀b∈fp,cb X Ã H' b)/\R J H'
def PI(X:Cx)(tg iter:Ð)(wi:TI):Prop:=
 ∀(Ã:List (À×Obj)) (s:Å) (V:St) (H:Hp) (R:It->Hp->Prop),Inv X Ã V H s->wi V H R->
  Î (Ó X.prog X.w) X.A (Ý iter X.env) (λv s1=>Î (Ó X.prog X.w) X.A (cC v) (Wi X Ã V tg R) X.xe s1) X.xe s
def xq{M:Model}{A:ð}{E:Á->Å->Prop}{s:Å}{tg:Ð}{it:À}{u:Á}{o:Obj}{n:String}{vs:Array Á}{Q:Unit->Å->Prop}(ho:s.heap.get? it=some o)(hc:o.cls=.type n)(hd:o.data=.fields vs)
 (hn:["enumerate","zip","dict_itemiterator","dict_reverseitemiterator","odict_iterator","itertools.zip_longest","itertools.pairwise"].contains n=false)(hQ:Q () s):Î M A (pb tg (.ref it) u) Q E s:=by
 unfold pb;cases tg<;>first
  |exact é hQ
  |(cases u<;>first
     |exact é hQ
     |(refine Ê (wpAny_load ho ?_)
       rw[hc,hd];show Î M A (if(["enumerate","zip","dict_itemiterator","dict_reverseitemiterator","odict_iterator","itertools.zip_longest","itertools.pairwise"].contains n && vs[0]?== some (Ŵ _))=true then _ else _) Q E s;rw[if_neg (by intro h;rw[hn,Bool.false_and] at h;cases h)];exact é hQ))
def Ky(K:Ñ)(a:À):It:=
 ⟨λi H=>∃xs x,Ϟ K H a xs/\xs[i]?=some x,λi H x H'=>H'=H/\∀xs,Ϟ K H a xs->xs[i]?=some x,λi H=>∃xs,Ϟ K H a xs/\xs.length<=i⟩
def T0(K:Ñ)(a:À):It:=
 ⟨λi H=>∃xs x,da K H a xs/\xs[i]?=some x,λi H x H'=>H'=H/\∀xs,da K H a xs->xs[i]?=some x,λi H=>∃xs,da K H a xs/\xs.length<=i⟩
def T1(lo:Int)(n:Nat):It:=⟨λi _=>i<n,λi H x H'=>H'=H/\x=.int (lo+i),λi _=>n<=i⟩
def Dw{P:î}{w:ß}{K:Ñ}{tg:Ð}(a it:À):za P w K tg (Ky K a) [it] it (λi h=>h.IsListIter it a i) where
 mem:=by simp
 obj:=λi h st b hb=>by
  have e:b=it:=by simpa using hb
  subst e;obtain⟨o,e,c,d⟩:=st;exact⟨o,e,λv z=>by rw[d] at z;cases z⟩
 keep:=λi h h' st k=>st.at λo e=>k it (by simp) o e
 item:=by intro X hP hw hK hc i Ã s V H E I hf st hg;subst hP hw hK;obtain⟨xs,x,hq,hx⟩:=hg;obtain⟨ċ,rv,p,hz⟩:=I.list hq;obtain⟨u,hu,ru⟩:=rv.get hx;obtain⟨f0,f1,f2,f3,f4,f5⟩:=hf it (by simp);refine wpAny_pyNext_list_item st p.isList (x:=u) (by simpa using hu) λh' zn sb=>?_;have I1:Inv X Ã V H {s with heap:=h'}:=I.turned (t':=s.toks) (λb o hb e=>(sb.2 b hb).trans e) f0 f1 f3 f4 f5;obtain⟨o,e,c,d⟩:=id zn;exact⟨u,rfl,xq (s:={s with heap:=h'}) e c d (by decide) ⟨x,H,I1,ru,⟨rfl,λys hy=>by rw[I.qb hy hq];exact hx⟩,zn,λb hb=>(hf b hb).1⟩⟩
 done:=by intro X hP hw hK hc i Ã s V H E I hf st hg;subst hP hw hK;obtain⟨xs,hq,hx⟩:=hg;obtain⟨ċ,rv,p,hz⟩:=I.list hq;obtain⟨f0,f1,f2,f3,f4,f5⟩:=hf it (by simp);have hl:=rv.length;exact wpAny_pyNext_list_end (I.ok.hd hc) st p.isList (by simp;lia) λh' eb=>⟨rfl,I.turned (t':=s.toks) (λb o hb e=>eb b o hb e) f0 f1 f3 f4 f5⟩
 self:=λ_ _ _ _ _ st h=>wpAny_pyIter_listiter st h
def zq{P:î}{w:ß}{K:Ñ}{tg:Ð}(a it:À):za P w K tg (T0 K a) [it] it (λi h=>h.IsTupleIter it a i) where
 mem:=by simp
 obj:=λi h st b hb=>by
  have e:b=it:=by simpa using hb
  subst e;obtain⟨o,e,c,d⟩:=st;exact⟨o,e,λv z=>by rw[d] at z;cases z⟩
 keep:=λi h h' st k=>st.at λo e=>k it (by simp) o e
 item:=by intro X hP hw hK hc i Ã s V H E I hf st hg;subst hP hw hK;obtain⟨xs,x,hq,hx⟩:=hg;obtain⟨ċ,rv,p,hz⟩:=I.tuple hq;obtain⟨u,hu,ru⟩:=rv.get hx;obtain⟨f0,f1,f2,f3,f4,f5⟩:=hf it (by simp);refine wpAny_pyNext_tuple_item st (show s.heap.IsTuple a ċ.toArray from p) (x:=u) (by simpa using hu) λh' zn sb=>?_;have I1:Inv X Ã V H {s with heap:=h'}:=I.turned (t':=s.toks) (λb o hb e=>(sb.2 b hb).trans e) f0 f1 f3 f4 f5;obtain⟨o,e,c,d⟩:=id zn;exact⟨u,rfl,xq (s:={s with heap:=h'}) e c d (by decide) ⟨x,H,I1,ru,⟨rfl,λys hy=>by rw[I.sC hy hq];exact hx⟩,zn,λb hb=>(hf b hb).1⟩⟩
 done:=by intro X hP hw hK hc i Ã s V H E I hf st hg;subst hP hw hK;obtain⟨xs,hq,hx⟩:=hg;obtain⟨ċ,rv,p,hz⟩:=I.tuple hq;obtain⟨f0,f1,f2,f3,f4,f5⟩:=hf it (by simp);have hl:=rv.length;exact wpAny_pyNext_tuple_end (I.ok.hd hc) st (show s.heap.IsTuple a ċ.toArray from p) (by simp;lia) λh' eb=>⟨rfl,I.turned (t':=s.toks) (λb o hb e=>eb b o hb e) f0 f1 f3 f4 f5⟩
 self:=λ_ _ _ _ _ st h=>wpAny_pyIter_tupleiter st h
def zr{P:î}{w:ß}{K:Ñ}{tg:Ð}(it:À)(lo:Int)(n:Nat):za P w K tg (T1 lo n) [it] it (λi h=>pc h it (lo+(i:Nat)*1) ((n:Int)-(i:Nat)) 1) where
 mem:=by simp
 obj:=λi h st b hb=>by
  have e:b=it:=by simpa using hb
  subst e;exact⟨_,st,λv z=>by have z':pC _=iU v:=z;cases z'⟩
 keep:=λi h h' st k=>k it (by simp) _ st
 item:=by intro X hP hw hK hc i Ã s V H E I hf st hg;subst hP hw hK;obtain⟨f0,f1,f2,f3,f4,f5⟩:=hf it (by simp);have W:=Walks.range (prog:=X.prog) (w:=X.w) (I.ok.hd hc) it lo 1 n;refine W.item i s _ _ hg st λv h' tk hv zn kk=>?_;obtain⟨t,rfl⟩:=hv;have I1:Inv X Ã V H {s with heap:=h',toks:=tk}:=I.turned (λb o hb e=>kk b o (by simpa using hb) e) f0 f1 f3 f4 f5;refine⟨_,rfl,xq (s:={s with heap:=h',toks:=tk}) (n:= "range_iterator") zn rfl rfl (by decide) ⟨.int (lo+i),H,I1,⟨t,?_⟩,⟨rfl,rfl⟩,zn,λb hb=>(hf b hb).1⟩⟩;rw[Int.mul_one]
 done:=by intro X hP hw hK hc i Ã s V H E I hf st hg;subst hP hw hK;obtain⟨f0,f1,f2,f3,f4,f5⟩:=hf it (by simp);exact wpAny_pyNext_range_end (I.ok.hd hc) st (by have:n<=i:=hg;lia) λh' eb=>⟨rfl,I.turned (t':=s.toks) (λb o hb e=>eb b o hb e) f0 f1 f3 f4 f5⟩
 self:=λ_ _ _ _ _ st h=>wpAny_pyIter_rangeiter st h
section
variable{X:Cx}{tg:Ð}
def xr{Ã:List (À×Obj)}{V:St}{H:Hp}{s:Å}{R:It->Hp->Prop}{E:Á->Å->Prop}{lo hi:Int}{t u v:Tok}{tk:Nat}(I:Inv X Ã V H s)(h1: -(2 ^ 62)<=lo)(h2:lo<2 ^ 62)(h3: -(2 ^ 62)<=hi)(h4:hi<2 ^ 62)
 (q:R (T1 lo (hi-lo).toNat) H):Î (Ó X.prog X.w) X.A (cC (.ref s.heap.objs.size)) (Wi X Ã V tg R) E {s with heap:=s.heap.push {cls:=.type "range",data:=.fields #[.int lo t,.int hi u,.int 1 v]},toks:=tk}:=by
 refine wpAny_pyIter_range (IsRange.new ..) (small_one h1 h2 h3 h4) ?_;have I1:Inv X Ã V H {s with heap:=s.heap.push {cls:=.type "range",data:=.fields #[.int lo t,.int hi u,.int 1 v]},toks:=tk}:=I.kept λb o e=>ï _ e;refine⟨(s.heap.push {cls:=.type "range",data:=.fields #[.int lo t,.int hi u,.int 1 v]}).objs.size,[(s.heap.push {cls:=.type "range",data:=.fields #[.int lo t,.int hi u,.int 1 v]}).objs.size],_,_,H,rfl,
  I1.kept (t':=tk) λb o e=>ï _ e,zr _ lo (hi-lo).toNat,?_,λb hb=>?_,q⟩
 ·have e1:lo+((0:Nat):Int)*1=lo:=by simp
  have e2:(((hi-lo).toNat:Nat):Int)-((0:Nat):Int)=kK lo hi 1:=by rw[rangeSize_one];split<;>lia
  show pc _ _ (lo+((0:Nat):Int)*1) ((((hi-lo).toNat:Nat):Int)-((0:Nat):Int)) 1;rw[e1,e2];exact Ħ _ rfl
 ·have e:b=(s.heap.push {cls:=.type "range",data:=.fields #[.int lo t,.int hi u,.int 1 v]}).objs.size:=by simpa using hb
  subst e;exact I1.qc (õ _) (I1.hok.fresh (õ _))
def T2(ta:TA):TI:=λV H R=>ta V H λvs H1=>∃j:Int,vs=[.int j]/\ -(2 ^ 62)<=j/\j<2 ^ 62/\R (T1 0 j.toNat) H1
def T3(ta:TA):TI:=λV H R=>ta V H λvs H1=>∃i j:Int,vs=[.int i,.int j]/\(-(2 ^ 62)<=i/\i<2 ^ 62/\ -(2 ^ 62)<=j/\j<2 ^ 62)/\R (T1 i (j-i).toNat) H1
def Dx{a:Ð}{ta:TA}{p pos:Pos}(hg:Gl X "range")(hm:X.mg "range" =none)(ha:PA X [a] ta)(hs:å [a] X.env=[(false,Ý a X.env)]:=by rfl):PI X tg (.Call (.Name "range" p) [a] [] pos) (T2 ta):=by
 intro Ã s V H R I h;refine Call_ (fK I hg hm boot_range (iH (Ų (ha pos Ã s V H _ I h) λus s1 ⟨vs,H1,I1,r1,q1⟩=>?_) hs rfl));obtain⟨j,e,q1,q2,q⟩:=q1;subst e;cases r1 with
 |cons r rr=>cases rr;obtain⟨t,rfl⟩:=r;exact call_range_1 (xr I1 (by lia) (by lia) q1 q2 (by simpa using q))
def Dz{a b:Ð}{ta:TA}{p pos:Pos}(hg:Gl X "range")(hm:X.mg "range" =none)(ha:PA X [a,b] ta)(hs:å [a,b] X.env=[(false,Ý a X.env),(false,Ý b X.env)]:=by rfl)(gD:å [b] X.env=[(false,Ý b X.env)]:=by rfl) :
 PI X tg (.Call (.Name "range" p) [a,b] [] pos) (T3 ta):=by
 intro Ã s V H R I h;refine Call_ (fK I hg hm boot_range (iH (Ų (ha pos Ã s V H _ I h) λus s1 ⟨vs,H1,I1,r1,q1⟩=>?_) (by rw[hs,gD]) (by rw[gD];rfl)));obtain⟨i,j,e,⟨q1,q2,q3,q4⟩,q⟩:=q1;subst e;cases r1 with
 |cons r rr=>
  cases rr with
  |cons r' rr=>cases rr;obtain⟨t,rfl⟩:=r;obtain⟨t',rfl⟩:=r';exact call_range_2 (xr I1 q1 q2 q3 q4 q)
def YA(wi:TI)(g:TG)(tb:TS):TS:=λD V H=>wi V H λJ H1=>∃W:Nat->Nat->St->Hp->Prop,(∃m,W 0 m V H1)/\∀i m V H,W i m V H->
 (J.stop i H/\D.nx V H)\/(J.go i H/\∃N:St->Hp->Prop,(∀V' H',N V' H'->∃m',m'<m/\W (i+1) m' V' H')/\∀x H',J.WY i H x H'->g x V H' λV2 H2=>tb {D with nx:=N,ct:=N,bk:=D.nx} V2 H2)
def lV(fp:List À)(h:Õ):List (À×Obj):=fp.filterMap λb=>(h.get? b).map λo=>(b,o)
def ϸ{fp:List À}{h:Õ}{b:À}{o:Obj}(hb:b∈fp)(e:h.get? b=some o):(b,o)∈lV fp h:=oH.mpr ⟨b,hb,by rw[e];rfl⟩
def DA{fp:List À}{h:Õ}{p:À×Obj}(hp:p∈lV fp h):p.1∈fp/\h.get? p.1=some p.2:=by
 obtain⟨b,hb,e⟩:=oH.mp hp;cases q:h.get? b with
 |none=>rw[q] at e;cases e
 |some o=>rw[q] at e;have e':(b,o)=p:=ŀ e;subst e';exact⟨hb,q⟩
def Inv.pinned{Ã:List (À×Obj)}{V:St}{H:Hp}{s:Å}{fp:List À}(I:Inv X Ã V H s)(hf:∀b∈fp,cb X Ã H b)(ho:∀b∈fp,∃o,s.heap.get? b=some o/\∀v,o.data≠ .cell v):Inv X (Ã++lV fp s.heap) V H s:=
 I.B5 fun p hp=>(cw.mp hp).elim (fun z=>I.pin p (Ř _ z)) fun z=>by obtain⟨hb,e⟩:=DA z;obtain⟨f0,f1,f2,_⟩:=hf p.1 hb;obtain⟨o,e',d⟩:=ho p.1 hb;rw[e] at e';cases e';exact⟨e,f0,f1,f2,d⟩
def Inv.eI{Ã pl:List (À×Obj)}{V:St}{H:Hp}{s:Å}(I:Inv X (Ã++pl) V H s):Inv X Ã V H s:=I.B5 λp hp=>I.pin p (Ř _ (oE _ hp))
def Pa{iter:Ð}{body:List Ö}{wi:TI}{g:TG}{tb:TS}{pos:Pos}(hp:PassesOwn (Ó X.prog X.w) X.A X.env X.xe)(hc:X.calm=true)(hi:PI X tg iter wi)(hg:PG X tg g)(hb:fH X body tb)
 (hs:∀x,dz iter X.env x=ö x:=by intro _;rfl):PS X (.For tg iter body [] pos) (YA wi g tb):=by
 intro Ã s V H D I h;refine wpAny_For (Ų (hi Ã s V H _ I h) λv s1 h1=>Ų h1 λX7 s2 h2=>?_) hs;obtain⟨it,fp,tn,J,H2,e,I2,T,Sy,f2,W,⟨m0,w0⟩,turn⟩:=h2;subst e;have stat:∀{H':Hp},(∀b∈fp,H' b=none)->∀b∈fp,cb X Ã H' b:=λhn b hb=>⟨hn b hb,(f2 b hb).2⟩;refine codeAny_forLoop_any (λn s'=>∃i V' H',Inv X Ã V' H' s'/\tn i s'.heap/\(∀b∈fp,H' b=none)/\W i n V' H') ?_ m0 ⟨0,V,H2,I2,Sy,λb hb=>(f2 b hb).1,w0⟩;rintro n s3 ⟨i,V3,H3,I3,st3,fr3,w3⟩;rcases turn i n V3 H3 w3 with⟨stop,qn⟩|⟨go,N,hN,step⟩
 ·refine fi hp (Ų (T.done X rfl rfl rfl hc i Ã s3 V3 H3 X.xe I3 (stat fr3) st3 stop) λr s4 ⟨hr,I4⟩=>?_);subst hr;exact ky ⟨V3,H3,I4,qn⟩
 ·refine fi hp (Ų (T.item X rfl rfl rfl hc i Ã s3 V3 H3 X.xe I3 (stat fr3) st3 go) λr s4 ⟨u,hr,h4⟩=>?_);subst hr;refine fi hp (Ų h4 λ_ s5 ⟨x,H5,I5,r5,y5,IM,Pb⟩=>?_);have I5':=I5.pinned (stat Pb) (T.obj _ _ IM);refine fi hp (Ų (hg _ s5 V3 H5 x u _ I5' r5 (step x H5 y5)) λ_ s6 ⟨V6,H6,I6,q6⟩=>?_);refine fi hp (Ų (hb _ s6 V6 H6 _ I6 q6) λf s7 q7=>?_);have again:∀{V7:St} {H7:Hp},Inv X (Ã++lV fp s5.heap) V7 H7 s7->N V7 H7->∃m,m<n/\∃i V' H',Inv X Ã V' H' s7/\tn i s7.heap/\(∀b∈fp,H' b=none)/\W i m V' H':=fun{V7 H7} I7 n7=>by
   obtain⟨m',hm,w7⟩:=hN V7 H7 n7;refine⟨m',hm,i+1,V7,H7,I7.eI,T.keep _ _ _ IM λb hb o e=>(I7.pin (b,o) (Ř _ (Ř _ (ϸ hb e)))).1,λb hb=>?_,w7⟩;obtain⟨o,e,d⟩:=T.obj _ _ IM b hb;exact(I7.pin (b,o) (Ř _ (Ř _ (ϸ hb e)))).2.1
  cases f with
  |next=>obtain⟨V7,H7,I7,n7⟩:=q7;exact again I7 n7
  |cont=>obtain⟨V7,H7,I7,n7⟩:=q7;exact again I7 n7
  |brk=>obtain⟨V7,H7,I7,q7⟩:=q7;exact⟨V7,H7,I7.eI,q7⟩
  |ret v=>obtain⟨x7,V7,H7,I7,r7,q7⟩:=q7;exact⟨x7,V7,H7,I7.eI,r7,q7⟩
end
abbrev R2:=Qqj->Qqj->Hp->VK->Prop
def ϲ(X:Cx)(f:Á->Á->Sem Á)(r:R2):Prop:=
 ∀(Ã:List (À×Obj)) (s:Å) (V:St) (H:Hp) (x y:Qqj) (v u:Á) (Q:VK),Inv X Ã V H s->RelV x v->RelV y u->r x y H Q->
  Î (Ó X.prog X.w) X.A (f v u) (EP X Ã V Q) X.xe s
def IN(X:Cx)(f:Á->Sem Á)(r:Qqj->Hp->VK->Prop):Prop:=
 ∀(Ã:List (À×Obj)) (s:Å) (V:St) (H:Hp) (x:Qqj) (v:Á) (Q:VK),Inv X Ã V H s->RelV x v->r x H Q->
  Î (Ó X.prog X.w) X.A (f v) (EP X Ã V Q) X.xe s
def ϔ(X:Cx)(f:Á)(r:List Qqj->Hp->VK->Prop):Prop:=
 ∀(Ã:List (À×Obj)) (s:Å) (V:St) (H:Hp) (xs:List Qqj) (us:List Á) (Q:VK),Inv X Ã V H s->Ĳ xs us->r xs H Q->
  Î (Ó X.prog X.w) X.A (call f us) (EP X Ã V Q) X.xe s
def YB(X:Cx)(r:Qqj->Hp->(Bool->Hp->Prop)->Prop):Prop:=
 ∀(Ã:List (À×Obj)) (s:Å) (V:St) (H:Hp) (x:Qqj) (v:Á) (Q:Bool->Hp->Prop),Inv X Ã V H s->RelV x v->r x H Q->
  Î (Ó X.prog X.w) X.A (truthy v) (TP X Ã V Q) X.xe s
def Pc(r:R2)(ta tb:TE):TE:=λV H Q=>ta V H λx H1=>tb V H1 λy H2=>r x y H2 Q
def tUn(r:Qqj->Hp->VK->Prop)(ta:TE):TE:=λV H Q=>ta V H λx H1=>r x H1 Q
def rI(C:Int->Int->Prop)(g:Int->Int->Qqj):R2:=λx y H Q=>∃i j,x=.int i/\y=.int j/\C i j/\Q (g i j) H
def Ip(g:Int->Int->Qqj):R2:=λx y H Q=>∃i j,x=.int i/\y=.int j/\Q (g i j) H
def rU(g:Int->Qqj):Qqj->Hp->VK->Prop:=λx H Q=>∃i,x=.int i/\Q (g i) H
section
variable{X:Cx}{a b:Ð}{ta tb:TE}{pos:Pos}
def Pd(ha:PE X a ta)(hb:PE X b tb){Ã:List (À×Obj)}{s:Å}{V:St}{H:Hp}{R:Qqj->Qqj->Hp->Prop}(I:Inv X Ã V H s)
 (h:ta V H λx H1=>tb V H1 λy H2=>R x y H2){Q:Á->Å->Prop}{f:Á->Á->Sem Á}
 (hf:∀v u s2 x y H2,Inv X Ã V H2 s2->RelV x v->RelV y u->R x y H2->Î (Ó X.prog X.w) X.A (f v u) Q X.xe s2) :
 Î (Ó X.prog X.w) X.A (Ý a X.env) (λv s₁=>Î (Ó X.prog X.w) X.A (Ý b X.env) (λu s₂=>Î (Ó X.prog X.w) X.A (f v u) Q X.xe s₂) X.xe s₁) X.xe s:=by
 refine Ų (ha Ã s V H _ I h) λv s1 ⟨x,H1,I1,r1,q1⟩=>?_;refine Ų (hb Ã s1 V H1 _ I1 q1) λu s2 ⟨y,H2,I2,r2,q2⟩=>?_;exact hf v u s2 x y H2 I2 r1 r2 q2
def EG{op:kz}{r:R2}(ho:ϲ X (Ł op) r)(ha:PE X a ta)(hb:PE X b tb):PE X (.BinOp a op b pos) (Pc r ta tb):=by intro Ã s V H Q I h;exact wpAny_BinOp (Pd ha hb I h λv u s2 x y H2 I2 rx ry q=>ho Ã s2 V H2 x y v u Q I2 rx ry q)
def T4{op:UnaryOp}{r:Qqj->Hp->VK->Prop}(ho:IN X (unaryOp op) r)(ha:PE X a ta):PE X (.UnaryOp op a pos) (tUn r ta):=by intro Ã s V H Q I h;exact UnaryOp_ (Ų (ha Ã s V H _ I h) λv s1 ⟨x,H1,I1,r1,q1⟩=>ho Ã s1 V H1 x v Q I1 r1 q1)
def B8{f:Á->Á->Sem Á}{C:Int->Int->Prop}{g:Int->Int->Int}
 (rule:∀(i j:Int) (t u:Tok) (s:Å) (Q:Á->Å->Prop) (E:Á->Å->Prop),C i j->Q (.int (g i j) s.toks) {s with toks:=s.toks+1}->Î (Ó X.prog X.w) X.A (f (.int i t) (.int j u)) Q E s) :
 ϲ X f (rI C λi j=>.int (g i j)):=by
 intro Ã s V H x y v u Q I rx ry h;obtain⟨i,j,rfl,rfl,hc,q⟩:=h;obtain⟨t,rfl⟩:=rx;obtain⟨t',rfl⟩:=ry;exact rule i j t t' s _ _ hc ⟨.int (g i j),H,I.tok _,⟨_,rfl⟩,q⟩
def xt{f:Á->Á->Sem Á}{g:Int->Int->Int}
 (rule:∀(i j:Int) (t u:Tok) (s:Å) (Q:Á->Å->Prop) (E:Á->Å->Prop),Q (.int (g i j) s.toks) {s with toks:=s.toks+1}->Î (Ó X.prog X.w) X.A (f (.int i t) (.int j u)) Q E s) :
 ϲ X f (Ip λi j=>.int (g i j)):=by
 intro Ã s V H x y v u Q I rx ry h;obtain⟨i,j,rfl,rfl,q⟩:=h;obtain⟨t,rfl⟩:=rx;obtain⟨t',rfl⟩:=ry;exact rule i j t t' s _ _ ⟨.int (g i j),H,I.tok _,⟨_,rfl⟩,q⟩
def IP{f:Á->Á->Sem Á}{g:Int->Int->Bool}
 (rule:∀(i j:Int) (t u:Tok) (s:Å) (Q:Á->Å->Prop) (E:Á->Å->Prop),Q (.bool (g i j)) s->Î (Ó X.prog X.w) X.A (f (.int i t) (.int j u)) Q E s) :
 ϲ X f (Ip λi j=>.bl (g i j)):=by
 intro Ã s V H x y v u Q I rx ry h;obtain⟨i,j,rfl,rfl,q⟩:=h;obtain⟨t,rfl⟩:=rx;obtain⟨t',rfl⟩:=ry;exact rule i j t t' s _ _ ⟨.bl (g i j),H,I,rfl,q⟩
def T5(i j:Int):Prop:=0<j/\j<1073741824
def DB(i j:Int):Prop:=0<=j/\j<=1000000/\i.natAbs<2 ^ 64
def Pe(i j:Int):Prop:=(-(2 ^ 64)<i/\i<2 ^ 64)\/(-(2 ^ 64)<j/\j<2 ^ 64)
def Pe.ok{i j:Int}(h:Pe i j):IntMulOk i j:=by
 rcases h with⟨h1,h2⟩|⟨h1,h2⟩
 ·exact .of_left (intBits_le_64 h1 h2)
 ·exact .of_right (intBits_le_64 h1 h2)
def zt(k:Nat):(0:Int)<=2 ^ k:=by rw[two_pow_cast];exact oo _
def Pf:ϲ X (Ł .Add) (Ip λi j=>.int (i+j)):=xt λ_ _ _ _ _ _ _ q=>add_int q
def Ph:ϲ X (Ł .Sub) (Ip λi j=>.int (i-j)):=xt λ_ _ _ _ _ _ _ q=>sub_int q
def IQ:ϲ X (Ł .Mod) (rI (λ_ j=>j≠0) λi j=>.int (i.fmod j)):=B8 λ_ _ _ _ _ _ _ hc q=>mod_int' hc q
def Pj:ϲ X (Ł .Pow) (rI DB λi j=>.int (i ^ j.toNat)):=B8 λ_ _ _ _ _ _ _ hc q=>pow_int_small hc.1 hc.2.1 hc.2.2 q
def Pk:ϲ X (Ł .LShift) (rI DB λi j=>.int (i*2 ^ j.toNat)):=B8 λ_ _ _ _ _ _ _ hc q=>lshift_int_small hc.1 hc.2.1 hc.2.2 q
def Pl:ϲ X (Ł .RShift) (rI (λ_ j=>0<=j) λi j=>.int (i / 2 ^ j.toNat)):=B8 λi j _ _ _ _ _ hc q=>
 rshift_int hc (by rw[jV i (zt _)];exact q)
def Pm:ϲ X (Ł .BitAnd) (Ip λi j=>.int (bT i j)):=xt λ_ _ _ _ _ _ _ q=>and_int q
def unI{f:Á->Sem Á}{g:Int->Int}
 (rule:∀(i:Int) (t:Tok) (s:Å) (Q:Á->Å->Prop) (E:Á->Å->Prop),Q (.int (g i) s.toks) {s with toks:=s.toks+1}->Î (Ó X.prog X.w) X.A (f (.int i t)) Q E s) :
 IN X f (rU λi=>.int (g i)):=by
 intro Ã s V H x v Q I rx h;obtain⟨i,rfl,q⟩:=h;obtain⟨t,rfl⟩:=rx;exact rule i t s _ _ ⟨.int (g i),H,I.tok _,⟨_,rfl⟩,q⟩
def Pn:IN X (unaryOp .USub) (rU λi=>.int (-i)):=unI λ_ _ _ _ _ q=>neg_int q
end
section
variable{X:Cx}{a b:Ð}{ta tb:TE}{pos:Pos}
def EH{Ã:List (À×Obj)}{V:St}{H:Hp}{s:Å}{Q:VK}{k k':Bool}(I:Inv X Ã V H s)(q:Q (.bl k) H)(e:k=k'):EP X Ã V Q (.bool k') s:=by subst e;exact⟨.bl k,H,I,rfl,q⟩
def T6:ϲ X (ĺ .Lt) (Ip λi j=>.bl (decide (i<j))):=IP λ_ _ _ _ _ _ _ q=>lt_int q
def T7:ϲ X (ĺ .LtE) (Ip λi j=>.bl (decide (i<=j))):=IP λ_ _ _ _ _ _ _ q=>le_int q
def T8:ϲ X (ĺ .Gt) (Ip λi j=>.bl (decide (j<i))):=IP λ_ _ _ _ _ _ _ q=>gt_int q
def T9:ϲ X (ĺ .GtE) (Ip λi j=>.bl (decide (j<=i))):=IP λ_ _ _ _ _ _ _ q=>ge_int q
def fM:ϲ X (ĺ .Is) (λx y H Q=>y=.non/\Q (.bl (decide (x=.non))) H):=by
 intro Ã s V H x y v u Q I rx ry h;obtain⟨rfl,q⟩:=h;cases ry;refine is_none_gen (EH I q ?_);cases x<;>first
  |(cases rx;rfl)
  |(obtain⟨t,rfl⟩:=rx;rfl)
def pQ:ϲ X (ĺ .IsNot) (λx y H Q=>y=.non/\Q (.bl (!decide (x=.non))) H):=by
 intro Ã s V H x y v u Q I rx ry h;obtain⟨rfl,q⟩:=h;cases ry;refine isnot_none_gen (EH I q ?_);cases x<;>first
  |(cases rx;rfl)
  |(obtain⟨t,rfl⟩:=rx;rfl)
def ϲ.or{f:Á->Á->Sem Á}{r r':R2}(h:ϲ X f r)(h':ϲ X f r'):ϲ X f (λx y H Q=>r x y H Q\/r' x y H Q):=by
 intro Ã s V H x y v u Q I rx ry q;rcases q with q|q
 ·exact h Ã s V H x y v u Q I rx ry q
 ·exact h' Ã s V H x y v u Q I rx ry q
def Ľ(b:Ð){op:cD}(h:op≠ .In:=by decide)(h2:op≠ .NotIn:=by decide):iK op b=false:=by
 have e1:(op== CmpOp.In)=false:=by cases op<;>first|rfl|exact absurd rfl h
 have e2:(op== CmpOp.NotIn)=false:=by cases op<;>first|rfl|exact absurd rfl h2
 cases b<;>simp[iK,e1,e2]
def IS{op:cD}{r:R2}(ho:ϲ X (ĺ op) r)(ha:PE X a ta)(hb:PE X b tb)(hm:iK op b=false):PE X (.Compare a [op] [b] pos) (Pc r ta tb):=by intro Ã s V H Q I h;exact wpAny_Compare1 (Pd ha hb I h λv u s2 x y H2 I2 rx ry q=>ho Ã s2 V H2 x y v u Q I2 rx ry q) hm
def Po(K:Ñ)(x:Qqj)(H:Hp)(k:Bool):Prop:=
 match x with
 | .non=>k=false
 | .bl b=>k=b
 | .int i=>k=(i != 0)
 | .str y=>y.length<=sizeLine/\k=((y.length:Int) != 0)
 | .Kv y=>y.size<=sizeLine/\k=((y.size:Int) != 0)
 | .ref p=>(∃xs,Ϟ K H p xs/\k=!xs.isEmpty)\/(∃xs,da K H p xs/\k=!xs.isEmpty)\/∃eZ,H p=some (.dK eZ)/\k=!eZ.isEmpty
 |_=>False
def zu{κ:Type}{eZ:List (κ×Qqj)}{vs:List (κ×Á)}(r:KV eZ vs):(!vs.isEmpty)=!eZ.isEmpty:=by cases r<;>rfl
def qd{xs:List Qqj}{ċ:List Á}(r:Ĳ xs ċ):(!ċ.toArray.isEmpty)=!xs.isEmpty:=by cases r<;>simp
def lW:(sizeLine:Nat)<2 ^ 63:=by rw[cE];decide
def Pp:YB X (λx H Q=>∃k,Po X.K x H k/\Q k H):=by
 intro Ã s V H x v Q I rx h;obtain⟨k,e,q⟩:=h;have hl:=lW;have hs:sizeLine=16777216:=cE;cases x with
 |non=>cases rx;have e':k=false:=e;subst e';exact truthy_none ⟨H,I,q⟩
 |bl b=>cases rx;have e':k=b:=e;subst e';exact cF ⟨H,I,q⟩
 |int i=>obtain⟨t,rfl⟩:=rx;have e':k=(i != 0):=e;subst e';exact PySem.P.truthy_int ⟨H,I,q⟩
 |str y=>obtain⟨t,rfl⟩:=rx;obtain⟨hy,e'⟩:y.length<=sizeLine/\k=((y.length:Int) != 0):=e;subst e';exact PySem.P.truthy_str (by lia) ⟨H,I.tok _,q⟩
 |Kv y=>obtain⟨t,rfl⟩:=rx;obtain⟨hy,e'⟩:y.size<=sizeLine/\k=((y.size:Int) != 0):=e;subst e';exact PySem.W.truthy_bytes (by lia) ⟨H,I.tok _,q⟩
 |ref p=>
  cases rx;have e':(∃xs,Ϟ X.K H p xs/\k=!xs.isEmpty)\/(∃xs,da X.K H p xs/\k=!xs.isEmpty)\/∃eZ,H p=some (.dK eZ)/\k=!eZ.isEmpty:=e;rcases e' with⟨xs,hx,e'⟩|⟨xs,hx,e'⟩|⟨eZ,hx,e'⟩
  ·subst e';obtain⟨ċ,r,pl,hz⟩:=I.list hx;have hlen:=r.length;exact wpAny_truthy_list pl.isList (by simp only[Ĥ];lia) ⟨H,I.tok _,by rw[qd r];exact q⟩
  ·subst e';obtain⟨ċ,r,pl,hz⟩:=I.tuple hx;have hlen:=r.length;exact truthy_tuple pl (by simp only[Ĥ];lia) ⟨H,I.tok _,by rw[qd r];exact q⟩
  ·subst e';obtain⟨hz,hS,vs,r,m⟩:eZ.length<=sizeLine/\(p== sysModules)=false/\∃vs,KV eZ vs/\s.heap.DictOf (vj X.prog X.w) p vs:=I.hok p _ hx;have hlen:eZ.length=vs.length:=Paired.length r;exact wpAny_truthy_dict hS m (by lia) ⟨H,I.tok _,by rw[zu r];exact q⟩
 |_=>exact(show False from e).elim
def EI(ha:PE X a ta)(he:∀whole,isTrue a X.env whole=(do let v <-whole;fh a.pos;aG [v] (truthy v))) :
 PT X a (λV H Q=>ta V H λx H'=>∃k,Po X.K x H' k/\Q k H'):=by
 intro Ã s V H Q I h;exact isTrue_plain (Ų (ha Ã s V H _ I h) λv s1 ⟨x,H1,I1,r1,q1⟩=>Pp Ã s1 V H1 x v Q I1 r1 q1) (he _)
def zw:ϲ X (Ł .Add) (λx y H Q=>∃i j,x=.str i/\y=.str j/\i.length+j.length<=sizeLine/\Q (.str (i++j)) H):=by intro Ã s V H x y v u Q I rx ry h;obtain⟨i,j,rfl,rfl,hz,q⟩:=h;obtain⟨t,rfl⟩:=rx;obtain⟨t',rfl⟩:=ry;exact add_str (λt' tk=>⟨.str (i++j),H,I.tok _,⟨_,rfl⟩,q⟩) hz
def vals1{x:Qqj}{us:List Á}(r:Ĳ [x] us):∃u,us=[u]/\RelV x u:=by
 cases r with
 |cons r1 r2=>cases r2;exact⟨_,rfl,r1⟩
def vals2{x y:Qqj}{us:List Á}(r:Ĳ [x,y] us):∃u w',us=[u,w']/\RelV x u/\RelV y w':=by
 cases r with
 |cons r1 r2=>
  cases r2 with
  |cons r3 r4=>cases r4;exact⟨_,_,rfl,r1,r3⟩
def EJ:ϔ X (.builtin "abs") (λxs H Q=>∃i,xs=[.int i]/\Q (.int (if i<0 then -i else i)) H):=by intro Ã s V H xs us Q I r h;obtain⟨i,rfl,q⟩:=h;obtain⟨u,rfl,t,rfl⟩:=vals1 r;exact call_abs_int λu tk=>⟨.int (if i<0 then -i else i),H,I.tok _,⟨_,rfl⟩,q⟩
def YC(K:Ñ)(x:Qqj)(H:Hp)(n:Nat):Prop:=
 match x with
 | .str y=>y.length<=sizeLine/\n=y.length
 | .Kv y=>y.size<=sizeLine/\n=y.size
 | .ref p=>(∃xs,Ϟ K H p xs/\n=xs.length)\/∃xs,da K H p xs/\n=xs.length
 |_=>False
def EK:ϔ X (.builtin "len") (λxs H Q=>∃x n,xs=[x]/\YC X.K x H n/\Q (.int n) H):=by
 intro Ã s V H xs us Q I r h;obtain⟨x,n,rfl,e,q⟩:=h;obtain⟨u,rfl,rx⟩:=vals1 r;have hl:=lW;have hs:sizeLine=16777216:=cE;cases x with
 |str y=>obtain⟨t,rfl⟩:=rx;obtain⟨hy,e'⟩:y.length<=sizeLine/\n=y.length:=e;subst e';exact len_str (by lia) ⟨.int _,H,I.tok _,⟨_,rfl⟩,q⟩
 |Kv y=>obtain⟨t,rfl⟩:=rx;obtain⟨hy,e'⟩:y.size<=sizeLine/\n=y.size:=e;subst e';exact PySem.W.len_bytes (by lia) ⟨.int _,H,I.tok _,⟨_,rfl⟩,q⟩
 |ref p=>
  cases rx;have e':(∃xs,Ϟ X.K H p xs/\n=xs.length)\/∃xs,da X.K H p xs/\n=xs.length:=e;rcases e' with⟨xs,hx,e'⟩|⟨xs,hx,e'⟩
  ·subst e';obtain⟨ċ,r',pl,hz⟩:=I.list hx;have hlen:=r'.length;exact Calls.call_len_list pl.isList (by simp only[Ĥ];lia) ⟨.int xs.length,H,I.tok _,⟨_,by simp only[Ĥ];rw[hlen]⟩,q⟩
  ·subst e';obtain⟨ċ,r',pl,hz⟩:=I.tuple hx;have hlen:=r'.length;exact len_tuple pl (by simp only[Ĥ];lia) ⟨.int xs.length,H,I.tok _,⟨_,by simp only[Ĥ];rw[hlen]⟩,q⟩
 |_=>exact(show False from e).elim
def xu:ϔ X (.builtin "divmod") (λxs H Q=>∃i j,xs=[.int i,.int j]/\T5 i j/\∀p,H p=none->Q (.ref p) (upd H p (.tup [.int (i / j),.int (i % j)]))):=by intro Ã s V H xs us Q I r h;obtain⟨i,j,rfl,⟨h1,h2⟩,q⟩:=h;obtain⟨u,w',rfl,⟨t,rfl⟩,⟨t',rfl⟩⟩:=vals2 r;refine divmod_int (by lia) ?_ (.inl (Bx (by lia)));rw[jV i (by lia),iy i (by lia)];have hn:H s.heap.objs.size=none:=I.hok.fresh (õ _);refine⟨.ref s.heap.objs.size,_,?_,rfl,q _ hn⟩;refine I.laid (λb o e=>ï _ e) (õ _) ⟨by simp only[ŋ,oJ];rw[cE];decide,[.int (i / j) s.toks,.int (i % j) (s.toks+1)],.cons ⟨_,rfl⟩ (.cons ⟨_,rfl⟩ .nil),?_⟩;exact⟨_,Ħ s.heap rfl,rfl,0,rfl⟩
end
structure zx(h:Õ)(x dx C:À)(mA:Str->Option Á):Prop where
 obj:h.get? x=some (cI C dx)
 ns:h.Ns1 dx mA
 ne:dx≠x
def lX{h:Õ}{dx:À}{mA:Str->Option Á}(n:h.Ns1 dx mA):∃od,h.get? dx=some od/\∀name,iW name od=some (mA name):=by
 obtain⟨o,es,ep,ho,hd,hk,_,hm⟩:=n;refine⟨o,ho,λname=>?_⟩;have e:=hm name;unfold nsFind findBy at e;rw[<-Array.find?_toList] at e;unfold iW;rw[hd];dsimp only;split
 ·rename_i y q;rw[q] at e;exact congrArg some e
 ·rename_i q;rw[q] at e;have a:es.toList.any (·.refKey)=false:=by
   rw[List.any_eq_false];intro y hy;obtain⟨z,t,Zbc⟩:=hk y (Array.mem_toList_iff.mp hy);simp[DictEntry.refKey,Zbc]
  have a':¬es.toList.any (·.refKey)=true:=by rw[a];exact ϥ
  rw[if_neg a'];exact congrArg some e
def zx.look{h:Õ}{x dx C:À}{mA:Str->Option Á}(I:zx h x dx C mA):∃od,bV h x (cI C dx) C (some od)/\∀name,iW name od=some (mA name):=
 let ⟨od,ho,hl⟩:=lX I.ns
 ⟨od,⟨I.obj,rfl,rfl,ho⟩,hl⟩
section
variable{prog:î}{w:ß}{A:ð}{E:Á->Å->Prop}{s:Å}{K:Ñ}{x dx C f:À}{mA:Str->Option Á}{name:Str}{v:Á}
def Ki{expr:Bool}{Q:Á->Å->Prop}(X:K.In s.heap)(I:zx s.heap x dx C mA)(hg:kS K C name=true)(hh:iX K C=true)
 (ha:ł K (.ref C) name=some none)(hv:mA name=some v)(A4:uT v=true)(h:Q v {s with toks:=s.toks+1}) :
 Î (Ó prog w) A (getAttr (.ref x) name expr) Q E s:=by
 obtain⟨od,J,hl⟩:=I.look;exact PySem.W.get_value X J (uU hg).1 (uV hh ha rfl (by rw[hl,hv])) A4 h
def EL{pl:Sem Bool}{Q:Á×List Á->Å->Prop}(X:K.In s.heap)(I:zx s.heap x dx C mA)(hg:kS K C name=true)
 (hf:ł K (.ref C) name=some (some (.ref f)))(ht:kT K (.ref f)=true)(hv:mA name=none)(h:Q (.ref f,[.ref x]) s) :
 Î (Ó prog w) A (getMethod (.ref x) name pl) Q E s:=by
 obtain⟨od,J,hl⟩:=I.look;exact PySem.W.method_fn X J (uU hg).1 (uU hg).2 hf (beq_iff_eq.mp ht) (by show(iW name od).map (·.isSome)=some false;rw[hl,hv];rfl) h
def IT{ns:List Str}{Q:Unit->Å->Prop}(X:K.In s.heap)(I:zx s.heap x dx C mA)
 (hs:ł K (.ref C) "__setattr__" =some (some (.builtin "object.__setattr__")))(hp:uW K C=true)(ht:uX K C name=some none)(hh:iX K C=true)
 (hw:kx mA ns)(jO:ns.length<=sizeLine)
 (h:∀h',zx h' x dx C (λy=>if y=name then some v else mA y)->ϯ dx s.heap h'->Q () {s with heap:=h',toks:=s.toks+2}) :
 Î (Ó prog w) A (setAttr (.ref x) name v) Q E s:=by
 obtain⟨od,J,hl⟩:=I.look;refine uY X J hs (PySem.W.osa_open (s:={s with toks:=s.toks+1}) (r:=none) X J hp ht λb=>?_);obtain⟨cd,hc,Sw⟩:=PySem.W.any_some hh;have hx:s.heap.get? x=some ⟨.ref C,some dx,.plain,#[]⟩:=I.obj;refine Ê (é (Ê (Ê (pd hx (Ê (vh (s:={s with toks:=s.toks+1}) (pI X hc) ?_))))));rw[Sw];refine é (a:=some dx) (Ê (é (Ê ?_)));refine wpAny_nsSet1 (s:={s with toks:=s.toks+1}) I.ns λh' Iy gD=>?_;obtain⟨oD,esD,epD,Wj,Wk,Wl⟩:=Iy.count (vi name v hw);refine Ê (uB Wj (by rw[Wk];exact uC (Ĺ Wl (by rw[ŋ];lia))) ?_);exact é (h _ ⟨(gD.2 _ (ĥ I.ne)).trans I.obj,Iy,I.ne⟩ gD)
def EM{R:dA->Å->Prop}{vs:List Á}{kw:List (Str×Á)}(X:K.In s.heap)(hm:uZ K C=true)
 (hi:ł K (.ref C) "__init__" =some (some (.ref f)))(hf:pJ K (.ref f)=some (.type "function"))
 (h:Ϛ (Ó prog w) (A.under (.builtin "type.__call__" ⟨.ref C::vs,kw⟩)) (.call (.ref f) ⟨.ref (s.heap.objs.size+1)::vs,kw⟩) (PySem.W.InitBack (s.heap.objs.size+1) R)
   {s with heap:=(s.heap.push bW).push (cI C s.heap.objs.size)}) :
 Ϛ (Ó prog w) A (.call (.ref C) ⟨vs,kw⟩) R s:=by
 obtain⟨hh,g,d,t,os⟩:=s;exact PySem.W.make_core (PySem.W.makes_of X hm) (fz X hi) (λself=>PySem.W.bind_fn X self hf) (.inl rfl) h
end
noncomputable def aX(f:Str)(v:Qqj):List (Str×Qqj)->List (Str×Qqj)
 | []=>[(f,v)]
 |(g,x)::r=>if g=f then(g,v)::r else(g,x)::aX f v r
theorem gL(f g:Str)(v:Qqj):∀fs:List (Str×Qqj),(aX f v fs).lookup g=if g=f then some v else fs.lookup g
 | []=>by
   show ba g [(f,v)]=_;by_cases h:g=f
   ·have hb:(g== f)=true:=beq_iff_eq.mpr h;simp only[ba,hb,if_pos h]
   ·have hb:(g== f)=false:=beq_eq_false_iff_ne.mpr h;simp only[ba,hb,if_neg h]
 |(k,x)::r=>by
  have ih:=gL f g v r;rw[show aX f v ((k,x)::r)=(if k=f then(k,v)::r else(k,x)::aX f v r) from rfl];by_cases hk:k=f
  ·rw[if_pos hk];by_cases h:g=k
   ·have hb:(g== k)=true:=beq_iff_eq.mpr h;simp only[ba,hb,if_pos (h.trans hk)]
   ·have hb:(g== k)=false:=beq_eq_false_iff_ne.mpr h;simp only[ba,hb,if_neg (λe:g=f=>h (e.trans hk.symm))]
  ·rw[if_neg hk];by_cases h:g=k
   ·have hb:(g== k)=true:=beq_iff_eq.mpr h;simp only[ba,hb,if_neg (λe:g=f=>hk (h.symm.trans e))]
   ·have hb:(g== k)=false:=beq_eq_false_iff_ne.mpr h;simp only[ba,hb];exact ih
theorem lY(f:Str)(v:Qqj):∀fs:List (Str×Qqj),f∈(aX f v fs).map (·.1)/\∀g,g∈fs.map (·.1)->g∈(aX f v fs).map (·.1)
 | []=>⟨by simp[aX],λg h=>by simp at h⟩
 |(k,x)::r=>by
  obtain⟨i1,i2⟩:=lY f v r;rw[show aX f v ((k,x)::r)=(if k=f then(k,v)::r else(k,x)::aX f v r) from rfl];by_cases hk:k=f
  ·rw[if_pos hk];subst hk;exact⟨by simp,λg h=>by simpa using h⟩
  ·rw[if_neg hk];refine⟨?_,λg h=>?_⟩
   ·rw[ý];exact Ă _ i1
   ·rw[ý] at h ⊢;rcases Ā.mp h with e|e
    ·exact Ā.mpr (.inl e)
    ·exact Ă _ (i2 g e)
theorem gM(f:Str)(v:Qqj):∀fs:List (Str×Qqj),(aX f v fs).length<=fs.length+1
 | []=>by simp[aX]
 |(k,x)::r=>by
  have ih:=gM f v r;rw[show aX f v ((k,x)::r)=(if k=f then(k,v)::r else(k,x)::aX f v r) from rfl];by_cases hk:k=f
  ·rw[if_pos hk,ŋ,ŋ];lia
  ·rw[if_neg hk,ŋ,ŋ];lia
def kX.some_of{v:Qqj}{o:Option Á}(r:kX (some v) o):∃u,o=some u/\RelV v u:=by
 cases o with
 |none=>exact(show False from r).elim
 |some u=>exact⟨u,rfl,r⟩
def kX.none_of{o:Option Á}(r:kX none o):o=none:=by
 cases o with
 |none=>rfl
 |some u=>exact(show False from r).elim
def sD{v:Qqj}{u:Á}(r:RelV v u):uT u=true:=by
 cases v with
 |non=>cases(show u=ϝ from r);rfl
 |bl b=>cases(show u=am b from r);rfl
 |int i=>obtain⟨t,e⟩:=(show ∃t,u=kP i t from r);cases e;rfl
 |str x=>obtain⟨t,e⟩:=(show ∃t,u=pH x t from r);cases e;rfl
 |Kv b=>obtain⟨t,e⟩:=(show ∃t,u=Value.bytes b t from r);cases e;rfl
 |flt b=>obtain⟨t,e⟩:=(show ∃t,u=uQ b t from r);cases e;rfl
 |ref a=>cases(show u=ē a from r);rfl
 |ty n=>cases(show u=Value.type n from r);rfl
section
variable{P:î}{w:ß}{H:Hp}{h:Õ}{a C dx:À}{fs:List (Str×Qqj)}
def pR(hok:eD P w H h)(e:H a=some (.ins C dx fs)):∃mA,zx h a dx C mA/\(∀f,kX (fs.lookup f) (mA f))/\kx mA (fs.map (·.1))/\fs.length<=1000/\H dx=some (.own a):=by obtain⟨d,z,ne,ob,mA,n,r,q⟩:=(show ϓ P w H h a (.ins C dx fs) from hok a _ e);exact⟨mA,⟨ob,n,ne⟩,r,q,z,d⟩
end
structure nL(K:Ñ)(C:À):Prop where
 pg:kS K C Str.empty=true
 hd:iX K C=true
 po:uW K C=true
 sa:ł K (.ref C) "__setattr__" =some (some (.builtin "object.__setattr__"))
def nL.get{K:Ñ}{C:À}(c:nL K C)(f:Str):kS K C f=true:=c.pg
def ė(K:Ñ)(C:À)(f:Str):Prop:=ł K (.ref C) f=some none
def ė.taker{K:Ñ}{C:À}{f:Str}(n:ė K C f):uX K C f=some none:=by unfold uX;rw[show ł K (.ref C) f=some none from n];rfl
structure wU(K:Ñ)(C:À)(m:Str)(f:À):Prop where
 at_:ł K (.ref C) m=some (some (.ref f))
 fn:kT K (.ref f)=true
 kp:Ť K (.ref f)=true
section
variable{X:Cx}{Ã:List (À×Obj)}{V:St}{H:Hp}{s:Å}{a C dx:À}{fs:List (Str×Qqj)}{f:Str}{v:Qqj}{A:ð}{E:Á->Å->Prop}
def zy{b:Bool}{Q:Á->Å->Prop}(I:Inv X Ã V H s)(e:H a=some (.ins C dx fs))(c:nL X.K C)(n:ė X.K C f)(l:fs.lookup f=some v)
 (h:∀u s',Inv X Ã V H s'->RelV v u->Q u s'):Î (Ó X.prog X.w) A (getAttr (.ref a) f b) Q E s:=by
 obtain⟨mA,O,r,_,_,_⟩:=pR I.hok e;obtain⟨u,hu,ru⟩:=kX.some_of (v:=v) (o:=mA f) (by rw[<-l];exact r f);exact Ki I.eY O (c.get f) c.hd n hu (sD ru) (h u _ (I.tok _) ru)
def zz{m:Str}{g:À}{pl:Sem Bool}{Q:Á×List Á->Å->Prop}(I:Inv X Ã V H s)(e:H a=some (.ins C dx fs))(c:nL X.K C)(k:wU X.K C m g)(l:fs.lookup m=none)
 (h:Q (.ref g,[.ref a]) s):Î (Ó X.prog X.w) A (getMethod (.ref a) m pl) Q E s:=by
 obtain⟨mA,O,r,_,_,_⟩:=pR I.hok e;have hn:mA m=none:=kX.none_of (by rw[<-l];exact r m);exact EL I.eY O (c.get m) k.at_ k.fn hn h
def zA{y:Qqj}{u:Á}{Q:Unit->Å->Prop}(I:Inv X Ã V H s)(e:H a=some (.ins C dx fs))(c:nL X.K C)(n:ė X.K C f)(hl:fs.length<1000)(ry:RelV y u)
 (h:∀s',Inv X Ã V (upd H a (.ins C dx (aX f y fs))) s'->Q () s'):Î (Ó X.prog X.w) A (setAttr (.ref a) f u) Q E s:=by
 obtain⟨mA,O,r,wi,_,ho⟩:=pR I.hok e;have hz:(fs.map (·.1)).length<=sizeLine:=by rw[ř,cE];lia
 refine IT I.eY O c.sa c.po n.taker c.hd wi hz λh' O' sb=>h _ ?_;have hd:∃o,h'.get? dx=some o:=let ⟨o,_,_,e',_⟩:=O'.ns;⟨o,e'⟩;refine I.write (x:=a) (e:=dx) (by rw[e];exact dJ) (.inr ho) (λb q hb z=>(sb.2 b hb).trans z) hd ?_;refine⟨by rw[ì O.ne];exact ho,?_,O.ne,O'.obj,_,O'.ns,λg=>?_,λg hg=>?_⟩
 ·have:=gM f y fs;lia
 ·show kX ((aX f y fs).lookup g) (if g=f then some u else mA g);rw[gL];by_cases q:g=f
  ·rw[if_pos q,if_pos q];exact ry
  ·rw[if_neg q,if_neg q];exact r g
 ·by_cases q:g=f
  ·rw[q];exact(lY f y fs).1
  ·refine(lY f y fs).2 g (wi g λz=>hg ?_);show(if g=f then some u else mA g)=none;rw[if_neg q];exact z
def Inv.made(I:Inv X Ã V H s):Inv X Ã V (upd (upd H s.heap.objs.size (.own (s.heap.objs.size+1))) (s.heap.objs.size+1) (.ins C s.heap.objs.size []))
 {s with heap:=(s.heap.push bW).push (cI C s.heap.objs.size)}:=by
 have e1:(s.heap.push bW).get? s.heap.objs.size=some bW:=Ħ s.heap rfl;have e2:((s.heap.push bW).push (cI C s.heap.objs.size)).get? (s.heap.objs.size+1)=some (cI C s.heap.objs.size):=by
  have:=Ħ (s.heap.push bW) (o:=cI C s.heap.objs.size) rfl
  rwa [ϰ] at this
 have e3:(s.heap.push bW).Ns s.heap.objs.size (λ_=>none):=⟨bW,#[],_,e1,rfl,(λe he=>absurd he (by simp)),λ_=>rfl⟩;have I1:=I.laid (a:=s.heap.objs.size) (o:=.own (s.heap.objs.size+1)) (h':=s.heap.push bW) (t':=s.toks) (λb u q=>ï _ q) (õ _) ⟨_,e1⟩;refine I1.laid (a:=s.heap.objs.size+1) (o:=.ins C s.heap.objs.size []) (t':=s.toks) (λb u q=>ï _ q) (um (ϰ _ _)) ?_;have ne:s.heap.objs.size≠s.heap.objs.size+1:=ę (oR _);refine⟨by rw[ì ne,þ],cA _,ne,e2,λ_=>none,(BV e3).at λo q=>ï _ q,λ_=>dJ,λy hy=>absurd rfl hy⟩
def B9{prog:î}{w:ß}{env:Env}{e:Ð}{f:Str}{pos:Pos}{s:Å}{Q:Á->Å->Prop}(hb:kB e f env (Ý e env)=Ý e env)
 (h:Î (Ó prog w) A (Ý e env) (λo s₁=>Î (Ó prog w) A (getAttr o f true) Q E s₁) E s):Î (Ó prog w) A (Ý (.Attribute e f pos) env) Q E s:=
 Attribute_any_ h (by rw[arm_eval_Attribute,hb])
end
def YD(K:Ñ)(ta:TE)(f:Str):TE:=λV H Q=>ta V H λx H1=>∃a C dx fs v,x=.ref a/\H1 a=some (.ins C dx fs)/\nL K C/\ė K C f/\fs.lookup f=some v/\Q v H1
def YE(K:Ñ)(ta tv:TE)(f:Str):TS:=λD V H=>tv V H λy H1=>ta V H1 λx H2=>∃a C dx fs,x=.ref a/\H2 a=some (.ins C dx fs)/\nL K C/\ė K C f/\fs.length<1000/\
 D.nx V (upd H2 a (.ins C dx (aX f y fs)))
section
variable{X:Cx}{o e value:Ð}{f:Str}{pos ck:Pos}{ta tv:TE}
def Pq(he:PE X e ta)(hb:kB e f X.env (Ý e X.env)=Ý e X.env):PE X (.Attribute e f pos) (YD X.K ta f):=by intro Ã s V H Q I h;refine B9 hb (Ų (he Ã s V H _ I h) λu s1 ⟨x,H1,I1,rx,a,C,dx,fs,v,ex,ea,c,n,l,q⟩=>?_);subst ex;obtain rfl:u=ē a:=rx;exact zy I1 ea c n l λu' s2 I2 ru=>⟨v,H1,I2,ru,q⟩
def Pr(ha:PE X o ta)(hv:PE X value tv)(hs:ai value (some (.Attribute o f ck)) pos.line X.env=ö false):PS X (.Assign [.Attribute o f ck] value pos) (YE X.K ta tv f):=by intro Ã s V H D I h;refine BE (Ų (hv Ã s V H _ I h) λu s1 ⟨y,H1,I1,ry,q⟩=>Ų (ha Ã s1 V H1 _ I1 q) λov s2 ⟨x,H2,I2,rx,a,C,dx,fs,ex,ea,c,n,l,q2⟩=>?_) hs;subst ex;obtain rfl:ov=ē a:=rx;exact zA I2 ea c n l ry λs3 I3=>⟨V,_,I3,q2⟩
end
section
variable{X:Cx}{Ã:List (À×Obj)}{V:St}{H:Hp}{s:Å}{A:ð}{E:Á->Å->Prop}{Q:Á->Å->Prop}{c:Á}{b:Bool}
inductive lZ(K:Ñ)(H:Hp):Qqj->Á->Prop where
 |non:lZ K H .non (.type "NoneType")
 |bl (x:Bool):lZ K H (.bl x) (.type "bool")
 |int (i:Int):lZ K H (.int i) (.type "int")
 |str (x:Str):lZ K H (.str x) (.type "str")
 |flt (x:UInt64):lZ K H (.flt x) (.type "float")
 |lst {a:À} {xs:List Qqj} (e:H a=some (.lst xs)):lZ K H (.ref a) (.type "list")
 |dY {a:À} {o:Obj} {xs:List Qqj} (e:H a=some (.dY o (.lst xs))):lZ K H (.ref a) (.type "list")
 |tup {a:À} {xs:List Qqj} (e:H a=some (.tup xs)):lZ K H (.ref a) (.type "tuple")
 |dK {a:À} {eZ:List (xk×Qqj)} (e:H a=some (.dK eZ)):lZ K H (.ref a) (.type "dict")
 |dT {a:À} {eZ:List (List xk×Qqj)} (e:H a=some (.dT eZ)):lZ K H (.ref a) (.type "dict")
 |ins {a C dx:À} {fs:List (Str×Qqj)} (e:H a=some (.ins C dx fs)) (cl:nL K C) (ha:ł K (.ref C) "__class__" =some (some (.builtin "object.__class__")))
   (hn:u_ K (.builtin "object.__class__") "__get__" =some (some (.builtin "getset_descriptor.__get__"))) (htk:vc K (.builtin "object.__class__")=some true)
   (hm:dG K C (.type "object")=some true):lZ K H (.ref a) (.ref C)
def eJ{x:Qqj}{u t:Á}(I:Inv X Ã V H s)(rx:RelV x u)(ty:lZ X.K H x t)(e:ō X.K t c=some b)(h:∀tk,Q (.bool b) {s with toks:=tk}) :
 Î (Ó X.prog X.w) A (call (.builtin "isinstance") [u,c]) Q E s:=by
 cases ty with
 |non=>cases(show u=ϝ from rx);exact ϱ PySem.W.kitx_none I.eY dJ e (λz=>nomatch z) h
 |bl y=>cases(show u=am y from rx);exact ϱ PySem.W.kitx_bool I.eY dJ e (λz=>nomatch z) h
 |int i=>obtain⟨t,q⟩:=(show ∃t,u=kP i t from rx);cases q;exact ϱ PySem.W.kitx_int I.eY dJ e (λz=>nomatch z) h
 |str y=>obtain⟨t,q⟩:=(show ∃t,u=pH y t from rx);cases q;exact ϱ PySem.W.kitx_str I.eY dJ e (λz=>nomatch z) h
 |flt y=>obtain⟨t,q⟩:=(show ∃t,u=uQ y t from rx);cases q;exact ϱ PySem.W.kitx_float I.eY dJ e (λz=>nomatch z) h
 |@lst a xs ea=>cases(show u=ē a from rx);obtain⟨_,_,n,_,h1⟩:=(show ϓ X.prog X.w H s.heap a (.lst xs) from I.hok a _ ea);exact ϱ vd I.eY ⟨_,h1,rfl⟩ e (λz=>nomatch z) h
 |@dY a ob xs ea=>cases(show u=ē a from rx);obtain⟨_,_,_,n,_,h1⟩:=(show ϓ X.prog X.w H s.heap a (.dY ob (.lst xs)) from I.hok a _ ea);exact ϱ vd I.eY ⟨_,h1,rfl⟩ e (λz=>nomatch z) h
 |@tup a xs ea=>cases(show u=ē a from rx);obtain⟨_,_,_,p⟩:=(show ϓ X.prog X.w H s.heap a (.tup xs) from I.hok a _ ea);obtain⟨o,h1,h2,_⟩:=p;exact ϱ BZ I.eY ⟨o,h1,h2⟩ e (λz=>nomatch z) h
 |@dK a eZ ea=>cases(show u=ē a from rx);obtain⟨_,_,vs,_,p⟩:=(show ϓ X.prog X.w H s.heap a (.dK eZ) from I.hok a _ ea);obtain⟨o,es,ep,h1,h2,_⟩:=p;exact ϱ B_ I.eY ⟨o,h1,h2.1⟩ e (λz=>nomatch z) h
 |@dT a eZ ea=>cases(show u=ē a from rx);obtain⟨_,_,xs,_,o,es,ep,h1,h2,_⟩:=(show ϓ X.prog X.w H s.heap a (.dT eZ) from I.hok a _ ea);exact ϱ B_ I.eY ⟨o,h1,h2.1⟩ e (λz=>nomatch z) h
 |@ins a C dx fs ea cl ha hn htk hm=>cases(show u=ē a from rx);obtain⟨mA,O,_⟩:=pR I.hok ea;obtain⟨od,J,_⟩:=O.look;exact ϱ (PySem.W.kitx_own (cl.get _) cl.hd ha hn htk hm) I.eY J e (λz=>nomatch z) h
end
structure Ϗ(k:Nat)(A:ð):Prop where
 hd:A.handled=none
 dp:A.depth+3*k+5<pe
 un:A.units+16*k+200<Ϭ
def Ϗ.mono{j k:Nat}{A:ð}(r:Ϗ k A)(h:j<=k):Ϗ j A:=⟨r.hd,by have:=r.dp;lia,by have:=r.un;lia⟩
def Ϗ.mo{j k:Nat}{A:ð}(r:Ϗ k A)(h:j<=k:= by decide):Ϗ j A:= r.mono h
theorem Ϗ.deeper{k:Nat}{A:ð}(r:Ϗ (k+1) A)(env:Env):Ϗ k (A.deeper env):=
 ⟨r.hd,by have:=r.dp;show A.depth+1+3*k+5<_;lia,by have:=r.un;show A.units+3+16*k+200<_;lia⟩
theorem Ϗ.in1{k:Nat}{A:ð}(r:Ϗ (k+1) A):Ϗ k A.in1:=
 ⟨r.hd,by have:=r.dp;show A.depth+3*k+5<_;lia,by have:=r.un;show A.units+1+16*k+200<_;lia⟩
def zB{A:ð}{C:À}{us:List Á}{kw:List (Str×Á)}:(A.under (.builtin "type.__call__" ⟨.ref C::us,kw⟩)).depth=A.depth+1:=by first|rfl|simp[uI,Code.weight,Code.isCreation,Code.isGuard,Code.isCaller,Code.frames,uK,guardIds]
def zC{A:ð}{C:À}{us:List Á}{kw:List (Str×Á)}:(A.under (.builtin "type.__call__" ⟨.ref C::us,kw⟩)).units=A.units+1:=by first|rfl|simp[uI,Code.cUnits,Code.frames,uK]
def Ϗ.make{k:Nat}{A:ð}(r:Ϗ (k+1) A)(C:À)(us:List Á)(kw:List (Str×Á)):Ϗ k (A.under (.builtin "type.__call__" ⟨.ref C::us,kw⟩)):=
 ⟨r.hd,by have:=r.dp;rw[zB];lia,by have:=r.un;rw[zC];lia⟩
theorem Ϗ.depth{k:Nat}{A:ð}(r:Ϗ k A):A.depth<pe:=by have:=r.dp;lia
theorem Ϗ.units{k:Nat}{A:ð}(r:Ϗ k A):A.units+64<Ϭ:=by have:=r.un;lia
def Ua:TA:=λ_ H Q=>Q [] H
def Kz(ta:TE)(tr:TA):TA:=λV H Q=>ta V H λx H1=>tr V H1 λxs H2=>Q (x::xs) H2
section
variable{X:Cx}{e:Ð}{es:List Ð}{te:TE}{t:TA}{pos:Pos}
def cT:PA X [] Ua:=λ_ _ _ _ H Q I h=>Calls.spliced_nil ⟨[],H,I,.nil,h⟩
def ϳ(ha:PE X e te)(hr:PA X es t)(hs:å (e::es) X.env=(false,Ý e X.env)::å es X.env:=by rfl):PA X (e::es) (Kz te t):=by intro pos Ã s V H Q I h;rw[hs];show Î _ _ (spliced ((false,Ý e X.env)::Ŭ pos (å es X.env))) _ _ s;refine Calls.spliced_cons (Ų (ha Ã s V H _ I h) λu s1 ⟨x,H1,I1,r1,q1⟩=>?_);exact Ų (hr pos Ã s1 V H1 _ I1 q1) λus s2 ⟨xs,H2,I2,r2,q2⟩=>⟨x::xs,H2,I2,.cons r1 r2,q2⟩
def YF(t:TA):TE:=λV H Q=>t V H λxs H1=>xs.length<=sizeLine/\∀p,H1 p=none->Q (.ref p) (upd H1 p (.tup xs))
def YG(t:TA):TE:=λV H Q=>t V H λxs H1=>xs.length<=sizeLine/\∀p,H1 p=none->Q (.ref p) (upd H1 p (.lst xs))
def EN{x1}(h:PA X es t):PE X (.Tuple es x1 pos) (YF t):=by intro Ã s V H Q I hq;refine wpAny_Tuple_spliced (Ų (h pos Ã s V H _ I hq) λus s1 ⟨xs,H1,I1,r,z,q⟩=>⟨by rw[<-r.length];exact z,?_⟩);have hf:H1 s1.heap.objs.size=none:=I1.hok.fresh (õ _);refine⟨.ref s1.heap.objs.size,upd H1 s1.heap.objs.size (.tup xs),I1.laid (t':=s1.toks) (λb u e=>ï _ e) (õ _) ?_,rfl,q _ hf⟩;exact⟨z,us,r,⟨_,Ħ _ rfl,rfl,_,rfl⟩⟩
def EO(h:PA X es t):PE X (.List es pos) (YG t):=by intro Ã s V H Q I hq;refine wpAny_List_spliced (Ų (h pos Ã s V H _ I hq) λus s1 ⟨xs,H1,I1,r,z,q⟩=>⟨by rw[<-r.length];exact z,?_⟩);have hf:H1 s1.heap.objs.size=none:=I1.hok.fresh (õ _);refine⟨.ref s1.heap.objs.size,upd H1 s1.heap.objs.size (.lst xs),I1.laid (t':=s1.toks) (λb u e=>ï _ e) (õ _) ?_,rfl,q _ hf⟩;exact⟨z,us,0,r,Ħ _ rfl⟩
end
abbrev Sp:=List Qqj->Hp->VK->XK->Prop
abbrev nh:=List Env->Hp->Å->XK->Á->Å->Prop
structure zD(P:î)(w:ß)(K:Ñ)(mg:Str->Option Á)(base:Õ)(A:ð)(outer:List Env)(s:Å)(H:Hp):Prop where
 frames:A.frames=some outer
 mod:Mod K mg base
 bs:∀b o,base.get? b=some o->s.heap.get? b=some o/\H b=none
 B4:base.objs.size<=s.heap.objs.size
 jk:s.heap.FunFrames base outer
 Ex:∀b∈ng outer,H b=none
 hok:eD P w H s.heap
 bare:bQ s.gens
 tb:wT K mg base H
def CE(outer:List Env)(P:î)(w:ß)(H:Hp)(s:Å)(Q:VK)(u:Á)(s':Å):Prop:=
 ∃v H',s'.os=s.os/\bQ s'.gens/\Un (ng outer) [] H H' s.heap s'.heap/\eD P w H' s'.heap/\RelV v u/\Q v H'
def CR(CX:nh)(outer:List Env)(P:î)(w:ß)(H:Hp)(s:Å)(Q:VK)(E:XK)(r:dA)(s':Å):Prop:=
 match r with
 | .ok (.ret u)=>CE outer P w H s Q u s'
 | .ok _=>False
 | .error e=>CX outer H s E e s'
structure Ĉ(P:î)(w:ß)(K:Ñ)(mg:Str->Option Á)(base:Õ)(CX:nh)(k:Nat)(f:À)(fd:ě)(ps:List Str)(sp:Sp):Prop where
 len:∀vs H Q E,sp vs H Q E->vs.length=ps.length
 run:∀(A:ð) (outer:List Env) (s:Å) (H:Hp) (args:Args) (us:List Á) (vs:List Qqj) (Q:VK) (E:XK),Ϗ k A->zD P w K mg base A outer s H->dB s fd args (ps.zip us)->Ĳ vs us->sp vs H Q E->
  Ϛ (Ó P w) A (.call (.ref f) args) (CR CX outer P w H s Q E) s
theorem Ĉ.mono{P:î}{w:ß}{K:Ñ}{mg:Str->Option Á}{base:Õ}{CX:nh}{j k:Nat}{f:À}{fd:ě}{ps:List Str}{sp:Sp}(F:Ĉ P w K mg base CX j f fd ps sp)(h:j<=k) :
 Ĉ P w K mg base CX k f fd ps sp:=⟨F.len,λA outer s H args us vs Q E hr=>F.run A outer s H args us vs Q E (hr.mono h)⟩
def Ĉ.imp{P:î}{w:ß}{K:Ñ}{mg:Str->Option Á}{base:Õ}{CX:nh}{k:Nat}{f:À}{fd:ě}{ps:List Str}{sp sp':Sp}(F:Ĉ P w K mg base CX k f fd ps sp)
 (h:∀vs H Q E,sp' vs H Q E->sp vs H Q E):Ĉ P w K mg base CX k f fd ps sp':=
 ⟨λvs H Q E q=>F.len vs H Q E (h _ _ _ _ q),λA outer s H args us vs Q E hr he hb hv hs=>F.run A outer s H args us vs Q E hr he hb hv (h _ _ _ _ hs)⟩
def zD.make{P:î}{w:ß}{K:Ñ}{mg:Str->Option Á}{base:Õ}{A:ð}{outer:List Env}{s:Å}{H:Hp}(e:zD P w K mg base A outer s H)(C:À)(us:List Á)(kw:List (Str×Á)) :
 zD P w K mg base (A.under (.builtin "type.__call__" ⟨.ref C::us,kw⟩)) outer s H:=⟨by first|exact e.frames|(simpa[uI,Code.envs,uK,pushEnvs] using e.frames),e.mod,e.bs,e.B4,e.jk,e.Ex,e.hok,e.bare,e.tb⟩
section
variable{X:Cx}{Ã:List (À×Obj)}{V:St}{H:Hp}{s s':Å}
def Inv.env0(I:Inv X Ã V H s):zD X.prog X.w X.K X.mg X.base X.A X.stack s H:=
 ⟨I.ok.frames,I.ok.mod,I.bs,Ĺ I.ok.B4 I.sz,I.stack,I.pP,I.hok,I.bare,I.tb⟩
def Inv.after{Q:VK}{u:Á}(I:Inv X Ã V H s)(h:CE X.stack X.prog X.w H s Q u s'):EP X Ã V Q u s':=by obtain⟨v,H',os,bare,un,hok,r,q⟩:=h;obtain⟨hh,g,d,t,Sz⟩:=s';obtain rfl:Sz=s.os:=os;exact⟨v,H',I.call (h':=hh) (g':=g) (d':=d) (t':=t) (ch:=[]) un hok bare (λb z=>absurd z (by simp)),r,q⟩
end
def Binds(K:Ñ)(fd:ě)(ps:List Str)(ds:List Á):Prop:=
 ∀(s:Å) (us:List Á),K.In s.heap->(us++ds).length=ps.length->dB s fd ⟨us,[]⟩ (ps.zip (us++ds))
def Binds.all{K:Ñ}{fd:ě}{ps:List Str}(h:∀us:List Á,us.length=ps.length->bh fd ⟨us,[]⟩=ö (ps.zip us)):Binds K fd ps []:=λs us _ hl=>by rw[cx] at hl ⊢;exact .of_eq (h us hl)
section
variable{f C:À}
structure Mk(K:Ñ)(C f:À):Prop where
 makes:uZ K C=true
 init:ł K (.ref C) "__init__" =some (some (.ref f))
 fn:kT K (.ref f)=true
 kp:Ť K (.ref C)=true
end
section
end
structure à(N P:List Str)(sc:ą):Prop where
 kind:sc.kind=.function
 co:sc.isCoroutine=false
 gen:sc.isGenerator=false
 nd:N.Nodup
 pre:N.take P.length=P
 par:∀x∈P,sc.names.lookup x=some .local\/sc.names.lookup x=some .cell
 Ps:∀y∈sc.names,y.2≠ .free
theorem sE{kindOf:Str->Option aH}{x:Str}:∀{binds:List (Str×Á)} {m:Str->Option Á},(∀v,(x,v)∉binds)->bindL kindOf binds m x=m x
 | [],_,_=>rfl
 |(n,v)::r,m,h=>by
  unfold bindL;rw[sE λw hw=>h w (Ă _ hw)];split
  ·have:x≠n:=by rintro rfl;exact h v ĭ
   simp[this]
  ·rfl
theorem sG{kindOf:Str->Option aH}{x:Str}:∀{binds:List (Str×Á)} {m:Str->Option Á},(∀v,(x,v)∉binds)->bindC kindOf binds m x=m x
 | [],_,_=>rfl
 |(n,v)::r,m,h=>by
  unfold bindC;rw[sG λw hw=>h w (Ă _ hw)];split
  ·rfl
  ·have:x≠n:=by rintro rfl;exact h v ĭ
   simp[this]
theorem sI{kindOf:Str->Option aH}{x:Str}{v:Á}:∀{P:List Str} {vs:List Á} {i:Nat} {m:Str->Option Á},P.Nodup->P[i]?=some x->vs[i]?=some v->kindOf x=some .local->
 bindL kindOf (P.zip vs) m x=some v
 | [],_,_,_,_,h,_,_=>by simp at h
 |_::_,[],_,_,_,_,h,_=>by simp at h
 |p::P,w::vs,0,m,nd,h1,h2,hk=>by simp at h1 h2;subst h1;subst h2;show bindL kindOf ((p,w)::P.zip vs) m p=_;unfold bindL;rw[sE λv hv=>(iE.mp nd).1 (jZ hv).1,if_pos hk];simp
 |p::P,w::vs,i+1,m,nd,h1,h2,hk=>by show bindL kindOf ((p,w)::P.zip vs) m x=_;unfold bindL;exact sI (i:=i) (iE.mp nd).2 (by simpa using h1) (by simpa using h2) hk
theorem sJ{kindOf:Str->Option aH}{x:Str}{v:Á}:∀{P:List Str} {vs:List Á} {i:Nat} {m:Str->Option Á},P.Nodup->P[i]?=some x->vs[i]?=some v->kindOf x≠some .local->
 bindC kindOf (P.zip vs) m x=some v
 | [],_,_,_,_,h,_,_=>by simp at h
 |_::_,[],_,_,_,_,h,_=>by simp at h
 |p::P,w::vs,0,m,nd,h1,h2,hk=>by simp at h1 h2;subst h1;subst h2;show bindC kindOf ((p,w)::P.zip vs) m p=_;unfold bindC;rw[sG λv hv=>(iE.mp nd).1 (jZ hv).1,if_neg hk];simp
 |p::P,w::vs,i+1,m,nd,h1,h2,hk=>by show bindC kindOf ((p,w)::P.zip vs) m x=_;unfold bindC;exact sJ (i:=i) (iE.mp nd).2 (by simpa using h1) (by simpa using h2) hk
def start(N:List Str)(vs:List Qqj):St:=vs.map some++Ï (N.length-vs.length) none
noncomputable def bE(CX:nh)(P:î)(w:ß)(K:Ñ)(mg:Str->Option Á)(base:Õ)(N:List Str)(qual:Str)(scope:ą)(f:À)(cd:Á)(A:ð)(outer:List Env)(s:Å)(H:Hp)(E:XK):Cx where
 prog:=P
 w:=w
 K:=K
 mg:=mg
 base:=base
 A:=A.deeper (ġ qual scope s.heap.objs.size f cd)
 N:=N
 s₀:= s
 H₀:= H
 env:=ġ qual scope s.heap.objs.size f cd
 outer:=outer
 stack:=ġ qual scope s.heap.objs.size f cd::outer
 ex:=[]
 calm:=true
 fn:=λ_=>true
 pn:=[]
 xe:=λe s'=>Î (Ó P w) (A.deeper (ġ qual scope s.heap.objs.size f cd)) (leaving (ġ qual scope s.heap.objs.size f cd) e) (λ_ s''=>CX outer H s E e s'') (λe' s''=>CX outer H s E e' s'') s'
def kY{sc:ą}{n:Nat}{x:Str}(h:sc.names.lookup x=some .cell):∃c,(œ n sc.names []).lookup x=some c:=by have q:=B0 sc.names n [] (.inl h);exact Bu.mp q
def DC{CX:nh}{P:î}{w:ß}{K:Ñ}{mg:Str->Option Á}{base:Õ}{N ps:List Str}{qual:Str}{scope:ą}{f:À}{cd:Á}{A:ð}{outer:List Env}{s s1:Å}{H:Hp}{E:XK}{us:List Á}{vs:List Qqj}
 (S:à N ps scope)(hd:A.handled=none)(e0:zD P w K mg base A outer s H)(hl:vs.length=ps.length)(r:Ĳ vs us)
 (x:InCallC s s.heap.objs.size (bindL (ġ qual scope s.heap.objs.size f cd).kindOf (ps.zip us) λ_=>none) (œ (s.heap.objs.size+1) scope.names []) (bindC (ġ qual scope s.heap.objs.size f cd).kindOf (ps.zip us) λ_=>none) s1) :
 Inv (bE CX P w K mg base N qual scope f cd A outer s H E) [] (start N vs) H s1:=by
 have gJ:ps.length<=N.length:=by have:=congrArg List.length S.pre;rw[oK] at this;lia
 obtain⟨h1,tk,rfl,hk⟩:=x.done;have Ub:∀b:À,b∉(bE CX P w K mg base N qual scope f cd A outer s H E).ex:=λb z=>absurd (show b∈([]:List À) from z) (by simp);refine⟨⟨e0.mod,S.kind,rfl,rfl,õ _,λy z c h1 h2=>?_,λy hy=>?_,λy c _ h=>?_,λ_=>hd,BG e0.frames,.inr ⟨rfl,rfl⟩,λb z=>absurd z (Ub b),e0.bs,e0.B4,λb _ _=>Ub b,λb z=>absurd z (Ub b),e0.jk,e0.Ex,e0.tb⟩,
  rfl,e0.bare,Un.kept hk,⟨_,x.toInCall.ns,λi y v h1 h2 h3=>?_⟩,λy c h=>⟨_,x.cell y c h⟩,e0.hok.fresh (õ _),λy c h=>?_,λp hp=>absurd (show p∈([]:List (À×Obj)) from hp) (by simp),e0.hok.kept hk,?_⟩
 ·exact name_of_addr x.apart (fj h1) (fj h2)
 ·have hy:scope.names.lookup y=some .cell\/scope.names.lookup y=some .free:=hy;rcases hy with hy|hy
  ·exact kY hy
  ·exact absurd rfl (S.Ps _ (fj hy))
 ·exact fg (x.above y c (fj h))
 ·have hi:i<vs.length:=by
   unfold start at h2;by_cases hi:i<vs.length
   ·exact hi
   ·rw[bc (by simpa using hi)] at h2;rw[fb] at h2;split at h2<;>cases h2
  have ha:vs[i]?=some v:=by
   unfold start at h2;rw[ϧ (by simpa using hi),Ϩ] at h2;cases e:vs[i]? with
   |none=>rw[e] at h2;cases h2
   |some a=>rw[e] at h2;cases h2;rfl
  obtain⟨u,hu,rv⟩:=r.get ha;have hp:ps[i]?=some y:=by rw[<-S.pre,List.getElem?_take_of_lt (by lia)];exact h1
  have ndP:ps.Nodup:=by rw[<-S.pre];exact S.nd.sublist (List.take_sublist _ _)
  refine⟨u,rv,?_⟩;rcases S.par y (List.mem_of_getElem? hp) with k|k
  ·exact .inl ⟨k,sI ndP hp hu k⟩
  ·obtain⟨c,e⟩:=kY (n:=s.heap.objs.size+1) k;refine .inr ⟨.inl k,c,e,?_⟩;have q:=x.cell y c e;rw[sJ ndP hp hu (by show scope.names.lookup y≠_;rw[k];decide)] at q;exact q
 ·exact e0.hok.fresh (fg (x.above y c (fj h)))
 ·unfold start;show _=N.length;rw[ϩ,ř,List.length_replicate];lia
def xv{CX:nh}{P:î}{w:ß}{K:Ñ}{mg:Str->Option Á}{base:Õ}{k:Nat}{f:À}{name qual:Str}{params:dC}{body:List Ö}{scope:ą}{dV kV iu pm ű ct oc:Á}{an od:Option À}
 {rN:Array (Option Á)}{N ps:List Str}{sp:Sp}(lk:K.lookup f=some ⟨oc,od,.func (Ŏ name qual params body scope dV kV iu pm an ű ct),rN⟩)(et:dH K ű qual=true)(S:à N ps scope)
 (len:∀vs H Q E,sp vs H Q E->vs.length=ps.length)
 (c_:∀(A:ð) (outer:List Env) (s:Å) (H:Hp) (vs:List Qqj) (Q:VK) (E:XK),Ϗ k (A.deeper (ġ qual scope s.heap.objs.size f ű))→sp vs H Q E→
   ∃t,fH (bE CX P w K mg base N qual scope f ű A outer s H E) body t/\t {nx:=λ_ H'=>Q .non H',rt:=Q} (start N vs) H) :
 Ĉ P w K mg base CX (k+1) f (Ŏ name qual params body scope dV kV iu pm an ű ct) ps sp:=by
 refine⟨len,λA outer s H args us vs Q E hr e0 hb r zo=>?_⟩;have hl:=len _ _ _ _ zo;have KX:K.In s.heap:=e0.mod.OU.keeps λb o e=>(e0.bs b o e).1;have lim:s.heap.NoLimit:=e0.mod.nolimit.keeps λb o e=>(e0.bs b o e).1;have Wm:∀y∈ps.zip us,scope.names.lookup y.1=some .local\/(scope.names.lookup y.1=some .cell/\((œ (s.heap.objs.size+1) scope.names []).lookup y.1).isSome=true):=λ⟨n,v⟩ hy=>by
  rcases S.par n (jZ hy).1 with q|q
  ·exact .inl q
  ·exact .inr ⟨q,B0 _ _ _ (.inl q)⟩
 refine codeAny_call_function hr.depth (KX _ _ lk) rfl S.co S.gen rfl (PySem.W.codeRec_of KX et) (hb _ _ _ _ ?_);refine wpAny_newFunctionEnv_cells S.kind Wm λenv he s1 x=>?_;subst he;refine⟨lim.keeps x.toInCall.keep,codeAny_func ?_⟩;obtain⟨t,ht,hq⟩:=c_ A outer s H vs Q E (hr.deeper _) zo;have I:Inv (bE CX P w K mg base N qual scope f ű A outer s H E) [] (start N vs) H s1:=DC S hr.hd e0 hl r x;refine ŭ (ht [] s1 (start N vs) H _ I hq) (λfl s' hs=>?_) λe s' hs=>hs;have gz:∀{V':St} {H':Hp} {v:Qqj} {u:Á},Inv (bE CX P w K mg base N qual scope f ű A outer s H E) [] V' H' s'->RelV v u->Q v H'->CE outer P w H s Q u s':=
  fun{V' H' v u} J rv q=>⟨v,H',J.os,J.bare,J.base,J.hok,rv,q⟩
 cases fl with
 |ret u=>obtain⟨v,V',H',J,rv,q⟩:=hs;exact gz J rv q
 |next=>obtain⟨V',H',J,q⟩:=hs;exact gz (v:=Qqj.non) (u:=ϝ) J rfl q
 |brk=>obtain⟨_,_,_,q⟩:=hs;exact Š q
 |cont=>obtain⟨_,_,_,q⟩:=hs;exact Š q
section
variable{X:Cx}{x:Str}{p pos:Pos}{e:Ð}{es:List Ð}{t:TA}{id T:String}{r:List Qqj->Hp->VK->Prop}
def WZ(r:List Qqj->Hp->VK->Prop)(t:TA):TE:=λV H Q=>t V H λvs H1=>r vs H1 Q
def EQ(hc:ϔ X (.builtin id) r)(hg:Gl X x)(hm:X.mg x=none)(hv:bg x=some (.builtin id))(ha:PA X (e::es) t)(hn:x≠ "__name__" := by decide)(oi:(x== ("__debug__" :Str))=false:=by decide)
 (he:å (e::es) X.env=(false,Ý e X.env)::å es X.env:=by rfl)(gJ:(Ŭ pos (å es X.env)).any (·.1)=false:=by rfl):PE X (.Call (.Name x p) (e::es) [] pos) (WZ r t):=by
 intro Ã s V H Q I h;refine fk (fK I hg hm hv ?_ hn oi);exact PyProof.Rows.callWith_builtin1 (Ų (ha pos Ã s V H _ I h) λus s1 ⟨vs,H1,I1,r1,q1⟩=>hc Ã s1 V H1 vs us Q I1 r1 q1) he gJ
def sK(hc:ϔ X (.type T) r)(hg:Gl X x)(hm:X.mg x=none)(hv:bg x=some (.type T))(ha:PA X (e::es) t)(hn:x≠ "__name__" := by decide)(oi:(x== ("__debug__" :Str))=false:=by decide)
 (he:å (e::es) X.env=(false,Ý e X.env)::å es X.env:=by rfl)(gJ:(Ŭ pos (å es X.env)).any (·.1)=false:=by rfl):PE X (.Call (.Name x p) (e::es) [] pos) (WZ r t):=by
 intro Ã s V H Q I h;refine fk (fK I hg hm hv ?_ hn oi);exact iH (Ų (ha pos Ã s V H _ I h) λus s1 ⟨vs,H1,I1,r1,q1⟩=>hc Ã s1 V H1 vs us Q I1 r1 q1) he gJ
end
end L2
namespace HT
open PySem PyProof.Rows
section
open PySem.SeqAt
open PySem.AutoSeq1 (wpAny_loadPart')
open PySem.MeetsSeq PySem.MeetsSeq2 PySem.MeetsSeq3
end
section
noncomputable def jR(n d:Nat):Option Int->Nat
 |none=>d
 |some v=>if v<0 then(v+(n:Int)).toNat else min v.toNat n
def IV(n d k:Nat):jR n d (some (k:Int))=min k n:=by show(if(k:Int)<0 then((k:Int)+(n:Int)).toNat else min (k:Int).toNat n)=min k n;rw[if_neg (by lia),t_]
def ER(n d:Nat)(hd:d<=n)(o:Option Int):jR n d o<=n:=by
 cases o with
 |none=>exact hd
 |some v=>
  show(if v<0 then(v+(n:Int)).toNat else min v.toNat n)<=n;by_cases hv:v<0
  ·rw[if_pos hv];lia
  ·rw[if_neg hv];exact Nat.min_le_right _ _
end
end HT
namespace L2
open PySem PySem.Spec PyProof.Rows
abbrev TO:=St->Hp->(Option Int->Hp->Prop)->Prop
def PO(X:Cx)(e:Option Ð)(t:TO):Prop:=
 ∀(Ã:List (À×Obj)) (s:Å) (V:St) (H:Hp) (Q:Option Int->Hp->Prop),Inv X Ã V H s->t V H Q->
  Î (Ó X.prog X.w) X.A (evalPart e X.env) (λu s'=>∃o H',Inv X Ã V H' s'/\IsPart u o/\Q o H') X.xe s
def IW:TO:=λ_ H Q=>Q none H
section
variable{X:Cx}{e:Ð}{te:TE}{lo hi:Option Ð}{tl th:TO}{pos p2:Pos}
def IX:PO X none IW:=by intro Ã s V H Q I h;rw[evalPart_none];exact é ⟨none,H,I,.none,h⟩
def Cb(X:Cx)(r:Qqj->Option Int->Option Int->Hp->VK->Prop):Prop:=
 ∀(Ã:List (À×Obj)) (s:Å) (V:St) (H:Hp) (x:Qqj) (v vl vu:Á) (lo hi:Option Int) (sl:À) (Q:VK),Inv X Ã V H s->RelV x v->s.heap.IsSliceOf sl vl vu .none->IsPart vl lo->IsPart vu hi->r x lo hi H Q->
  ∃T id,kC (.type T) "__getitem__" =ö (some (.builtin id))/\s.TypeIs v T/\Î (Ó X.prog X.w) X.A (getItem v (.ref sl)) (EP X Ã V Q) X.xe s
def Cb.or{r r':Qqj->Option Int->Option Int->Hp->VK->Prop}(h:Cb X r)(h':Cb X r'):Cb X (λx lo hi H Q=>r x lo hi H Q\/r' x lo hi H Q):=by
 intro Ã s V H x v vl vu lo hi sl Q I rx hs pl pu q;rcases q with q|q
 ·exact h Ã s V H x v vl vu lo hi sl Q I rx hs pl pu q
 ·exact h' Ã s V H x v vl vu lo hi sl Q I rx hs pl pu q
def tSl(r:Qqj->Option Int->Option Int->Hp->VK->Prop)(te:TE)(tl th:TO):TE:=λV H Q=>te V H λx H1=>tl V H1 λl H2=>th V H2 λu H3=>r x l u H3 Q
def ET{r:Qqj->Option Int->Option Int->Hp->VK->Prop}(hr:Cb X r)(he:PE X e te)(hl:PO X lo tl)(hu:PO X hi th):PE X (.Subscript e (.Slice lo hi none p2) pos) (tSl r te tl th):=by intro Ã s V H Q I h;refine Subscript_ (Ų (he Ã s V H _ I h) λv s1 ⟨x,H1,I1,r1,q1⟩=>?_);refine wpAny_Slice (Ų (hl Ã s1 V H1 _ I1 q1) λvl s2 ⟨l,H2,I2,pl,q2⟩=>Ų (hu Ã s2 V H2 _ I2 q2) λvu s3 ⟨u,H3,I3,pu,q3⟩=>?_);rw[evalPart_none];refine é ?_;have I4:Inv X Ã V H3 {s3 with heap:=s3.heap.push {cls:=.type "slice",data:=.fields #[vl,vu,.none]}}:=I3.kept (t':=s3.toks) λb ob q=>ï _ q;obtain⟨T,id,hT,ht,hg⟩:=hr Ã {s3 with heap:=s3.heap.push {cls:=.type "slice",data:=.fields #[vl,vu,.none]}} V H3 x v vl vu l u s3.heap.objs.size Q I4 r1 (Heap.IsSliceOf.new ..) pl pu q3;show Î (Ó X.prog X.w) X.A (subscriptTail e (.Slice lo hi none p2) v (.ref s3.heap.objs.size)) (EP X Ã V Q) X.xe {s3 with heap:=s3.heap.push {cls:=.type "slice",data:=.fields #[vl,vu,.none]}};exact tail_any (ops:=[.ref s3.heap.objs.size,v]) ht hT hg (by with_unfolding_all rfl)
def xw(xs:List Qqj)(lo hi:Option Int):List Qqj:=(xs.drop (HT.jR xs.length 0 lo)).take (HT.jR xs.length xs.length hi-HT.jR xs.length 0 lo)
def xy(xs:List Qqj)(lo hi:Option Int):(xw xs lo hi).length<=xs.length:=by unfold xw;rw[oK,List.length_drop];lia
end
noncomputable def zE(n:Nat)(i:Int):Option Nat:=if 0<=i then(if i<n then some i.toNat else none) else if -(n:Int)<=i then some (i+n).toNat else none
def qe{α:Type}(xs:List α)(i:Int):Option α:= (zE xs.length i).bind λj=>xs[j]?
def Cc{n:Nat}{i:Int}{j:Nat}(h:zE n i=some j):seqIndex? i n=some j/\j<n/\ -(n:Int)<=i/\i<n:=by
 unfold zE at h;by_cases h0:0<=i
 ·rw[if_pos h0] at h;by_cases h1:i<n
  ·rw[if_pos h1] at h;have e:i.toNat=j:=ŀ h;exact⟨by rw[seqIndex_of h0 h1,e],by lia,by lia,h1⟩
  ·rw[if_neg h1] at h;cases h
 ·rw[if_neg h0] at h;by_cases h1: -(n:Int)<=i
  ·rw[if_pos h1] at h;have e:(i+n).toNat=j:=ŀ h;exact⟨by rw[seqIndex_neg (by lia) h1,e],by lia,h1,by lia⟩
  ·rw[if_neg h1] at h;cases h
def vk{α:Type}{xs:List α}{i:Int}{v:α}(h:qe xs i=some v):∃j,seqIndex? i xs.length=some j/\xs[j]?=some v/\j<xs.length/\ -(xs.length:Int)<=i/\i<xs.length:=by
 unfold qe at h;cases e:zE xs.length i with
 |none=>rw[e] at h;cases h
 |some j=>rw[e] at h;obtain⟨h1,h2,h3,h4⟩:=Cc e;exact⟨j,h1,h,h2,h3,h4⟩
def pS(b:Ð):Prop:=∀o i,subscripted b false o i=operate [o,i] (getItem o i)
def zF(X:Cx)(r:R2):Prop:=
 ∀(value slice:Ð) (Ã:List (À×Obj)) (s:Å) (V:St) (H:Hp) (x y:Qqj) (v u:Á) (Q:VK),Inv X Ã V H s->RelV x v->RelV y u->r x y H Q->
  subscripted slice false v u=operate [v,u] (getItem v u)->Î (Ó X.prog X.w) X.A (subscriptTail value slice v u) (EP X Ã V Q) X.xe s
def MtR(X:Cx)(id:String)(r:Qqj->List Qqj->Hp->VK->Prop):Prop:=
 ∀(Ã:List (À×Obj)) (s:Å) (V:St) (H:Hp) (x:Qqj) (xs:List Qqj) (v:Á) (us:List Á) (Q:VK),Inv X Ã V H s->RelV x v->Ĳ xs us->r x xs H Q->
  Î (Ó X.prog X.w) X.A (call (.builtin id) (v::us)) (EP X Ã V Q) X.xe s
section
variable{X:Cx}{a b:Ð}{ta tb:TE}{pos:Pos}
def zF.or{r r':R2}(h:zF X r)(h':zF X r'):zF X (λx y H Q=>r x y H Q\/r' x y H Q):=by
 intro value slice Ã s V H x y v u Q I rx ry q hs;rcases q with q|q
 ·exact h value slice Ã s V H x y v u Q I rx ry q hs
 ·exact h' value slice Ã s V H x y v u Q I rx ry q hs
def KA{r:R2}(hr:zF X r)(ha:PE X a ta)(hb:PE X b tb)(hs:pS b):PE X (.Subscript a b pos) (Pc r ta tb):=by intro Ã s V H Q I h;exact Subscript_ (Pd ha hb I h λv u s2 x y H2 I2 rx ry q=>hr a b Ã s2 V H2 x y v u Q I2 rx ry q (hs _ _))
def Uc(K:Ñ):R2:=λx y H Q=>∃p xs i v,x=.ref p/\y=.int i/\Ϟ K H p xs/\qe xs i=some v/\Q v H
def Ud(K:Ñ):R2:=λx y H Q=>∃p xs i v,x=.ref p/\y=.int i/\da K H p xs/\qe xs i=some v/\Q v H
def Ue:R2:=λx y H Q=>∃z i c,x=.str z/\y=.int i/\z.length<=sizeLine/\qe z.cps.toList i=some c/\Q (.str ⟨#[c]⟩) H
def IY:zF X (Uc X.K):=by
 intro value slice Ã s V H x y v u Q I rx ry h hs;obtain⟨p,xs,i,z,rfl,rfl,hq,he,q⟩:=h;cases rx;obtain⟨t,rfl⟩:=ry;obtain⟨ċ,r,pl,hz⟩:=I.list hq;obtain⟨j,h1,h2,h3,h4,h5⟩:=vk he;obtain⟨w,ew,O7⟩:=r.get h2;have hl:=r.length;have hn:=lW;have gz:EP X Ã V Q w s:=⟨z,H,I,O7,q⟩;by_cases h0:0<=i
 ·have hj:i.toNat=j:=by
   rw[seqIndex_of h0 h5] at h1;exact ŀ h1
  exact item_listR pl.isList h0 (by lia) (by rw[hj];simpa using ew) gz hs
 ·have hj:(i+(ċ.toArray.size:Int)).toNat=j:=by
   rw[seqIndex_neg (by lia) h4] at h1;rw[Ĥ,<-hl];exact ŀ h1
  exact subscriptTail_builtinR (x:=w) pl.isList.typeIs slot_list_getitem.lookup
   (wpAny_getItem_list_neg (Q:=λr s'=>r=w/\EP X Ã V Q r s') pl.isList (by lia) (by rw[Ĥ]<;>lia) (by lia) (by rw[hj];simpa using ew) ⟨rfl,gz⟩) hs
def Pu:zF X (Ud X.K):=by
 intro value slice Ã s V H x y v u Q I rx ry h hs;obtain⟨p,xs,i,z,rfl,rfl,hq,he,q⟩:=h;cases rx;obtain⟨t,rfl⟩:=ry;obtain⟨ċ,r,pl,hz⟩:=I.tuple hq;obtain⟨j,h1,h2,h3,h4,h5⟩:=vk he;obtain⟨w,ew,O7⟩:=r.get h2;have hl:=r.length;have hn:=lW;have gz:EP X Ã V Q w s:=⟨z,H,I,O7,q⟩;exact subscriptTail_builtinR (x:=w) pl.typeIs slot_tuple_getitem.lookup
  (getItem_tuple (j:=j) (Q:=λr s'=>r=w/\EP X Ã V Q r s') pl (by lia) (by lia) (by rw[Ĥ,<-hl];exact h1) (by simpa using ew) ⟨rfl,gz⟩) hs
def Pw:zF X Ue:=by
 intro value slice Ã s V H x y v u Q I rx ry h hs;obtain⟨z,i,c,rfl,rfl,hz,he,q⟩:=h;obtain⟨t,rfl⟩:=rx;obtain⟨t',rfl⟩:=ry;obtain⟨j,h1,h2,h3,h4,h5⟩:=vk he;have hl:z.cps.toList.length=z.length:=by simp[Str.length]
 rw[hl] at h1 h4 h5;have hn:=lW;exact tail_any (typeIs_str s z t) slot_str_getitem.lookup (getItem_str (c:=c) (by
  have e1:decide (i < -(2 ^ 63:Int))=false:=decide_eq_false (by lia);have e2:decide (i >= 2 ^ 63)=false:=decide_eq_false (by lia);rw[e1,e2,Bool.or_false]) (by rw[h1];simpa using h2) ⟨.str ⟨#[c]⟩,H,I.tok _,⟨_,rfl⟩,q⟩) hs
def rIx(K:Ñ):R2:=λx y H Q=>Uc K x y H Q\/Ud K x y H Q\/Ue x y H Q
def EU:zF X (rIx X.K):=IY.or (Pu.or Pw)
def zG(ċ:List Á)(n j:Nat)(u:Á):bU (·.setIfInBounds j u) {cls:=.type "list",data:=.seq ċ.toArray n}= {cls:=.type "list",data:=.seq (ċ.set j u).toArray n}:=by simp[bU]
theorem Inv.lst{Ã:List (À×Obj)}{V:St}{H:Hp}{s:Å}{p:À}{xs:List Qqj}(I:Inv X Ã V H s)(h:H p=some (.lst xs)) :
 ∃(ċ:List Á) (n:Nat),Ĳ xs ċ/\s.heap.get? p=some {cls:=.type "list",data:=.seq ċ.toArray n}/\xs.length<=sizeLine:=by
 obtain⟨z,ċ,n,r,e⟩:=I.hok p _ h;exact⟨ċ,n,r,e,z⟩
def Inv.Px{Ã:List (À×Obj)}{V:St}{H:Hp}{s:Å}{p:À}{xs ys:List Qqj}{ċ its':List Á}{n n':Nat}{f:Obj->Obj}(I:Inv X Ã V H s)(h:H p=some (.lst xs))
 (ho:s.heap.get? p=some {cls:=.type "list",data:=.seq ċ.toArray n})(hf:f {cls:=.type "list",data:=.seq ċ.toArray n}= {cls:=.type "list",data:=.seq its'.toArray n'})(r:Ĳ ys its')(hz:ys.length<=sizeLine)(t:Nat) :
 Inv X Ã V (upd H p (.lst ys)) {s with heap:=s.heap.update p f,toks:=t}:=by
 have e:(s.heap.update p f).get? p=some {cls:=.type "list",data:=.seq its'.toArray n'}:=by rw[fv f ho (by rw[hf]<;>rfl),hf]
 refine I.write (x:=p) (e:=p) (by rw[h];trivial) (.inl rfl) (λb u hb q=>(iV _ _ (ĥ hb)).trans q) ⟨_,e⟩ ?_;exact⟨hz,its',n',r,e⟩
def Uf:Qqj->Qqj->Qqj->Hp->(Hp->Prop)->Prop:=λo i v H Q=>∃p xs k j,o=.ref p/\i=.int k/\H p=some (.lst xs)/\zE xs.length k=some j/\Q (upd H p (.lst (xs.set j v)))
def HZ:TX X Uf:=by
 intro Ã s V H o i v ov iv u Q I ro ri rv h;obtain⟨p,xs,k,j,rfl,rfl,hp,hj,q⟩:=h;cases ro;obtain⟨t,rfl⟩:=ri;obtain⟨ċ,n,r,ho,hz⟩:=I.lst hp;obtain⟨h1,h2,h3,h4⟩:=Cc hj;have hl:=r.length;have hn:=lW;have I':Inv X Ã V (upd H p (.lst (xs.set j v))) {s with heap:=s.heap.update p (bU (·.setIfInBounds j u))}:=
  I.Px hp ho (zG ċ n j u) (r.set rv j) (by rw[List.length_set];exact hz) s.toks
 by_cases h0:0<=k
 ·have hk:k.toNat=j:=by
   rw[seqIndex_of h0 h4] at h1;exact ŀ h1
  exact PySem.W.ki_setAt ho h0 (by lia) (by rw[Ĥ,<-hl];exact h4) (by rw[hk];exact⟨_,I',q⟩)
 ·have hk:(k+(ċ.toArray.size:Int)).toNat=j:=by
   rw[seqIndex_neg (by lia) h3] at h1;rw[Ĥ,<-hl];exact ŀ h1
  exact PySem.W.ki_setBack ho (by lia) (by rw[Ĥ,<-hl];exact h3) (by lia) (by rw[hk];exact⟨_,I',q⟩)
def vm(lo hi:Option Int)(n:Nat):(fm lo hi none n).1=((HT.jR n 0 lo:Nat):Int)/\(fm lo hi none n).2.1=((HT.jR n n hi:Nat):Int)/\(fm lo hi none n).2.2=1:=by
 refine⟨?_,?_,rfl⟩
 ·cases lo with
  |none=>simp[fm,HT.jR]
  |some i=>
   simp only[fm,HT.jR,Option.getD_none,show(1:Int)>0 by decide,if_true];by_cases h:i<0
   ·simp only[h,if_true]<;>lia
   ·simp only[h,if_false]<;>lia
 ·cases hi with
  |none=>simp[fm,HT.jR]
  |some i=>
   simp only[fm,HT.jR,Option.getD_none,show(1:Int)>0 by decide,if_true];by_cases h:i<0
   ·simp only[h,if_true]<;>lia
   ·simp only[h,if_false]<;>lia
def sf(ċ:List Á)(lo hi:Option Int):slicePick ċ.toArray lo hi none=((ċ.drop (HT.jR ċ.length 0 lo)).take (HT.jR ċ.length ċ.length hi-HT.jR ċ.length 0 lo)).toArray:=by obtain⟨h1,h2,h3⟩:=vm lo hi ċ.toArray.size;unfold slicePick;rw[h1,h2,h3];simp only[sliceRange_one,pick_run,Ĥ]<;>rfl
def YH(K:Ñ):Qqj->Option Int->Option Int->Hp->VK->Prop:=λx lo hi H Q=>∃a xs,x=.ref a/\Ϟ K H a xs/\∀p,H p=none->Q (.ref p) (upd H p (.lst (xw xs lo hi)))
def IZ:Cb X (YH X.K):=by intro Ã s V H x v vl vu lo hi sl Q I rx hs pl pu h;obtain⟨a,xs,rfl,hx,q⟩:=h;cases rx;obtain⟨ċ,r,ht,hz⟩:=I.list hx;have hlen:=r.length;refine⟨"list",_,slot_list_getitem.lookup,ht.isList.typeIs,?_⟩;refine wpAny_getItem_list_slice ht.isList hs pl pu .none (by simp) ?_ (by rw[Ĥ]<;>lia);rw[sf,<-hlen];refine⟨.ref s.heap.objs.size,_,I.laid (t':=s.toks) (o:=.lst (xw xs lo hi)) (λb ob q=>ï _ q) (õ _) ?_,rfl,q _ (I.hok.fresh (õ _))⟩;exact⟨Ĺ (xy xs lo hi) hz,_,0,(r.drop (HT.jR xs.length 0 lo)).take (HT.jR xs.length xs.length hi-HT.jR xs.length 0 lo),Ħ _ rfl⟩
def vn:ϔ X (.type "list") (λxs H Q=>∃p ys,xs=[.ref p]/\(Ϟ X.K H p ys\/da X.K H p ys)/\∀l,H l=none->Q (.ref l) (upd H l (.lst ys))):=by
 intro Ã s V H xs us Q I r h;obtain⟨p,ys,rfl,hq,q⟩:=h;obtain⟨u,rfl,rx⟩:=vals1 r;cases rx;have gz:∀(ċ:List Á),Ĳ ys ċ->ys.length<=sizeLine->∀(h':Õ) (c':Nat),(∀b o',s.heap.get? b=some o'->h'.get? b=some o')->
  h'.get? s.heap.objs.size=some {cls:=.type "list",dict:=none,data:=.seq ċ.toArray c',slots:=#[]}->EP X Ã V Q (.ref s.heap.objs.size) {s with heap:=h'}:=λċ r' hz h' c' kp e=>
  ⟨.ref s.heap.objs.size,_,I.laid (t':=s.toks) kp (õ _) (show ϓ X.prog X.w _ h' _ (.lst ys) from⟨hz,ċ,c',r',e⟩),rfl,q _ (I.hok.fresh (õ _))⟩
 rcases hq with hq|hq
 ·obtain⟨ċ,r',pl,hz⟩:=I.list hq;have hlen:=r'.length;obtain⟨o,ho,hc,n,hd⟩:=pl.isList;exact call_list_seq p (.inl rfl) ho hc hd (λh' c' kp e=>gz ċ r' hz h' c' kp e) (by simp only[Ĥ]<;>lia)
 ·obtain⟨ċ,r',pl,hz⟩:=I.tuple hq;have hlen:=r'.length;obtain⟨o,ho,hc,n,hd⟩:=pl;exact call_list_seq p (.inr rfl) ho hc hd (λh' c' kp e=>gz ċ r' hz h' c' kp e) (by simp only[Ĥ]<;>lia)
def sg:ϔ X (.type "tuple") (λxs H Q=>∃p ys,xs=[.ref p]/\((Ϟ X.K H p ys/\∀l,H l=none->Q (.ref l) (upd H l (.tup ys)))\/(da X.K H p ys/\Q (.ref p) H))):=by
 intro Ã s V H xs us Q I r h;obtain⟨p,ys,rfl,h⟩:=h;obtain⟨u,rfl,rx⟩:=vals1 r;cases rx;rcases h with⟨hq,q⟩|⟨hq,q⟩
 ·obtain⟨ċ,r',pl,hz⟩:=I.list hq;have hlen:=r'.length;refine call_tuple_list pl.isList (λh' kp=>?_) (by simp only[Ĥ]<;>lia);have I1:Inv X Ã V H {s with heap:=h'}:=I.kept (t':=s.toks) kp;have I2:Inv X Ã V (upd H h'.objs.size (.tup ys)) {s with heap:=h'.push {cls:=.type "tuple",data:=.seq ċ.toArray}}:=
   I1.laid (t':=s.toks) (λb o e=>ï _ e) (õ _) (show ϓ X.prog X.w _ _ _ (.tup ys) from⟨hz,ċ,r',IsTup.new _ _⟩)
  exact⟨.ref h'.objs.size,_,I2,rfl,q _ (I1.hok.fresh (õ _))⟩
 ·obtain⟨ċ,r',pl,hz⟩:=I.tuple hq;exact call_tuple_same pl ⟨.ref p,H,I,rfl,q⟩
def tyV(K:Ñ)(T:String)(x:Qqj)(H:Hp):Prop:=match x with
 | .str _=>T= "str"
 | .int _=>T= "int"
 | .ref p=>(T= "list" ∧∃xs,Ϟ K H p xs)∨(T= "tuple" ∧∃o,K.lookup p=some o∧o.cls=.type "tuple" ∧o.dict=none)∨
     (T= "dict" /\((∃eZ,H p=some (.dK eZ))\/∃eZ,H p=some (.dT eZ)))\/(T= "set" /\∃S n,H p=some (.set S n))
 |_=>False
def Py{Ã:List (À×Obj)}{V:St}{H:Hp}{s:Å}{T:String}{x:Qqj}{v:Á}(I:Inv X Ã V H s)(r:RelV x v)(ty:tyV X.K T x H) :
 s.TypeIs v T/\∀a,v=.ref a->∃ob,s.heap.get? a=some ob/\ob.dict=none:=by
 cases x with
 |str z=>obtain⟨t,rfl⟩:=r;cases(show T= "str" from ty);exact⟨typeIs_str s z t,λ_ e=>nomatch e⟩
 |int i=>obtain⟨t,rfl⟩:=r;cases(show T= "int" from ty);exact⟨typeIs_int s i t,λ_ e=>nomatch e⟩
 |ref p=>
  cases r;rcases ty with⟨rfl,xs,hq⟩|⟨rfl,o,hk,hc,hd⟩|⟨rfl,hk⟩|⟨rfl,S,n,hk⟩
  ·obtain⟨ċ,_,pl,_⟩:=I.list hq;refine⟨pl.isList.typeIs,λa e=>?_⟩;cases e;obtain⟨o,n,e,c,hd,_⟩:=pl;exact⟨o,e,hd⟩
  ·refine⟨⟨o,I.eY p o hk,hc⟩,λa e=>?_⟩;cases e;exact⟨o,I.eY _ o hk,hd⟩
  ·have z:∃o,s.heap.get? p=some o∧o.ExactDict:=by
    rcases hk with⟨eZ,hk⟩|⟨eZ,hk⟩
    ·obtain⟨_,_,_,_,o,_,_,e,ex,_⟩:=I.hok p _ hk;exact⟨o,e,ex⟩
    ·obtain⟨_,_,_,_,o,_,_,e,ex,_⟩:=I.hok p _ hk;exact⟨o,e,ex⟩
   obtain⟨o,e,ex⟩:=z;refine⟨⟨o,e,ex.1⟩,λa e2=>?_⟩;cases e2;exact⟨o,e,ex.2.1⟩
  ·obtain⟨o,_,_,_,e,ex,_⟩:=I.hok p _ hk;refine⟨⟨o,e,ex.1⟩,λa e2=>?_⟩;cases e2;exact⟨o,e,ex.2.1⟩
 |_=>exact Š ty
def W_(K:Ñ)(T:String)(r:Qqj->List Qqj->Hp->VK->Prop)(to:TE)(t:TA):TE:=λV H Q=>to V H λx H1=>tyV K T x H1/\t V H1 λxs H2=>r x xs H2 Q
variable{o e:Ð}{es:List Ð}{to:TE}{t:TA}{name:Str}{sy jp:Pos}{T id:String}{r:Qqj->List Qqj->Hp->VK->Prop}
def ce(pa:PlainAttrs T)(slot:Slot T name id)(jP:typeOf (.builtin id)=ö (.type "method_descriptor"))(hm:MtR X id r)(ho:PE X o to)(ha:PA X (e::es) t)
 (Wn:kB o name X.env (Ý o X.env)=Ý o X.env:=by rfl)
 (Zbd:((Ŭ jp (å (e::es) X.env)).all (fun x=>!x.1) && (backToKw jp (keywordEach [] X.env)).all (fun x=>x.1.isSome)
   && decide ((e::es).length+([]:List Keyword).length+(if([]:List Keyword).isEmpty then 0 else 1)<30))=true:=by rfl)
 (Wo:(sy.endLine== jp.line)=true:=by rfl)(hs:å (e::es) X.env=(false,Ý e X.env)::å es X.env:=by rfl)(SD:(Ŭ jp (å es X.env)).any (·.1)=false:=by rfl) :
 PE X (.Call (.Attribute o name sy) (e::es) [] jp) (W_ X.K T r to t):=by
 intro Ã s V H Q I h;refine wpAny_Call_method_late Wn Zbd Wo rfl (Ų (ho Ã s V H _ I h) λv s1 ⟨x,H1,I1,r1,ty,q1⟩=>?_);obtain⟨h1,h2⟩:=Py I1 r1 ty;refine⟨T,id,pa,slot,jP,h1,h2,?_⟩;have hA:=ha jp Ã s1 V H1 _ I1 q1;rw[hs] at hA ⊢;refine Calls.callWith_builtin (by show(false || (Ŭ jp (å es X.env)).any (·.1))=false;rw[SD]<;>rfl) (Calls.evalArgs_plain ?_);exact Ų hA λus s2 ⟨vs,H2,I2,r2,q2⟩=>hm Ã s2 V H2 x vs v us Q I2 r1 r2 q2
end
def MtM(X:Cx)(id:String)(r:Qqj->List Qqj->Hp->VK->Prop):Prop:=
 ∀(Ã:List (À×Obj)) (s:Å) (V:St) (H:Hp) (x:Qqj) (xs:List Qqj) (v:Á) (us:List Á) (Q:VK),Inv X Ã V H s->RelV x v->Ĳ xs us->r x xs H Q->
  Î (Ó X.prog X.w) X.A (call (.builtin id) (v::us)) (EP X Ã V Q) X.xe s
theorem Ĳ.one:∀{x:Qqj} {us:List Á},Ĳ [x] us->∃u,us=[u]/\RelV x u
 |_,_,.cons r .nil=>⟨_,rfl,r⟩
theorem Ĳ.rep{xs:List Qqj}{us:List Á}(h:Ĳ xs us):∀k:Nat,Ĳ (Ï k xs).flatten (Ï k us).flatten
 |0=>.nil
 |k+1=>by rw[cy,cy,fc,fc];exact Ĳ.append h (Ĳ.rep h k)
theorem foldl_rep(ċ:List Á):∀(k:Nat) (ď:List Á),
 List.foldl (λx1 x2=>x1++x2) ď.toArray (Ï k ċ.toArray)=(ď++(Ï k ċ).flatten).toArray
 |0,ď=>by simp
 |k+1,ď=>by
  have e:ď.toArray++ċ.toArray=(ď++ċ).toArray:=by simp
  have e2:(ď++ċ)++(Ï k ċ).flatten=ď++(Ï (k+1) ċ).flatten:=by rw[cy,fc,bO]
  rw[<-e2,<-foldl_rep ċ k (ď++ċ),<-e,cy,aC]
section
variable{X:Cx}{Ã:List (À×Obj)}{V:St}{H:Hp}{s:Å}{l:À}{xs ys:List Qqj}
def Inv.Ug{ċ its':List Á}{n:Nat}{f:Array Á->Array Á}{t':Nat}(I:Inv X Ã V H s)(hH:H l=some (.lst xs))
 (e:s.heap.get? l=some {cls:=.type "list",data:=.seq ċ.toArray n})(hf:f ċ.toArray=its'.toArray)(hv:Ĳ ys its')(hz:ys.length<=sizeLine) :
 Inv X Ã V (upd H l (.lst ys)) {s with heap:=s.heap.update l (bU f),toks:=t'}:=by
 have q:=PySem.IsL.update e f;rw[hf] at q;refine I.write (x:=l) (e:=l) (by rw[hH];exact trivial) (.inl rfl) (λb' u hb hu=>(iV s.heap (bU f) (ĥ hb)).trans hu) ⟨_,q⟩ ?_;exact⟨hz,its',_,hv,q⟩
def Inv.Uh{ċ:List Á}{t':Nat}(I:Inv X Ã V H s)(hv:Ĳ ys ċ)(hz:ys.length<=sizeLine) :
 Inv X Ã V (upd H s.heap.objs.size (.lst ys)) {s with heap:=s.heap.push {cls:=.type "list",data:=.seq ċ.toArray},toks:=t'}:=
 I.laid (λ_ _ q=>ï _ q) (õ _) ⟨hz,ċ,0,hv,Ħ _ rfl⟩
theorem Inv.fresh(I:Inv X Ã V H s):H s.heap.objs.size=none:=I.hok.fresh (õ _)
def Inv.I_(I:Inv X Ã V H s)(hH:H l=some (.lst xs)):xs.length<=sizeLine/\∃(ċ:List Á) (n:Nat),Ĳ xs ċ/\xs.length=ċ.length/\s.heap.get? l=some {cls:=.type "list",data:=.seq ċ.toArray n}:=by obtain⟨z,ċ,n,r,e⟩:=I.hok l _ hH;exact⟨z,ċ,n,r,r.length,e⟩
def xz{n:Nat}(h:n<=sizeLine):pz n=false:=by unfold pz;exact decide_eq_false (by lia)
end
section
variable{X:Cx}
def vo:Qqj->List Qqj->Hp->VK->Prop:=λx vs H Q=>∃l xs y,x=.ref l/\vs=[y]/\H l=some (.lst xs)/\xs.length<sizeLine/\Q .non (upd H l (.lst (xs ++ [y])))
def ŗ:MtM X "list.append" vo:=by intro Ã s V H x vs v us Q I rx rv h;obtain⟨l,xs,y,rfl,rfl,hH,hz,q⟩:=h;cases rx;obtain⟨u,rfl,ru⟩:=rv.one;obtain⟨z,ċ,n,r,hl,e⟩:=I.I_ hH;refine pf Ϯ ⟨_,e,rfl⟩ F.entry_list_append (F.args_list_append_2 _ _) (PySem.list_append l ċ.toArray n u (by rw[Ĥ];lia)) ⟨e,?_⟩;refine⟨.non,_,I.Ug (its':=ċ ++ [u]) hH e (by simp) (r.append (.cons ru .nil)) ?_,rfl,q⟩;rw[ϩ,List.length_singleton];lia
def Cd:Qqj->List Qqj->Hp->VK->Prop:=λx vs H Q=>∃l b xs zs,x=.ref l/\vs=[.ref b]/\H l=some (.lst xs)/\H b=some (.lst zs)/\xs.length+zs.length<=sizeLine/\Q .non (upd H l (.lst (xs++zs)))
def i_:MtM X "list.extend" Cd:=by
 intro Ã s V H x vs v us Q I rx rv h;obtain⟨l,b,xs,zs,rfl,rfl,hH,hB,hz,q⟩:=h;cases rx;obtain⟨u,rfl,ru⟩:=rv.one;cases ru;obtain⟨z,ċ,n,r,hl,e⟩:=I.I_ hH;obtain⟨z2,eV,n2,r2,Es,e2⟩:=I.I_ hB;have jO:ċ.toArray.size+eV.toArray.size<=sizeLine:=by rw[Ĥ,Ĥ];lia
 have EV:¬(!ċ.toArray.isEmpty && pz (ċ.toArray.size+eV.toArray.size))=true:=by rw[xz jO,Bool.and_false];exact ϥ
 refine pf kL ⟨_,e,rfl⟩ F.entry_list_extend (F.args_list_extend_2 _ _)
  (AutoSeq1.list_extend_list_list_0 l ċ.toArray n b eV.toArray n2 EV (by rw[Ĥ];lia) (by lia)) ⟨e,e2,?_⟩
 refine⟨.non,_,I.Ug (its':=ċ++eV) hH e (by simp) (r.append r2) ?_,rfl,q⟩;rw[ϩ];lia
def YI:R2:=λx y H Q=>∃l k xs,x=.ref l/\y=.int k/\H l=some (.lst xs)/\ -(2 ^ 63)<=k/\k<2 ^ 63/\xs.length*k.toNat<=sizeLine/\
 ∀p,H p=none->Q (.ref p) (upd H p (.lst (Ï k.toNat xs).flatten))
def Kj{α:Type}(xs:List α)(k:Nat):(Ï k xs).flatten.length=k*xs.length:=by
 induction k with
 |zero=>simp
 |succ k ih=>rw[cy,fc,ϩ,ih,uo,oS]
def Pz:ϲ X (Ł .Mult) YI:=by
 intro Ã s V H x y v u Q I rx ry h;obtain⟨l,k,xs,rfl,rfl,hH,h1,h2,hz,q⟩:=h;cases rx;obtain⟨t,rfl⟩:=ry;obtain⟨z,ċ,n,r,hl,e⟩:=I.I_ hH;have hlen:ċ.toArray.size*k.toNat<=sizeLine:=by rw[Ĥ,<-hl];exact hz
 have hcap:¬ċ.toArray.size*k.toNat>(2 ^ 63-1) / 8:=by
  have:(sizeLine:Nat)<=(2 ^ 63-1) / 8:=by decide
  lia
 have Zbe:¬(!Builtin.List.listFitsIndex k)=true:=by rw[fitsIndex_both h1 h2];exact ϥ
 have EV:¬pz (ċ.toArray.size*k.toNat)=true:=by rw[xz hlen];exact ϥ
 have zb:List.foldl (λx1 x2=>x1++x2) #[] (Ï (if ċ.toArray.isEmpty=true then 0 else k.toNat) ċ.toArray)=(Ï k.toNat ċ).flatten.toArray:=by
  have f0:∀m:Nat,List.foldl (λx1 x2=>x1++x2) #[] (Ï m ċ.toArray)=(Ï m ċ).flatten.toArray:=λm=>by have:=foldl_rep ċ m [];rw[Ś] at this;exact this
  rw[f0];cases ċ with
  |nil=>simp
  |cons a r'=>rw[if_neg (by simp)]
 refine wpAny_binaryOp_repeat_ref (T:= "list") (U:= "int") (by decide) ⟨_,e,rfl⟩ (λs'=>typeIs_int s' k t) noFill_list_mul F.fills_int_mul F.slot_int_rmul repeat_list F.slot_int_index.lookup
  (pf F.slot_int_rmul (typeIs_int s k t) F.entry_int_rmul (F.args_int_rmul_2 _ _) (int___rmul___int_list k t l ċ.toArray n)
    ⟨e,rfl,⟨_,e,rfl⟩,pf F.slot_list_mul ⟨_,e,rfl⟩ F.entry_list_mul (F.args_list_mul_2 _ _) (AutoListH.list___mul___list_int_3 l ċ.toArray n k t Zbe hcap EV) ⟨e,?_⟩⟩)
 rw[zb];exact⟨.ref _,_,I.Uh (t':=s.toks) (r.rep k.toNat) (by rw[Kj,Nat.mul_comm];exact hz),rfl,q _ I.fresh⟩
end
section
end
section
end
end L2
namespace Att
open PySem PySem.W PySem.Calls PyProof.Rows
def nM{P:Params}{h:Õ}:∀(ns:List Int) (vs:List Á),WellAll P h vs (ns.map WData.int)->iI vs ns:=by
 intro ns
 induction ns with
 |nil=>intro vs w;rw[be] at w;cases w;exact .nil
 |cons n ns ih=>
  intro vs w;rw[ý] at w;cases w with
  |cons a b=>cases a;exact .cons _ _ (ih _ b)
def DD{l:fA}{n:Nat}(hn:l.most=some n){P:Params}{h:Õ}{args:List WData}{SE:List Á}
 (A5:l.row.toRowW.claim.pre args=true)(hwl:WellAll P h SE args) :
 ∃a vs ns,SE=[ē a]/\args=[WData.list (ns.map WData.int)]/\h.get? a=some {cls:=.type "list",data:=.seq vs.toArray}/\iI vs ns/\ns.length<=n:=by
 have hsh:WShape.hasAll [] args [.list .int]=true:=(pre_splitW A5).1;have hc:l.pre.holds [] {args:=args}=true:=(pre_splitW A5).2;obtain⟨d,r,rfl,h1,h2⟩:=hasAllW_cons hsh;obtain rfl:=hasAllW_nil h2;obtain⟨xs,rfl,h3⟩:=hasW_list h1;obtain⟨ns,rfl⟩:=items_int h3;have hlen:ns.length<=n:=by
  unfold OpenLaw.pre at hc;have h4:(WTm.not (.lt (.lit (.int (n:Int))) (.len (.arg 0)))).holds [] {args:=[.list (ns.map .int)]}=true:=by have h4:=(holds_andW hc).1;rw[hn] at h4;exact h4
  have h5:=condW_of h4 (w_not (w_lt w_lit (w_len_list (w_arg rfl))));rw[ř] at h5;refine ur λq=>?_;have q':(n:Int)<((ns.length:Nat):Int):=by lia
  first
   |(rw[decide_eq_true q'] at h5;exact absurd h5 (by decide))
   |(simp at h5;lia)
 cases hwl with
 |cons w1 w2=>
  cases w2;cases w1 with
  |list ho hall=>exact⟨_,_,ns,rfl,rfl,ho,nM ns _ hall,hlen⟩
def DE(l:fA)(args:List WData):l.row.toRowW.claim.post args (.bool true) args=true:=
 postW_of (r:=l.row.toRowW) (X:=(true== true))
  (show WShape.has [] (.bool true) .bool=true by first|rfl|decide|simp[WShape.has,WShape.arms,WShape.armsAll])
  (show(WTm.eq .res (.lit (.bool true))).value [] {args:=args,res:=some (.bool true),after:=args}=some (.bool (true== true)) from w_eq_bool (w_res rfl) w_lit) rfl
def xA{l:fA}{n:Nat}{q:î}{jE:List Str}{XP:(Str->Option Á)->Õ->Prop}{YP:ß->Õ->Prop}{d:DefRec}
 (hn:l.most=some n)(SG:d.params.defaults=[])
 (call:∀(w:ß) (s₀ s₁:Å) (mg mb:Str→Option Á) (fa:À) (o:Obj) (pm cd iu:Á) (a:À) (vs:List Á) (ns:List Int),
   Ground q jE [] XP w s₀ mg mb s₁.heap->YP w s₁.heap->
   s₁.heap.get? fa=some o->o.data=.func (docDef d.name d.params d.body d.scope pm cd iu)->s₁.heap.CodeRec cd d.name->mg d.name=some (.ref fa)->
   s₁.heap.get? a=some {cls:=.type "list",data:=.seq vs.toArray}->iI vs ns->ns.length<=n->s₁.gens= #[]->
   Ϛ (Ó l.prog w) dD (.call (.ref fa) ⟨[.ref a],[]⟩) (λr s'=>r=.ok (.ret (.bool true))/\OldK s₁.heap s'.heap/\s'.os=s₁.os/\bQ s'.gens) s₁) :
 pK q jE XP YP l.row.toRowW d [] (λf vs=>ph f vs):=by
 intro w s₀ s₁ mg mb G Qqq fa o pm cd iu dV kV ho hd et hD Wp hg args SE as A5 ZbI hrd hwl hlo;obtain rfl:dV=.none:=Dflts.none hD SG;obtain rfl:kV=.none:=Dflts.noKw hD;obtain⟨a,vs,ns,rfl,rfl,SH,H_,hlen⟩:=DD hn A5 hwl;refine enter_call (iL (call w s₀ s₁ mg mb fa o pm cd iu a vs ns G Qqq ho (fd_plain hd) et Wp SH H_ hlen hg) λr s' hq=>?_);obtain⟨rfl,h2,h3,h4⟩:=hq;exact⟨.inl ⟨.bool true,.bool true,[],rfl,λ_=>rfl,.bool true,DE l _,λ_=>⟨Br,λ_ hm=>(nomatch hm)⟩⟩,h2,h3,h4⟩
section
end
end Att
namespace L2
open PySem PySem.Spec PyProof.Rows
theorem aQ:∀{vs:List Á} {ns:List Int},iI vs ns->Ĳ (ns.map Qqj.int) vs
 |_,_,.nil=>.nil
 |_,_,.cons n t h=>.cons ⟨t,rfl⟩ (aQ h)
def SI(H:Hp):Prop:=∀b,H b=none\/(∃o xs,H b=some (.dY o (.lst xs)))\/∃q,H b=some (.gK q)
noncomputable def gO(K:Ñ):List Str->Hp
 | []=>λ_=>none
 |y::r=>λb=>match Ů K y with
  |some (_,P)=>if b=P then some (.gK (cQ y)) else gO K r b
  |none=>gO K r b
theorem dL{K:Ñ}:∀{l:List Str} {b:À} {u:HO},gO K l b=some u->∃y c,y∈l/\Ů K y=some (c,b)/\u=.gK (cQ y)
 | [],_,_,h=>by cases(show(none:Option HO)=some _ from h)
 |y::r,b,u,h=>by
  have h':(match Ů K y with
   |some (_,P)=>if b=P then some (.gK (cQ y)) else gO K r b
   |none=>gO K r b)=some u:=h
  have rc:gO K r b=some u->∃z c,z∈y::r/\Ů K z=some (c,b)/\u=.gK (cQ z):=λq=>
   let ⟨z,c,h1,h2,h3⟩:=dL q
   ⟨z,c,Ă _ h1,h2,h3⟩
  cases e:Ů K y with
  |none=>rw[e] at h';exact rc h'
  |some p=>
   obtain⟨c,P⟩:=p;rw[e] at h';have h2:(if b=P then some (HO.gK (cQ y)) else gO K r b)=some u:=h';by_cases hb:b=P
   ·rw[if_pos hb] at h2;cases h2;exact⟨y,c,ĭ,by rw[hb];exact e,rfl⟩
   ·rw[if_neg hb] at h2;exact rc h2
theorem Ce{K:Ñ}{y:Str}{c P:À}(e:Ů K y=some (c,P)):∀{l:List Str},(∀z∈l,z=y)->y∈l->gO K l P=some (.gK (cQ y))
 | [],_,h=>by cases h
 |z::r,h1,_=>by
  have hz:=h1 z ĭ;subst hz;show(match Ů K z with
   |some (_,Q)=>if P=Q then some (HO.gK (cQ z)) else gO K r P
   |none=>gO K r P)=_
  rw[e];exact if_pos rfl
def EW{P:î}{w:ß}{K:Ñ}{mg mb:Str->Option Á}{CX:nh}{k:Nat}{fa a:À}{fd:ě}{x:Str}{sp:Sp}{s₁:Å}{vs:List Á}{ns:List Int}
 (KX:K.In s₁.heap)(lR:s₁.heap.Ns ū mg)(hb:s₁.heap.Ns builtinsNs mb)(hbb:∀x:Str,x≠ "__name__" ->mb x=bg x)(Zbf:s₁.heap.NoLimit)(hg:s₁.gens= #[])
 (ha:s₁.heap.get? a=some {cls:=.type "list",data:=.seq vs.toArray})(hi:iI vs ns)(hl:ns.length<=sizeLine)(hr:Ϗ k dD)
 (F:∀base:Õ,K.In base->base.Ns ū mg->Ĉ P w K mg base CX k fa fd [x] sp)(rP:∀(s:Å) (u:Á),dB s fd ⟨[u],[]⟩ [(x,u)])
 (zo:∀H:Hp,SI H->Ϟ K H a (ns.map Qqj.int)->sp [.ref a] H (λv _=>v=.bl true) λ_ _ _=>False)
 (YJ:∀H e s',CX [] H s₁ (λ_ _ _=>False) e s'->False)
 (hnt:lams≠[]->pL K=true)(Ed:∀y z,y∈lams->z∈lams->y=z)(wV:∀y c Pt,y∈lams->Ů K y=some (c,Pt)->uS s₁.heap c Pt/\s₁.heap.get? Pt=some (PySem.W.tabObj #[])/\s₁.heap.BuiltinsAt mg Pt) :
 Ϛ (Ó P w) dD (.call (.ref fa) ⟨[.ref a],[]⟩) (λr s'=>r=.ok (.ret (.bool true))/\OldK s₁.heap s'.heap/\s'.os=s₁.os/\bQ s'.gens) s₁:= by
 have rv:=aQ hi;have Zbg:=hi.length;have Wq:∀H:Hp,SI H->Ϟ K H a (ns.map Qqj.int)->eD P w H s₁.heap->(∀b,H b≠none->b=a\/∃y c,y∈lams/\Ů K y=some (c,b))->(H a≠none->K.lookup a=none)->(∀y c Pt,y∈lams->Ů K y=some (c,Pt)->H Pt=some (.gK (cQ y)))->
  Ϛ (Ó P w) dD (.call (.ref fa) ⟨[.ref a],[]⟩) (λr s'=>r=.ok (.ret (.bool true))/\OldK s₁.heap s'.heap/\s'.os=s₁.os/\bQ s'.gens) s₁:= by
  intro H hO hS hok hA hK hT;have pT:∀{b:À} {o:Obj},s₁.heap.get? b=some o->H b=none->(r_ s₁.heap H).get? b=some o:=λe n=>Ew e n;have Ub:∀{b:À} {o:Obj} {es:Array DictEntry} {ep:Nat},s₁.heap.get? b=some o->o.data=.dict es ep->H b=none:=fun{b o es ep} e d=>by
   cases q:H b with
   |none=>rfl
   |some u=>
    rcases hA b (by rw[q];simp) with e'|⟨y,c,hy,jP⟩
    ·subst e';rw[ha] at e;cases e;have d':Data.seq vs.toArray _=Data.dict es ep:=d;cases d'
    ·have e2:=(wV y c b hy jP).2.1;rw[e] at e2;cases e2;cases d
  have W0:∀{b:À} {m:Str->Option Á},s₁.heap.Ns b m->(r_ s₁.heap H).Ns b m:=fun{b m} ⟨o,es,ep,e,d,r⟩=>⟨o,es,ep,pT e (Ub e d),d,r⟩;have hKb:K.In (r_ s₁.heap H):=λb o e=>pT (KX b o e) (by
   cases q:H b with
   |none=>rfl
   |some u=>
    rcases hA b (by rw[q];simp) with e'|⟨y,c,hy,jP⟩
    ·subst e';rw[hK (by rw[q];simp)] at e;cases e
    ·have e2:=(wV y c b hy jP).2.1;rw[KX b o e] at e2;cases e2;have h2:=fe.mp (hnt (λz=>by rw[z] at hy;cases hy)) (b,_) (PySem.W.mem_of_lookupK e);exact absurd (show false=true from h2) ϥ)
  have hM:Mod K mg (r_ s₁.heap H):=⟨hKb,W0 lR,⟨mb,W0 hb,hbb⟩,let ⟨mc,h1,h2⟩:=Zbf;⟨mc,W0 h1,h2⟩⟩;have hTB:wT K mg (r_ s₁.heap H) H:=λy c Pt hy jP=>by
   obtain⟨⟨o,us,file,tf,OC,tg,inF,Wr,tt,e1,r1,r2⟩,_,bm,ob,b1,b2,b3,b4,b5,b6,b7⟩:=wV y c Pt hy jP;refine⟨⟨o,us,file,tf,OC,tg,inF,Wr,tt,pT e1 ?_,r1,r2⟩,hT y c Pt hy jP,bm,ob,b1,b2,b3,b4,pT b5 ?_,b6,b7⟩
   rotate_left
   ·cases q:H bm with
    |none=>rfl
    |some u=>
     rcases hA bm (by rw[q];simp) with e'|⟨z,c2,hz,YK⟩
     ·rw[e',ha] at b5;cases b5;exact absurd (kQ b6) (by decide)
     ·have e2:=(wV z c2 bm hz YK).2.1;rw[b5] at e2;cases e2;cases b6
   cases q:H c with
   |none=>rfl
   |some u=>
    rcases hA c (by rw[q];simp) with e'|⟨z,c2,hz,YK⟩
    ·rw[e',ha] at e1;cases e1;exact absurd (kQ r1) (by decide)
    ·have e2:=(wV z c2 c hz YK).2.1;rw[e1] at e2;cases e2;cases r1
  have e0:zD P w K mg (r_ s₁.heap H) dD [] s₁ H:=⟨rfl,hM,λb o e=>IF e,um (Dv _ _),trivial,λb hb=>absurd (show b∈([]:List À) from hb) (by simp),hok,.of_eq hg,hTB⟩;refine iL ((F _ hKb (W0 lR)).run dD [] s₁ H ⟨[.ref a],[]⟩ [.ref a] [.ref a] _ _ hr e0 (rP s₁ (.ref a)) (.cons rfl .nil) (zo H hO hS)) λr s' h=>?_;cases r with
  |error e=>exact(YJ H e s' h).elim
  |ok fl=>
   cases fl with
   |next=>exact Š h
   |brk=>exact Š h
   |cont=>exact Š h
   |ret u=>
    obtain⟨v,H',os,bare,un,SJ,r',q⟩:=h;have q':v=.bl true:=q;subst q';obtain rfl:u=am true:=r';have pZ:∀b o,s₁.heap.get? b=some o->(∀t,H b≠some (.gK t))->s'.heap.get? b=some o:=?_
    ·refine⟨rfl,⟨λb o e=>?_,λb o e=>?_⟩,os,bare⟩
     ·by_cases ht:∃t,H b=some (.gK t)
      ·obtain⟨t,ht⟩:=ht;obtain⟨ps,e1,_⟩:=SJ b _ (un.dZ b t ht);rcases hA b (by rw[ht];simp) with e'|⟨y,c,hy,jP⟩
       ·subst e';obtain⟨ps2,e3,_⟩:=hok b _ ht;rw[ha] at e3;cases e3
       ·obtain⟨⟨o2,us,file,tf,OC,tg,inF,Wr,tt,f1,f2,f3,f4,_⟩,e2,_⟩:=wV y c b hy jP;rw[e] at e2;cases e2;exact .inr (.inl ⟨⟨c,o2,us,f1,f2,f3,f4⟩,rfl,#[],ps,rfl,by rw[e1];simp⟩)
      ·exact .inl (pZ b o e λt z=>ht ⟨t,z⟩)
     ·by_cases ht:∃t,H b=some (.gK t)
      ·obtain⟨t,ht⟩:=ht;obtain⟨ps,e1,_⟩:=SJ b _ (un.dZ b t ht);exact⟨_,e1⟩
      ·exact⟨o,pZ b o e λt z=>ht ⟨t,z⟩⟩
    intro b o e nt;cases q:H b with
    |none=>exact un.keep b o e q (by intro z;exact absurd (show b∈([]:List À) from z) (by simp)) (by simp)
    |some u=>
     rcases hO b with z|⟨ob,xs,z⟩|⟨t,z⟩
     ·rw[q] at z;cases z
     rotate_left
     ·exact absurd z (nt t)
     ·have z2:=un.fG b ob _ z;obtain⟨e1,_⟩:=hok b _ z;obtain⟨e2,_⟩:=SJ b _ z2;rw[e] at e1;cases e1;exact e2
 cases hk:K.lookup a with
 |some o=>
  have e:=KX a o hk;rw[ha] at e;cases e;refine Wq (gO K lams) (λb=>?_) (.inr ⟨_,vs.toArray,_,hk,rfl,rfl,rfl,by rw[Ĥ,Zbg];exact hl,by simpa using rv⟩) (λb u z=>?_) (λb z=>?_) (λz=>?_) λy c Pt hy jP=>Ce jP (λz hz=>Ed z y hz hy) hy
  ·cases q:gO K lams b with
   |none=>exact .inl rfl
   |some u=>obtain⟨y,c,_,_,rfl⟩:=dL q;exact .inr (.inr ⟨_,rfl⟩)
  ·obtain⟨y,c,hy,jP,rfl⟩:=dL z;exact⟨#[],(wV y c b hy jP).2.1,trivial,λpos cv z=>by cases z⟩
  ·cases q:gO K lams b with
   |none=>exact absurd q z
   |some u=>obtain⟨y,c,hy,jP,_⟩:=dL q;exact .inr ⟨y,c,hy,jP⟩
  ·cases q:gO K lams a with
   |none=>exact absurd q z
   |some u=>obtain⟨y,c,hy,jP,_⟩:=dL q;have e2:=(wV y c a hy jP).2.1;rw[ha] at e2;cases e2
 |none=>
  refine Wq (λb=>if b=a then some (.dY {cls:=.type "list",data:=.seq vs.toArray} (.lst (ns.map Qqj.int))) else gO K lams b) (λb=>?_) (.inl (.inr ⟨{cls:=.type "list",data:=.seq vs.toArray},if_pos rfl⟩)) (λb u z=>?_) (λb z=>?_) (λ_=>hk) λy c Pt hy jP=>?_
  ·by_cases hb:b=a
   ·exact .inr (.inl ⟨_,_,if_pos hb⟩)
   ·cases q:gO K lams b with
    |none=>exact .inl ((if_neg hb).trans q)
    |some u=>obtain⟨y,c,_,_,rfl⟩:=dL q;exact .inr (.inr ⟨_,(if_neg hb).trans q⟩)
  ·by_cases hb:b=a
   ·have z':=(if_pos hb).symm.trans z;cases z';subst hb;exact⟨ha,by rw[ř];exact hl,vs,_,rv,ha⟩
   ·have z':=(if_neg hb).symm.trans z;obtain⟨y,c,hy,jP,rfl⟩:=dL z';exact⟨#[],(wV y c b hy jP).2.1,trivial,λpos cv z=>by cases z⟩
  ·by_cases hb:b=a
   ·exact .inl hb
   ·cases q:gO K lams b with
    |none=>exact absurd ((if_neg hb).trans q) z
    |some u=>obtain⟨y,c,hy,jP,_⟩:=dL q;exact .inr ⟨y,c,hy,jP⟩
  ·have ne:Pt≠a:=fun z=>by
    subst z;have e2:=(wV y c _ hy jP).2.1;rw[ha] at e2;cases e2
   exact(if_neg ne).trans (Ce jP (λz hz=>Ed z y hz hy) hy)
def Ja{p:î}{jE:List Str}{Zbh:ExcName->Option Á}{mg mb:Str->Option Á}{h:Õ}{K:Ñ}{d:DefRec}{x:Str}{c P:À}(T:Top p jE Zbh mg mb h)(X:K.In h)(hr:(oW p).find? (λe=>e.name== x)=some d)(ht:Ů K x=some (c,P)) :
 uS h c P/\h.get? P=some (PySem.W.tabObj #[])/\h.BuiltinsAt mg P:=by
 obtain⟨h1,h2⟩:=PySem.W.tab_of T X hr ht;obtain⟨bm,ob,b1,b2,b3,b4,b5,b6⟩:=T.bmain;have X8:bm≠P:=λq=>by rw[q,h2] at b3;cases b3;cases b4
 have hbG:bm≠ū:=λq=>by obtain⟨o,es,ep,e,hd,_⟩:=T.g;rw[q,e] at b3;cases b3;rw[hd] at b6;cases b6
 exact⟨h1,h2,bm,ob,b1,b2,hbG,X8,b3,b4,b5,b6⟩
def Jb{l:fA}{n k:Nat}{q:î}{jE:List Str}{XP:(Str->Option Á)->Õ->Prop}{YP:ß->Õ->Prop}{d:DefRec}{K:Params->Ñ}{CX:ß->nh}{sp:ß->Sp}{x:Str}
 (hn:l.most=some n)(Iy:n<=sizeLine)(SG:d.params.defaults=[])(hr:Ϗ k dD)
 (hY:∀(w:ß) (h:Õ),YP w h->(K w.params).In h)
 (F:∀(w:ß) (mg:Str→Option Á) (fa:À) (h:Õ),(K w.params).In h→h.Ns ū mg→mg d.name=some (.ref fa)→
   ∃fd:ě,(∀(s:Å) (u:Á),dB s fd ⟨[u],[]⟩ [(x,u)])/\
    ∀base:Õ,(K w.params).In base->base.Ns ū mg->Ĉ l.prog w (K w.params) mg base (CX w) k fa fd [x] (sp w))
 (zo:∀(w:ß) (H:Hp) (a:À) (ns:List Int),ns.length<=n->SI H->Ϟ (K w.params) H a (ns.map Qqj.int)->sp w [.ref a] H (λv _=>v=.bl true) λ_ _ _=>False)
 (YJ:∀(w:ß) (H:Hp) (s:Å) (e:Á) (s':Å),CX w [] H s (λ_ _ _=>False) e s'->False)
 (hnt:lams≠[]->∀w:ß,pL (K w.params)=true:=by intro z;exact absurd rfl z)(Ed:∀y z,y∈lams->z∈lams->y=z:=by simp[lams])(hrec:∀y,y∈lams->∃d,(oW q).find? (λe=>e.name== y)=some d:=by simp[lams]) :
 pK q jE XP YP l.row.toRowW d [] (λf vs=>ph f vs):=by
 refine Att.xA hn SG λw s₀ s₁ mg mb fa o pm cd iu a vs ns G Qqq ho hd et Wp SH H_ hlen hg=>?_;have KX:=hY w _ Qqq;obtain⟨fd,hb,hF⟩:=F w mg fa _ KX G.T.g Wp;exact EW KX G.T.g G.T.b G.T.builtins G.T.nolimit hg SH H_ (Ĺ hlen Iy) hr hF hb (λH hO hS=>zo w H a ns hlen hO hS) (λH e s'=>YJ w H s₁ e s') (λz=>hnt z w) Ed λy c Pt hy jP=>let ⟨_,hr'⟩:=hrec y hy;Ja G.T KX hr' jP
def bD(s:Ö)(j:Nat):Ö:=match s with
 | .ClassDef _ _ _ body _ _ _ _ _ _ _=>body.getD j (.Pass ⟨0,0,0,0⟩)
 |_=>.Pass ⟨0,0,0,0⟩
def ŝ(s:Ö):dC:=match s with
 | .FunctionDef _ a _ _ _ _ _ _ _ _=>a
 |_=> {posonlyargs:=[],args:=[],vararg:=none,kwonlyargs:=[],kw_defaults:=[],kwarg:=none,defaults:=[]}
def Į(s:Ö):List Ö:=match s with
 | .FunctionDef _ _ b _ _ _ _ _ _ _=>b
 |_=>[]
def Ô(s:Ö):ą:=match s with
 | .FunctionDef _ _ _ _ _ _ sc _ _ _=>sc
 |_=> {kind:=.function,names:=[],isGenerator:=false,isCoroutine:=false}
structure Ei(K:Ñ)(x qual:Str)(st:Ö)(f:À)(fd:ě):Prop where
 ex:∃(oc:Á) (od:Option À) (kV iu pm:Á) (an:Option À) (ű ct:Á) (rN:Array (Option Á)),
   fd=Ŏ x qual (ŝ st) (Į st) (Ô st) .none kV iu pm an ű ct/\K.lookup f=some ⟨oc,od,.func fd,rN⟩/\dH K ű qual=true
 kp:Ť K (.ref f)=true
section
variable{K:Ñ}
def Ei.binds{x qual:Str}{st:Ö}{f:À}{fd:ě}{ps:List Str}(F:Ei K x qual st f fd)
 (h:∀(kV iu pm:Á) (an:Option À) (ű ct:Á) (us:List Á),us.length=ps.length->bh (Ŏ x qual (ŝ st) (Į st) (Ô st) .none kV iu pm an ű ct) ⟨us,[]⟩=ö (ps.zip us)):Binds K fd ps []:=by
 obtain⟨oc,od,kV,iu,pm,an,ű,ct,rN,rfl,lk,et⟩:=F.ex;exact .all (h kV iu pm an ű ct)
def EX{x qual:Str}{st:Ö}{f:À}{oc:Á}{od an:Option À}{rN:Array (Option Á)}{kV iu pm ű ct:Á}(l:K.lookup f=some ⟨oc,od,.func (Ŏ x qual (ŝ st) (Į st) (Ô st) .none kV iu pm an ű ct),rN⟩)
 (c:dH K ű qual=true)(k:Ť K (.ref f)=true):Ei K x qual st f (Ŏ x qual (ŝ st) (Į st) (Ô st) .none kV iu pm an ű ct):=⟨⟨oc,od,kV,iu,pm,an,ű,ct,rN,rfl,l,c⟩,k⟩
end
section
variable{X:Cx}
def pv(i:Nat){x:Str}{pos:Pos}(hN:X.N[i]?=some x:=by rfl)(hv:w_ X.env.scope x:=by first|exact Ġ rfl|exact Č (Ġ rfl)|exact Č (Č rfl))(hd:(x== ("__debug__" :Str))=false:=by decide)
 (et:(x== ("__classdict__" :Str))=false:=by decide):PE X (.Name x pos) (se i):=cS hN hv hd et
end
def Û(H H':Hp):Prop:=∀b o,H b=some o->H' b=some o
def Û.refl(H:Hp):Û H H:=λ_ _ h=>h
def Ę{H:Hp}:Û H H:= Û.refl H
def Û.trans{H H1 H2:Hp}(a:Û H H1)(b:Û H1 H2):Û H H2:=λc o h=>b c o (a c o h)
def Û.free{H H':Hp}(e:Û H H'){l:À}(h:H' l=Option.none):H l=Option.none:=by
 cases q:H l with
 |none=>rfl
 |some o=>rw[e l o q] at h;cases h
def Û.seq{K:Ñ}{H H':Hp}{a:À}{xs:List Qqj}(e:Û H H')(h:Ϟ K H a xs):Ϟ K H' a xs:=by
 rcases h with(h|⟨o,h⟩)|h
 ·exact .inl (.inl (e _ _ h))
 ·exact .inl (.inr ⟨o,e _ _ h⟩)
 ·exact .inr h
end L2
namespace M2
open PySem PySem.Spec PyProof.Rows L2
section
variable{X:Cx}{a b c e:Ð}{ta tb tc te:TE}{pos:Pos}
def PE.wk{t t':TE}(h:PE X e t)(i:∀V H Q,t' V H Q->t V H Q):PE X e t':=λÃ s V H Q I q=>h Ã s V H Q I (i V H Q q)
def PS.wk{st:Ö}{t t':TS}(h:PS X st t)(i:∀D V H,t' D V H->t D V H):PS X st t':=λÃ s V H D I q=>h Ã s V H D I (i D V H q)
def ϲ.wk{f:Á->Á->Sem Á}{r r':R2}(h:ϲ X f r)(i:∀x y H Q,r' x y H Q->r x y H Q):ϲ X f r':=λÃ s V H x y v u Q I rx ry q=>h Ã s V H x y v u Q I rx ry (i x y H Q q)
def IN.wk{f:Á->Sem Á}{r r':Qqj->Hp->VK->Prop}(h:IN X f r)(i:∀x H Q,r' x H Q->r x H Q):IN X f r':=λÃ s V H x v Q I rx q=>h Ã s V H x v Q I rx (i x H Q q)
def ϔ.wk{f:Á}{r r':List Qqj->Hp->VK->Prop}(h:ϔ X f r)(i:∀xs H Q,r' xs H Q->r xs H Q):ϔ X f r':=λÃ s V H xs us Q I r q=>h Ã s V H xs us Q I r (i xs H Q q)
def zF.wk{r r':R2}(h:zF X r)(i:∀x y H Q,r' x y H Q->r x y H Q):zF X r':=λva sl Ã s V H x y v u Q I rx ry q=>h va sl Ã s V H x y v u Q I rx ry (i x y H Q q)
def Cb.wk{r r':Qqj->Option Int->Option Int->Hp->VK->Prop}(h:Cb X r)(i:∀x lo hi H Q,r' x lo hi H Q->r x lo hi H Q):Cb X r':=λÃ s V H x v vl vu lo hi sl Q I rx hs pl pu q=>h Ã s V H x v vl vu lo hi sl Q I rx hs pl pu (i x lo hi H Q q)
def PC(i:Nat):TE:=λV H Q=>match V[i]? with
 |some (some v)=>Q v H
 |_=>False
def Jc{i:Nat}{V:Ģ}{H:Hp}{Q:VK}(h:PC i V H Q):se i V H Q:=by
 unfold PC at h;split at h
 ·exact⟨_,by assumption,h⟩
 ·exact h.elim
def mv(i:Nat){x:Str}{pos:Pos}(hN:X.N[i]?=some x:=by rfl)(hv:w_ X.env.scope x:=by first|exact Ġ rfl|exact Č (Ġ rfl)|exact Č (Č rfl))(hd:(x== ("__debug__" :Str))=false:=by decide)
 (et:(x== ("__classdict__" :Str))=false:=by decide):PE X (.Name x pos) (PC i):=PE.wk (cS hN hv hd et) λ_ _ _ h=>Jc h
def Ui(x:Qqj)(k:Bool->Prop):Prop:=match x with
 | .bl c=>k c
 |_=>False
def l_{x:Qqj}{k:Bool->Prop}(h:Ui x k):∃c,x=.bl c/\k c:=by
 cases x with
 |bl c=>exact⟨c,rfl,h⟩
 |_=>exact h.elim
def EY(t:TE):TT:=λV H Q=>t V H λx H1=>Ui x λc=>Q c H1
def PD{op:cD}{r:R2}(ho:ϲ X (ĺ op) r)(ha:PE X a ta)(hb:PE X b tb)(hm:iK op b=false):PT X (.Compare a [op] [b] pos) (EY (Pc r ta tb)):=by
 intro Ã s V H Q I h;refine wpAny_isTrue_Compare1 (Ų (ha Ã s V H _ I h) λv s1 ⟨x,H1,I1,r1,q1⟩=>Ų (hb Ã s1 V H1 _ I1 q1) λu s2 ⟨y,H2,I2,r2,q2⟩=>
  Ų (ho Ã s2 V H2 x y v u _ I2 r1 r2 q2) λc s3 ⟨z,H3,I3,r3,q3⟩=>?_) hm
 obtain⟨k,e,q3⟩:=l_ q3;subst e;cases r3;exact cF ⟨H3,I3,q3⟩
def zH(r r':R2)(ta tb tc:TE):TE:=λV H Q=>ta V H λx H1=>tb V H1 λy H2=>r x y H2 λz H3=>Ui z λk=>
 (if k=true then tc V H3 λw' H4=>r' y w' H4 Q else Q (.bl false) H3)
def EZ{op A6:cD}{r r':R2}(ho:ϲ X (ĺ op) r)(A3:ϲ X (ĺ A6) r')(ha:PE X a ta)(hb:PE X b tb)(hc:PE X c tc)
 (hm:lastMarks [op,A6] [b,c]=false:=by with_unfolding_all rfl):PE X (.Compare a [op,A6] [b,c] pos) (zH r r' ta tb tc):=by
 intro Ã s V H Q I h;refine Compare_chain (Ų (ha Ã s V H _ I h) λv s1 ⟨x,H1,I1,r1,q1⟩=>chain_link (Ų (hb Ã s1 V H1 _ I1 q1) λu s2 ⟨y,H2,I2,r2,q2⟩=>
  Ų (ho Ã s2 V H2 x y v u _ I2 r1 r2 q2) λd s3 ⟨z,H3,I3,r3,q3⟩=>?_)) hm
 obtain⟨k,e,q3⟩:=l_ q3;subst e;cases r3;refine cF ?_;cases k with
 |false=>exact ite_ff ⟨.bl false,H3,I3,rfl,q3⟩
 |true=>exact ite_tt (chain_last (Ų (hc Ã s3 V H3 _ I3 q3) λw' s4 ⟨z',H4,I4,r4,q4⟩=>A3 Ã s4 V H4 y z' u w' Q I4 r2 r4 q4))
def E_{op A6:cD}{r r':R2}(ho:ϲ X (ĺ op) r)(A3:ϲ X (ĺ A6) r')(ha:PE X a ta)(hb:PE X b tb)(hc:PE X c tc)
 (hm:lastMarks [op,A6] [b,c]=false:=by with_unfolding_all rfl):PT X (.Compare a [op,A6] [b,c] pos) (EY (zH r r' ta tb tc)):=by
 intro Ã s V H Q I h;refine isTrue_chain (Ų (ha Ã s V H _ I h) λv s1 ⟨x,H1,I1,r1,q1⟩=>test_link (Ų (hb Ã s1 V H1 _ I1 q1) λu s2 ⟨y,H2,I2,r2,q2⟩=>
  Ų (ho Ã s2 V H2 x y v u _ I2 r1 r2 q2) λd s3 ⟨z,H3,I3,r3,q3⟩=>?_)) hm
 obtain⟨k,e,q3⟩:=l_ q3;subst e;cases r3;refine cF ?_;cases k with
 |false=>exact ite_ff ⟨H3,I3,q3⟩
 |true=>refine ite_tt (test_last (Ų (hc Ã s3 V H3 _ I3 q3) λw' s4 ⟨z',H4,I4,r4,q4⟩=>Ų (A3 Ã s4 V H4 y z' u w' _ I4 r2 r4 q4) λd' s5 ⟨z2,H5,I5,r5,q5⟩=>?_));obtain⟨k2,e2,q5⟩:=l_ q5;subst e2;cases r5;exact cF ⟨H5,I5,q5⟩
def Uj(ta tb:TE):TE:=λV H Q=>ta V H λx H1=>Ui x λc=>if c=true then tb V H1 Q else Q (.bl false) H1
def Uk(ta:TE):TE:=λV H Q=>ta V H λx H1=>Ui x λc=>Q (.bl (!c)) H1
variable{rest:List Ð}
def PF(ha:PE X a ta)(hb:PE X (.BoolOp .And (b::rest) pos) tb):PE X (.BoolOp .And (a::b::rest) pos) (Uj ta tb):=by
 intro Ã s V H Q I h;refine BoolOp_and (Ų (ha Ã s V H _ I h) λv s1 ⟨x,H1,I1,r1,q1⟩=>?_);obtain⟨c,rfl,q1⟩:=l_ q1;cases r1;refine cF ?_;cases c with
 |true=>exact hb Ã s1 V H1 Q I1 q1
 |false=>exact⟨.bl false,H1,I1,rfl,q1⟩
def PJ(ha:PE X a ta):PE X (.UnaryOp .Not a pos) (Uk ta):=by intro Ã s V H Q I h;refine UnaryOp_ (Ų (ha Ã s V H _ I h) λv s1 ⟨x,H1,I1,r1,q1⟩=>?_);obtain⟨c,rfl,q1⟩:=l_ q1;cases r1;exact not_of (cF ⟨.bl (!c),H1,I1,rfl,q1⟩)
def mI(C:Int->Int->Prop)(g:Int->Int->Qqj):R2:=λx y H Q=>match x,y with
 | .int i,.int j=>C i j/\Q (g i j) H
 |_,_=>False
def zI(g:Int->Int->Qqj):R2:=λx y H Q=>match x,y with
 | .int i,.int j=>Q (g i j) H
 |_,_=>False
def sM{C:Int->Int->Prop}{g:Int->Int->Qqj}(x y:Qqj)(H:Hp)(Q:VK)(h:mI C g x y H Q):rI C g x y H Q:=by
 cases x with
 |int i=>
  cases y with
  |int j=>exact⟨i,j,rfl,rfl,h.1,h.2⟩
  |_=>exact h.elim
 |_=>exact h.elim
def md{g:Int->Int->Qqj}(x y:Qqj)(H:Hp)(Q:VK)(h:zI g x y H Q):Ip g x y H Q:=by
 cases x with
 |int i=>
  cases y with
  |int j=>exact⟨i,j,rfl,rfl,h⟩
  |_=>exact h.elim
 |_=>exact h.elim
def Ul:R2:=λx y H Q=>match x,y with
 | .int i,.int j=>Q (.int (i+j)) H
 | .str i,.str j=>i.length+j.length<=sizeLine/\Q (.str (i++j)) H
 |_,_=>False
def PK:ϲ X (Ł .Add) Ul:=ϲ.wk (Pf.or zw) λx y H Q h=>by
 cases x with
 |int i=>
  cases y with
  |int j=>exact .inl ⟨i,j,rfl,rfl,h⟩
  |_=>exact h.elim
 |str i=>
  cases y with
  |str j=>exact .inr ⟨i,j,rfl,rfl,h.1,h.2⟩
  |_=>exact h.elim
 |_=>exact h.elim
def PL:ϲ X (Ł .Sub) (zI λi j=>.int (i-j)):=ϲ.wk Ph md
def sN(i j:Int):Prop:=Pe i j\/(pw i<=1048576/\pw j<=1048576)
theorem sN.ok{i j:Int}(h:sN i j):IntMulOk i j:=by
 rcases h with h|⟨h1,h2⟩
 ·exact h.ok
 ·exact IntMulOk.of_le h1 h2 (by decide)
def PM:ϲ X (Ł .Mult) (mI sN λi j=>.int (i*j)):=ϲ.wk (B8 (C:=sN) (g:=λi j=>i*j) λ_ _ _ _ _ _ _ hc q=>mul_int q hc.ok) sM
def DF(_ j:Int):Prop:=j≠0/\pw j<=8000
def DF.py{i j:Int}(h:DF i j):Builtin.divisionGoesByPylong i j=false:=by
 refine PyProof.noPylong_of_log2 ?_;have hb:=intBits_le_iff.mp h.2;have h0:j.natAbs≠0:=by have:=h.1;lia
 exact Ţ ((Nat.log2_lt h0).mpr hb) (by decide)
def Jd:ϲ X (Ł .FloorDiv) (mI DF λi j=>.int (i.fdiv j)):=ϲ.wk (B8 (C:=DF) (g:=λi j=>i.fdiv j) λ_ _ _ _ _ _ _ hc q=>floordiv_int hc.1 q (.inl hc.py)) sM
def PN:ϲ X (Ł .Mod) (mI (λ_ j=>j≠0) λi j=>.int (i.fmod j)):=ϲ.wk IQ sM
def fN:ϲ X (Ł .Pow) (mI DB λi j=>.int (i ^ j.toNat)):=ϲ.wk Pj sM
def ni:ϲ X (ĺ .Lt) (zI λi j=>.bl (decide (i<j))):=ϲ.wk T6 md
def gb:ϲ X (ĺ .LtE) (zI λi j=>.bl (decide (i<=j))):=ϲ.wk T7 md
def Um:ϲ X (ĺ .Gt) (zI λi j=>.bl (decide (j<i))):=ϲ.wk T8 md
def Uo:ϲ X (ĺ .GtE) (zI λi j=>.bl (decide (j<=i))):=ϲ.wk T9 md
def mU(g:Int->Qqj):Qqj->Hp->VK->Prop:=λx H Q=>match x with
 | .int i=>Q (g i) H
 |_=>False
def bo:IN X (unaryOp .USub) (mU λi=>.int (-i)):=IN.wk Pn λx H Q h=>by
 cases x with
 |int i=>exact⟨i,rfl,h⟩
 |_=>exact h.elim
def SK:List Qqj->Hp->VK->Prop:=λxs H Q=>match xs with
 | [.int i]=>Q (.int (if i<0 then -i else i)) H
 |_=>False
def PP:ϔ X (.builtin "abs") SK:=ϔ.wk EJ λxs H Q h=>by
 unfold SK at h;split at h
 ·exact⟨_,rfl,h⟩
 ·exact h.elim
def PQ(K:Ñ):List Qqj->Hp->VK->Prop:=λxs H Q=>match xs with
 | [.str y]=>y.length<=sizeLine/\Q (.int (y.length:Int)) H
 | [.ref p]=>∃ys,(Ϟ K H p ys\/da K H p ys)/\Q (.int (ys.length:Int)) H
 |_=>False
def Ÿ:ϔ X (.builtin "len") (PQ X.K):=ϔ.wk EK λxs H Q h=>by
 unfold PQ at h;split at h
 ·exact⟨_,_,rfl,⟨h.1,rfl⟩,h.2⟩
 ·obtain⟨ys,h1,h2⟩:=h;refine⟨_,ys.length,rfl,?_,h2⟩;rcases h1 with h1|h1
  ·exact .inl ⟨ys,h1,rfl⟩
  ·exact .inr ⟨ys,h1,rfl⟩
 ·exact h.elim
def mIx(K:Ñ):R2:=λx y H Q=>match x,y with
 | .ref p,.int i=>∃xs v,(Ϟ K H p xs\/da K H p xs)/\qe xs i=some v/\Q v H
 | .str z,.int i=>∃c,z.length<=sizeLine/\qe z.cps.toList i=some c/\Q (.str ⟨#[c]⟩) H
 |_,_=>False
def Up:zF X (mIx X.K):=zF.wk EU λx y H Q h=>by
 cases x with
 |ref p=>
  cases y with
  |int i=>
   obtain⟨xs,v,h1,h2,h3⟩:=h;rcases h1 with h1|h1
   ·exact .inl ⟨p,xs,i,v,rfl,rfl,h1,h2,h3⟩
   ·exact .inr (.inl ⟨p,xs,i,v,rfl,rfl,h1,h2,h3⟩)
  |_=>exact h.elim
 |str z=>
  cases y with
  |int i=>obtain⟨c,h1,h2,h3⟩:=h;exact .inr (.inr ⟨z,i,c,rfl,rfl,h1,h2,h3⟩)
  |_=>exact h.elim
 |_=>exact h.elim
def iOf(x:Qqj)(k:Int->Prop):Prop:=match x with
 | .int i=>k i
 |_=>False
def Uq(t:TE):TO:=λV H Q=>t V H λx H1=>iOf x λi=>Q (some i) H1
def E0(h:PE X e te):PO X (some e) (Uq te):=by
 intro Ã s V H Q I hw;rw[evalPart_some];refine Ų (h Ã s V H _ I hw) λu s1 ⟨x,H1,I1,r1,q1⟩=>?_;cases x with
 |int i=>obtain⟨t,rfl⟩:=r1;exact⟨some i,H1,I1,.int i t,q1⟩
 |_=>exact q1.elim
def YL(K:Ñ):Qqj->Option Int->Option Int->Hp->VK->Prop:=λx lo hi H Q=>match x with
 | .ref a=>∃xs,Ϟ K H a xs/\∀p,H p=none->Q (.ref p) (upd H p (.lst (xw xs lo hi)))
 |_=>False
def E1:Cb X (YL X.K):=Cb.wk IZ λx lo hi H Q h=>by
 cases x with
 |ref a=>obtain⟨xs,h1,h2⟩:=h;exact⟨a,xs,rfl,h1,h2⟩
 |_=>exact h.elim
end
def W1(lo c:Int)(n:Nat):It:=⟨λi _=>i<n,λi H x H'=>H'=H/\x=.int (lo+i*c),λi _=>n<=i⟩
def xB{P:î}{w:ß}{K:Ñ}{tg:Ð}(it:À)(lo c:Int)(n:Nat):za P w K tg (W1 lo c n) [it] it (λi h=>pc h it (lo+(i:Nat)*c) ((n:Int)-(i:Nat)) c) where
 mem:=by simp
 obj:=λi h st b hb=>by
  have e:b=it:=by simpa using hb
  subst e;exact⟨_,st,λv z=>by have z':pC _=iU v:=z;cases z'⟩
 keep:=λi h h' st k=>k it (by simp) _ st
 item:=by intro X hP hw hK hc i Ã s V H E I hf st hg;subst hP hw hK;obtain⟨f0,f1,f2,f3,f4,f5⟩:=hf it (by simp);have W:=Walks.range (prog:=X.prog) (w:=X.w) (I.ok.hd hc) it lo c n;refine W.item i s _ _ hg st λv h' tk hv zn kk=>?_;obtain⟨t,rfl⟩:=hv;have I1:Inv X Ã V H {s with heap:=h',toks:=tk}:=I.turned (λb o hb e=>kk b o (by simpa using hb) e) f0 f1 f3 f4 f5;exact⟨_,rfl,xq (s:={s with heap:=h',toks:=tk}) (n:= "range_iterator") zn rfl rfl (by decide) ⟨.int (lo+i*c),H,I1,⟨t,rfl⟩,⟨rfl,rfl⟩,zn,λb hb=>(hf b hb).1⟩⟩
 done:=by intro X hP hw hK hc i Ã s V H E I hf st hg;subst hP hw hK;obtain⟨f0,f1,f2,f3,f4,f5⟩:=hf it (by simp);exact wpAny_pyNext_range_end (I.ok.hd hc) st (by have:n<=i:=hg;lia) λh' eb=>⟨rfl,I.turned (t':=s.toks) (λb o hb e=>eb b o hb e) f0 f1 f3 f4 f5⟩
 self:=λ_ _ _ _ _ st h=>wpAny_pyIter_rangeiter st h
section
end
mutual
def Rp(K:Ñ)(H:Hp):ϭ->Qqj->Prop
 | .none,v=>v=.non
 | .bool b,v=>v=.bl b
 | .int i,v=>v=.int i
 | .str x,v=>v=.str x
 | .tuple ds,v=>∃a xs,v=.ref a/\da K H a xs/\kZ K H ds xs
 | .list ds,v=>∃a xs,v=.ref a/\Ϟ K H a xs/\kZ K H ds xs
 | .dict _,_=>False
def kZ(K:Ñ)(H:Hp):List ϭ->List Qqj->Prop
 | [],xs=>xs=[]
 |d::ds,xs=>∃x r,xs=x::r/\Rp K H d x/\kZ K H ds r
end
def Û.tup{K:Ñ}{H H':Hp}{a:À}{xs:List Qqj}(e:Û H H')(h:da K H a xs):da K H' a xs:=by
 rcases h with(h|⟨o,h⟩)|h
 ·exact .inl (.inl (e _ _ h))
 ·exact .inl (.inr ⟨o,e _ _ h⟩)
 ·exact .inr h
theorem Û.upd{H:Hp}{p:À}{o:HO}(h:H p=none):Û H (upd H p o):=λb u e=>by rw[ì (ø e h)];exact e
mutual
theorem Rp.same{K:Ñ}{H H':Hp}(e:Û H H'):∀(d:ϭ) (v:Qqj),Rp K H d v->Rp K H' d v
 | .none,_,h=>by unfold Rp at h ⊢;exact h
 | .bool _,_,h=>by unfold Rp at h ⊢;exact h
 | .int _,_,h=>by unfold Rp at h ⊢;exact h
 | .str _,_,h=>by unfold Rp at h ⊢;exact h
 | .tuple ds,_,h=>by unfold Rp at h ⊢;obtain⟨a,xs,h1,h2,h3⟩:=h;exact⟨a,xs,h1,Û.tup e h2,kZ.same e ds xs h3⟩
 | .list ds,_,h=>by unfold Rp at h ⊢;obtain⟨a,xs,h1,h2,h3⟩:=h;exact⟨a,xs,h1,e.seq h2,kZ.same e ds xs h3⟩
 | .dict _,_,h=>by unfold Rp at h;exact h.elim
theorem kZ.same{K:Ñ}{H H':Hp}(e:Û H H'):∀(ds:List ϭ) (xs:List Qqj),kZ K H ds xs->kZ K H' ds xs
 | [],_,h=>by unfold kZ at h ⊢;exact h
 |d::ds,_,h=>by unfold kZ at h ⊢;obtain⟨x,r,h1,h2,h3⟩:=h;exact⟨x,r,h1,Rp.same e d x h2,kZ.same e ds r h3⟩
end
section
variable{X:Cx}{Ã:List (À×Obj)}{V:Ģ}{H:Hp}{s:Å}
mutual
theorem Rp.reads(I:Inv X Ã V H s):∀(d:ϭ) (v:Qqj) (u:Á),Rp X.K H d v->RelV v u->∃as,Reads s.heap u d as
 | .none,v,u,h,r=>by unfold Rp at h;subst h;cases r;exact⟨_,.none⟩
 | .bool b,v,u,h,r=>by unfold Rp at h;subst h;cases r;exact⟨_,.bool b⟩
 | .int i,v,u,h,r=>by unfold Rp at h;subst h;obtain⟨t,rfl⟩:=r;exact⟨_,.int i t⟩
 | .str x,v,u,h,r=>by unfold Rp at h;subst h;obtain⟨t,rfl⟩:=r;exact⟨_,.str x t⟩
 | .tuple ds,v,u,h,r=>by unfold Rp at h;obtain⟨a,xs,h1,h2,h3⟩:=h;subst h1;cases r;obtain⟨ċ,rv,⟨o,e,hc,n,hd⟩,hz⟩:=I.tuple h2;obtain⟨as,ra⟩:=kZ.reads I ds xs ċ h3 rv;exact⟨_,.tuple e hc hd (by simpa using ra)⟩
 | .list ds,v,u,h,r=>by unfold Rp at h;obtain⟨a,xs,h1,h2,h3⟩:=h;subst h1;cases r;obtain⟨ċ,rv,⟨o,n,e,hc,hdd,hd⟩,hz⟩:=I.list h2;obtain⟨as,ra⟩:=kZ.reads I ds xs ċ h3 rv;exact⟨_,.list e hc hd (by simpa using ra)⟩
 | .dict _,_,_,h,_=>by unfold Rp at h;exact h.elim
theorem kZ.reads(I:Inv X Ã V H s):∀(ds:List ϭ) (xs:List Qqj) (us:List Á),kZ X.K H ds xs->Ĳ xs us->∃as,ReadsAll s.heap us ds as
 | [],xs,us,h,r=>by unfold kZ at h;subst h;cases r;exact⟨_,.nil⟩
 |d::ds,xs,us,h,r=>by
  unfold kZ at h;obtain⟨x,q,h1,h2,h3⟩:=h;subst h1;cases r with
  |cons r1 r2=>obtain⟨as,ra⟩:=Rp.reads I d x _ h2 r1;obtain⟨bs,rb⟩:=kZ.reads I ds q _ h3 r2;exact⟨_,.cons ra rb⟩
end
end
def Je(K:Ñ)(Kk:Bool):R2:=λx y H Q=>∃d e,Rp K H d x/\Rp K H e y/\d.canLay0=true/\e.canLay0=true/\min d.depth e.depth<=60/\Q (.bl (if Kk then !PyData.eqv d e else ak d e)) H
section
variable{X:Cx}
def E2(hu:X.A.units+64<Ϭ):ϲ X (ĺ .Eq) (Je X.K false):=by intro Ã s V H x y v u Q I rx ry h;obtain⟨d,e,h1,h2,h3,h4,h5,q⟩:=h;obtain⟨as,ra⟩:=Rp.reads I d x v h1 rx;obtain⟨bs,rb⟩:=Rp.reads I e y u h2 ry;exact SeqAt.compareEq_reads ra rb h3 h4 (by lia) ⟨.bl _,H,I,rfl,q⟩
def qf(hu:X.A.units+64<Ϭ):ϲ X (ĺ .NotEq) (Je X.K true):=by intro Ã s V H x y v u Q I rx ry h;obtain⟨d,e,h1,h2,h3,h4,h5,q⟩:=h;obtain⟨as,ra⟩:=Rp.reads I d x v h1 rx;obtain⟨bs,rb⟩:=Rp.reads I e y u h2 ry;exact SeqAt.compareNe_reads ra rb h3 h4 (by lia) ⟨.bl _,H,I,rfl,q⟩
end
section
end
end M2
namespace M3
open PySem PySem.Spec PyProof.Rows L2 M2
def Cf{P:î}{w:ß}{H:Hp}{h h':Õ}{C:À}(x:eD P w H h)(hC:H C=none)(k:∀b u,b≠C->h.get? b=some u->h'.get? b=some u):eD P w H h':=λa o e=>
 (x a o e).stay (fun b u hb q=>k b u (by
   rcases hb with hb|hb
   ·rw[hb];exact ø e hC
   ·exact ø hb hC) q) (λ_ q=>q) λ_ _ q=>q
theorem jF{env:Env}:∀(ns:List (Str×aH)) (cs:List (Str×À)),(∀y∈ns,y.2=.free->∃c,env.cells.lookup y.1=some c)->(∀x c,cs.lookup x=some c->env.cells.lookup x=some c)->
 ∃cl,(forIn ns cs (λ(x:Str×aH) r=>if(x.2== .free)=true then(do let c <-cellOf env x.1;ö (df ((x.1,c)::r))) else ö (df r)):Sem (List (Str×À)))=ö cl/\
  (∀x c,cl.lookup x=some c->env.cells.lookup x=some c)/\(∀x,(∃c,cs.lookup x=some c)->∃c,cl.lookup x=some c)/\∀y∈ns,y.2=.free->∃c,cl.lookup y.1=some c
 | [],cs,_,h2=>⟨cs,rfl,h2,λ_ z=>z,λ_ z=>nomatch z⟩
 |(n,k)::ns,cs,h1,h2=>by
  by_cases hk:k=.free
  ·subst hk;obtain⟨c,hc⟩:=h1 (n,.free) ĭ rfl;have e:cellOf env n=ö c:=by unfold cellOf;rw[hc]
   have SM:∀x d,((n,c)::cs).lookup x=some d->env.cells.lookup x=some d:=λx d q=>by
    rw[ś] at q;cases hx:x== n with
    |true=>rw[hx] at q;have:x=n:=eq_of_beq hx;subst this;cases q;exact hc
    |false=>rw[hx] at q;exact h2 x d q
   obtain⟨cl,q1,q2,q3,q4⟩:=jF ns ((n,c)::cs) (λy hy=>h1 y (Ă _ hy)) SM;refine⟨cl,?_,q2,λx ⟨d,hd⟩=>q3 x ?_,λy hy hf=>?_⟩
   ·rw[j_];simp only[beq_self_eq_true,if_true,e,pure_bind];exact q1
   ·rw[ś];cases hx:x== n with
    |true=>exact⟨c,rfl⟩
    |false=>exact⟨d,hd⟩
   ·rcases Ā.mp hy with rfl|hy
    ·exact q3 n ⟨c,by rw[ś,beq_self_eq_true]⟩
    ·exact q4 y hy hf
  ·have hb:(k== aI)=false:=by simpa using hk
   obtain⟨cl,q1,q2,q3,q4⟩:=jF ns cs (λy hy=>h1 y (Ă _ hy)) h2;refine⟨cl,?_,q2,q3,λy hy hf=>?_⟩
   ·rw[j_];simp only[hb,iw,if_false,pure_bind];exact q1
   ·rcases Ā.mp hy with rfl|hy
    ·exact absurd hf hk
    ·exact q4 y hy hf
def fO{scope:ą}{env:Env}(h:∀y∈scope.names,y.2=.free->∃c,env.cells.lookup y.1=some c) :
 ∃cl,closureFor scope env=ö cl/\(∀x c,cl.lookup x=some c->env.cells.lookup x=some c)/\∀y∈scope.names,y.2=.free->∃c,cl.lookup y.1=some c:=by
 obtain⟨cl,q1,q2,_,q4⟩:=jF (env:=env) scope.names [] h (λx c z=>by simp at z);refine⟨cl,?_,q2,q4⟩;unfold closureFor;have e:(forIn scope.names [] (λ(x:Str×aH) (r:List (Str×À))=>match x with
  |(name,kind)=>if(kind== .free)=true then(do let a <-cellOf env name;ö (df ((name,a)::r))) else ö (df r)):Sem (List (Str×À)))=ö cl:=q1
 first
  |(simp only[bind_pure];exact q1)
  |(rw[show ∀(t:Sem (List (Str×À))),(do let r <-t;ö r)=t from λt=>by simp];exact q1)
  |(simp only[q1,pure_bind])
noncomputable def d_(X:Cx)(N':List Str)(scope:ą)(cl:List (Str×À))(C:À)(s:Å)(H:Hp)(fp:List À):Cx where
 prog:=X.prog
 w:=X.w
 K:=X.K
 mg:=X.mg
 base:=X.base
 A:=X.A
 N:=N'
 s₀:= s
 H₀:= H
 env:=compEnvC scope cl C X.env
 outer:=X.stack
 stack:=X.stack
 ex:=fp
 fn:=λx=>scope.names.lookup x== some .cell
 calm:=X.calm
 pn:=[]
 xe:=λ_ _=>False
def eK(X:Cx)(sc scope:ą):List Str->List Nat->Prop
 |x::xs,j::js=>X.N[j]?=some x/\(scope.names.lookup x=some .free/\(sc.names.lookup x=some .cell\/sc.names.lookup x=some .free))/\eK X sc scope xs js
 |_,[]=>True
 | [],_::_=>False
def eL(js:List Nat)(nl:Nat)(V:Ģ):Ģ:=js.map (λj:Nat=>(V[j]?).getD none)++Ï nl none
theorem mj{X:Cx}{sc scope:ą}{V:Ģ}{nl:Nat}:∀{N':List Str} {js:List Nat} {i:Nat} {x:Str} {v:Qqj},eK X sc scope N' js->N'[i]?=some x->(eL js nl V)[i]?=some (some v)->
 ∃j:Nat,X.N[j]?=some x/\V[j]?=some (some v)/\scope.names.lookup x=some .free/\(sc.names.lookup x=some .cell\/sc.names.lookup x=some .free)
 |N',[],i,x,v,_,_,h=>by unfold eL at h;rw[be,Ś,fb] at h;split at h<;>cases h
 | [],_::_,_,_,_,c,_,_=>c.elim
 |y::N',j::js,0,x,v,c,h1,h2=>by
  obtain⟨c1,c2,_⟩:=c;simp at h1;subst h1;have e:(V[j]?).getD none=some v:=by simpa[eL] using h2
  refine⟨j,c1,?_,c2⟩;cases q:V[j]? with
  |none=>rw[q] at e;cases e
  |some o=>rw[q] at e;exact congrArg some e
 |y::N',j::js,i+1,x,v,c,h1,h2=>by exact mj (N':=N') (js:=js) (i:=i) c.2.2 (by simpa using h1) (by simpa[eL] using h2)
section
variable{prog:î}{w:ß}{A:ð}{R:dA->Å->Prop}{s:Å}
def k_{elt target iter:Ð}{ifs:List Ð}{scope:ą}{pos:Pos}{it ď:Á}{env:Env}(I:Nat->Å->Prop)
 (turn:∀n s,I n s→Î (Ó prog w) A (bR it) (fun r s₁=>match r with
   |none=>R (.ok .next) s₁
   |some v=>Î (Ó prog w) A (pb target it v) (fun _ Zbz=>Î (Ó prog w) A (aF target env v) (fun _ s₂=>
     Î (Ó prog w) A (forIn ifs true λc r=>if r=true then do let ok <-isTrue c env (Ý c env);ö (df ok) else ö (df r)) (λok s₃=>
      if ok=true then Î (Ó prog w) A (Ý elt env) (λx s₄=>
       Î (Ó prog w) A (call (.builtin "list.append") [ď,x]) (λ_ s₅=>∃m,m<n/\I m s₅) (λ_ _=>False) s₄) (λ_ _=>False) s₃
      else ∃m,m<n/\I m s₃) (λ_ _=>False) s₂) (λ_ _=>False) Zbz) (λ_ _=>False) s₁) (λ_ _=>False) s)
 (n:Nat)(h:I n s) :
 Ϛ (Ó prog w) A (.compLoop (.ListComp elt [⟨target,iter,ifs,0⟩] scope pos) 0 it ď env) R s:=by
 refine codeAny_loop rfl I (λn s hI=>?_) n h;show Î _ A ((compTurn (.ListComp elt [⟨target,iter,ifs,0⟩] scope pos) 0 it ď env).onRaise (λx=>do fq x env;theTreesLotGoes x)) _ _ s;refine wpAny_noted (wpAny_noRaise ?_);rw[compTurn_list];refine Ê (dw (Ê (ŭ (turn n s hI) (λr s₁ h₁=>?_) λ_ _ h'=>h')));cases r with
 |none=>exact é h₁
 |some v=>
  refine Ê (ŭ h₁ (λ_ Zbz ZbJ=>?_) λ_ _ h'=>h');refine Ê (ŭ ZbJ (λ_ s₂ h₂=>Ê (ŭ h₂ (λok s₃ h₃=>?_) λ_ _ h'=>h')) λ_ _ h'=>h');cases ok with
  |false=>exact é ⟨rfl,h₃⟩
  |true=>exact Ê (Ê (ŭ h₃ (λx s₄ h₄=>Ê (ŭ h₄ (λ_ s₅ h₅=>é (é ⟨rfl,h₅⟩)) λ_ _ h'=>h')) λ_ _ h'=>h'))
end
def Ej(X:Cx)(ifs:List Ð)(t:TT):Prop:=
 ∀(Ã:List (À×Obj)) (s:Å) (V:Ģ) (H:Hp) (Q:Bool->Hp->Prop),Inv X Ã V H s->t V H Q->
  Î (Ó X.prog X.w) X.A (forIn ifs true λc r=>if r=true then do let ok <-isTrue c X.env (Ý c X.env);ö (df ok) else ö (df r)) (TP X Ã V Q) X.xe s
def YM:TT:=λ_ H Q=>Q true H
def Jf{X:Cx}:Ej X [] YM:=λ_ _ _ H _ I h=>wpAny_tests_nil ⟨H,I,h⟩
def Jg{X:Cx}{c:Ð}{t:TT}(h:PT X c t):Ej X [c] t:=λÃ s V H Q I hw=>wpAny_tests_one (h Ã s V H Q I hw)
def E3(js:List Nat)(nl:Nat)(wi:TI)(g:TG)(tt:TT)(te:TE):TE:=λV H Q=>wi V H λJ H1=>∀D,H1 D=none->
 ∃W:Nat->Nat->Ģ->Hp->Prop,(∃m,W 0 m (eL js nl V) (upd H1 D (.lst [])))/\∀i m V' H',W i m V' H'->
  (J.stop i H'∧Q (.ref D) H')∨(J.go i H'∧∃N:Ģ→Hp→Prop,(∀V2 H2,N V2 H2→∃m',m'<m∧W (i+1) m' V2 H2)∧∀x H2,J.WY i H' x H2→g x V' H2 fun V2 H3=>tt V2 H3 fun c H4=>
    if c=true then te V2 H4 λy H5=>∃ys,H5 D=some (.lst ys)/\ys.length<sizeLine/\N V2 (upd H5 D (.lst (ys ++ [y]))) else N V2 H4)
section
variable{X:Cx}{elt tg iter:Ð}{ifs:List Ð}{scope:ą}{pos:Pos}{wi:TI}{g:TG}{tt:TT}{te:TE}
theorem fP{env:Env}:∀{names:List (Str×aH)} {x:Str} {k:aH},(k=.cell\/k=.free)->
 (names.map λ(n,k)=>if(k== aI && env.scope.kind== .function && env.kindOf n== some .cell) then(n,dF) else(n,k)).lookup x=some k->(x,aI)∈names\/(x,dF)∈names
 | [],x,k,_,h=>by simp at h
 |(n,q)::r,x,k,hk,h=>by
  have ih:=@fP env r x k hk;rw[ý] at h;by_cases hx:x=n
  ·subst hx;by_cases hf:q=.free
   ·subst hf;exact .inl ĭ
   ·have hb:(q== aI)=false:=by simpa using hf
    have e:(if(q== aI && env.scope.kind== .function && env.kindOf x== some .cell)=true then(x,dF) else(x,q))=(x,q):=by rw[hb];rfl
    have h2:=h;simp only[e,ś,beq_self_eq_true] at h2;have:q=k:=ŀ h2;rcases hk with hk|hk
    ·rw[this,hk];exact .inr ĭ
    ·exact absurd (this.trans hk) hf
  ·have hn:(x== n)=false:=by simpa using hx
   have h3:(x,aI)∈r\/(x,dF)∈r:=ih (by
    by_cases c:(q== aI && env.scope.kind== .function && env.kindOf n== some .cell)=true
    ·simp only[c,if_true,ś,hn] at h;exact h
    ·simp only[c,if_false,iw,ś,hn] at h;exact h)
   rcases h3 with h3|h3
   ·exact .inl (Ă _ h3)
   ·exact .inr (Ă _ h3)
theorem ϟ:∀(names:List (Str×aH)) (n:Nat) (ď:List (Str×À)),œ n names ď=œ n names []++ď
 | [],_,_=>rfl
 |(x,k)::r,n,ď=>by
  unfold œ;split
  ·rw[ϟ r (n+1) ((x,n)::ď),ϟ r (n+1) [(x,n)],bO];rfl
  ·exact ϟ r n ď
theorem fQ:∀(names:List (Str×aH)) (n:Nat) {x:Str} {c:À},(x,c)∈œ n names []->(x,dF)∈names
 | [],_,_,_,h=>by simp[œ] at h
 |(y,k)::r,n,x,c,h=>by
  unfold œ at h;split at h
  ·rename_i hk;rw[ϟ r (n+1) [(y,n)]] at h;rcases cw.mp h with h|h
   ·exact Ă _ (fQ r _ h)
   ·have e:(x,c)=(y,n):=by simpa using h
    cases e;rw[beq_iff_eq.mp hk];exact ĭ
  ·exact Ă _ (fQ r _ h)
structure Blk(X:Cx)(scope:ą)(n:Nat)(h:Õ)(cl:List (Str×À)):Prop where
 at_:∀x c,cl.lookup x=some c->(X.env.cells.lookup x=some c/\scope.names.lookup x≠some .cell)\/(n<c/\h.IsCell c none/\scope.names.lookup x=some .cell)
 inj:∀x y c,cl.lookup x=some c->cl.lookup y=some c->n<c->x=y
 has:∀x,((x,aI)∈scope.names\/(x,dF)∈scope.names)->∃c,cl.lookup x=some c
def E4{X:Cx}{scope:ą}{n:Nat}{h:Õ}{cl:List (Str×À)}(hcell:∀y∈scope.names,y.2=.cell->scope.names.lookup y.1=some .cell)
 (h1:∀x c,cl.lookup x=some c->X.env.cells.lookup x=some c)(h2:∀y∈scope.names,y.2=.free->∃c,cl.lookup y.1=some c)(gA:∀x c,X.env.cells.lookup x=some c->c<n)
 (ok:CellsOk h (n+1) (œ (n+1) scope.names [])):Blk X scope n h (œ (n+1) scope.names cl):=by
 have sp:∀x c,(œ (n+1) scope.names cl).lookup x=some c->(cl.lookup x=some c/\(œ (n+1) scope.names []).lookup x=none)\/(œ (n+1) scope.names []).lookup x=some c:=λx c e=>by
  rw[ϟ,List.lookup_append] at e;cases q:(œ (n+1) scope.names []).lookup x with
  |none=>rw[q] at e;exact .inl ⟨by simpa using e,rfl⟩
  |some d=>rw[q] at e;exact .inr (by simpa using e)
 refine⟨λx c e=>?_,λx y c e1 e2 hc=>?_,λx hx=>?_⟩
 ·rcases sp x c e with⟨e,q⟩|e
  ·refine .inl ⟨h1 x c e,λz=>?_⟩;obtain⟨d,hd⟩:=kY (sc:=scope) (n:=n+1) z;rw[hd] at q;cases q
  ·have m:=mem_of_lookup e;exact .inr ⟨(ok.empty x c m).2,(ok.empty x c m).1,hcell _ (fQ _ _ m) rfl⟩
 ·have nw:∀z,(œ (n+1) scope.names cl).lookup z=some c→(œ (n+1) scope.names []).lookup z=some c:=fun z e=>by
   rcases sp z c e with⟨e,q⟩|e
   ·exact absurd (gA z c (h1 z c e)) (Nat.lt_asymm hc)
   ·exact e
  exact name_of_addr ok.apart (mem_of_lookup (nw x e1)) (mem_of_lookup (nw y e2))
 ·rw[ϟ,List.lookup_append];rcases hx with hx|hx
  ·obtain⟨c,hc⟩:=h2 _ hx rfl;cases q:(œ (n+1) scope.names []).lookup x with
   |none=>exact⟨c,by simpa using hc⟩
   |some d=>exact⟨d,rfl⟩
  ·obtain⟨d,hd⟩:=kY (sc:=scope) (n:=n+1) (hcell _ hx rfl);rw[hd];exact⟨d,rfl⟩
def jr{M:Model}{A:ð}{E:Á->Å->Prop}{s:Å}{scope:ą}{globals:À}{Ds:List (Str×À)}{qual:Str}
 {func:Option À}{code:Á}{env0:Env}{builtins:À}{Q:Env->Å->Prop}
 (hQ:∀h',h'.Ns s.heap.objs.size (fun _=>none)→(∀b o,s.heap.get? b=some o→h'.get? b=some o)→CellsOk h' (s.heap.objs.size+1) (œ (s.heap.objs.size+1) scope.names [])→
   Q (newEnv scope s.heap.objs.size globals (œ (s.heap.objs.size+1) scope.names Ds) qual func code (some env0) builtins) {s with heap:=h'}) :
 Î M A (newFunctionEnv scope globals Ds [] qual func code (some env0) builtins) Q E s:=by
 simp only[newFunctionEnv,Option.isSome_some,if_true];refine Ê (wpAny_alloc ?_);refine Ê (wpAny_layCells _ (λname kind cells=>by cases hkc:kind== dF<;>simp[hkc]) _ _ _ _ ?_);have ok:=cellsFrom_ok scope.names (s.heap.push {cls:=.type "dict",data:=.dict #[]}) (s.heap.objs.size+1) [] ⟨λ_ _ hm=>(nomatch hm),Br⟩ (by rw[ϰ];exact õ _);rw[ϰ] at ok;rw[show({s with heap:=s.heap.push {cls:=.type "dict",data:=.dict #[]}}:Å).heap.objs.size=s.heap.objs.size+1 from ϰ ..];refine Ê ?_;rw[oM];exact é (é (hQ _ ((Heap.Ns.new s.heap (.type "dict")).keeps (pushCells_keeps _ _)) (λb o e=>pushCells_keeps _ _ b o (ï _ e)) ok))
theorem la{env:Env}:∀{names:List (Str×aH)} {x:Str},names.lookup x=some .free->
 ¬(names.map λ(n,k)=>if(k== aI && env.scope.kind== .function && env.kindOf n== some .cell) then(n,dF) else(n,k)).lookup x=some .local
 | [],x,h=>by simp at h
 |(n,q)::r,x,h=>by
  intro h2;rw[ý] at h2;rw[ś] at h;cases hx:x== n with
  |true=>
   rw[hx] at h;cases h;by_cases c:(aI== aI && env.scope.kind== .function && env.kindOf n== some .cell)=true
   ·simp only[c,if_true,ś,hx] at h2;cases h2
   ·simp only[c,if_false,iw,ś,hx] at h2;cases h2
  |false=>
   rw[hx] at h;have ih:=la (env:=env) h;by_cases c:(q== aI && env.scope.kind== .function && env.kindOf n== some .cell)=true
   ·simp only[c,if_true,ś,hx] at h2;exact ih h2
   ·simp only[c,if_false,iw,ś,hx] at h2;exact ih h2
def sO{Ã:List (À×Obj)}{V:Ģ}{H:Hp}{s:Å}{N':List Str}{js:List Nat}{nl:Nat}{sc:ą}{cl:List (Str×À)}{fp:List À}{h':Õ}{tk:Nat}
 (rY:X.env.scope=sc)(hk:scope.kind=.function)(hcap:eK X sc scope N' js)(hlen:js.length+nl=N'.length)(B:Blk X scope s.heap.objs.size h' cl)
 (I:Inv X Ã V H s)(hf:∀b∈fp,cb X Ã H b)(gA:∀b∈fp,b<s.heap.objs.size)
 (hn:h'.Ns s.heap.objs.size (λ_=>none))(kp:∀b o,s.heap.get? b=some o->h'.get? b=some o) :
 Inv (d_ X N' scope cl s.heap.objs.size s H fp) [] (eL js nl V) H {s with heap:=h',toks:=tk}:=by
 have E5:∀x,((d_ X N' scope cl s.heap.objs.size s H fp).env.kindOf x=some .cell\/(d_ X N' scope cl s.heap.objs.size s H fp).env.kindOf x=some .free)->∃c,cl.lookup x=some c:=λx hx=>by
  rcases hx with hx|hx
  ·exact B.has x (fP (.inl rfl) hx)
  ·exact B.has x (fP (.inr rfl) hx)
 have lt:∀x c,X.env.cells.lookup x=some c->c<s.heap.objs.size:=λx c e=>by obtain⟨v,o,ho,_⟩:=I.cell x c e;exact ó ho
 have inj:∀x y c,cl.lookup x=some c->cl.lookup y=some c->x=y:=λx y c e1 e2=>by
  rcases B.at_ x c e1 with⟨q1,_⟩|⟨q1,_⟩
  ·rcases B.at_ y c e2 with⟨q2,_⟩|⟨q2,_⟩
   ·exact I.ok.inj x y c q1 q2
   ·exact absurd (lt x c q1) (Nat.lt_asymm q2)
  ·exact B.inj x y c e1 e2 q1
 refine⟨⟨I.ok.mod,hk,I.ok.glob,I.ok.blt,õ _,inj,E5,λx c z e=>by
  rcases B.at_ x c e with⟨_,q⟩|⟨q,_⟩
  ·exact absurd (beq_iff_eq.mp z) q
  ·exact fg q,I.ok.hd,I.ok.frames,.inl rfl,λb hb=>⟨ę (gA b hb),λx c e=>by
  rcases B.at_ x c e with⟨q,_⟩|⟨q,_⟩
  ·exact(hf b hb).2.2.2.2.1 x c q
  ·exact bf (ut (gA b hb) q)⟩,
  I.bs,Ĺ I.ok.B4 I.sz,fun b o e hb=>?_,fun b hb hz=>?_,I.stack,I.pP,I.tb⟩,rfl,I.bare,Un.kept kp,⟨_,hn,fun i x v e1 e2 e3=>?_⟩,fun x c e=>?_,I.hok.fresh (õ _),fun x c e=>by
    rcases B.at_ x c e with⟨q,_⟩|⟨q,_⟩
    ·exact I.b_ x c q
    ·exact I.hok.fresh (fg q),λp hp=>?_,I.hok.kept kp,?_⟩
 ·rcases(hf b hb).2.2.2.1 with z|z
  ·exact I.ok.sd b o e z
  ·exact absurd (Ţ (ó e) (Ĺ I.ok.B4 z)) (ų _)
 ·rcases Ā.mp (I.p_ b hz) with z|z
  ·exact(hf b hb).2.1 z
  ·exact(hf b hb).2.2.1 z
 ·obtain⟨j,q1,q2,q0,q3⟩:=mj hcap e1 e2;obtain⟨m,hm,hl⟩:=I.loc;have PU:w_ X.env.scope x:=by
   rw[rY];rcases q3 with q3|q3
   ·exact .inr (.inl q3)
   ·exact .inr (.inr q3)
  obtain⟨u,ru,lk⟩:=hl j x v q1 q2 PU;refine⟨u,ru,?_⟩;rcases lk with⟨k1,_⟩|⟨k1,c,hc,ic⟩
  ·exfalso;have Ws:sc.names.lookup x=some .local:=by rw[<-rY];exact k1
   rcases q3 with q3|q3<;>(rw[Ws] at q3;cases q3)
  ·have e3':(d_ X N' scope cl s.heap.objs.size s H fp).env.kindOf x=some .local\/(d_ X N' scope cl s.heap.objs.size s H fp).env.kindOf x=some .cell\/(d_ X N' scope cl s.heap.objs.size s H fp).env.kindOf x=some .free:=e3;rcases e3' with z|z
   ·exact absurd z (la (env:=X.env) q0)
   ·obtain⟨d,hd⟩:=E5 x z;have:d=c:=by
     rcases B.at_ x d hd with⟨q,_⟩|⟨_,_,q⟩
     ·rw[hc] at q;exact(ŀ q).symm
     ·rw[q0] at q;cases q
    subst this;exact .inr ⟨z,d,hd,by
     obtain⟨o,ho,Sw⟩:=ic;exact⟨o,kp _ _ ho,Sw⟩⟩
 ·rcases B.at_ x c e with⟨q,_⟩|⟨_,q,_⟩
  ·obtain⟨v,o,ho,hd⟩:=I.cell x c q;exact⟨v,o,kp _ _ ho,hd⟩
  ·exact⟨none,q⟩
 ·exact absurd hp (by simp[d_])
 ·show _=N'.length;rw[<-hlen];simp[eL]
def qg{Ã:List (À×Obj)}{V V':Ģ}{H H':Hp}{s s':Å}{N':List Str}{cl:List (Str×À)}{fp:List À}{h':Õ}(I:Inv X Ã V H s)(hf:∀b∈fp,cb X Ã H b)
 (J:Inv (d_ X N' scope cl s.heap.objs.size s H fp) [] V' H' s')(kp:∀b u,b≠s.heap.objs.size->s'.heap.get? b=some u->h'.get? b=some u):Inv X Ã V H' {s' with heap:=h'}:=by
 have ne:∀{b:À} {o:Obj},s.heap.get? b=some o->b≠s.heap.objs.size:=λe=>ę (ó e);have u:=J.base;refine I.call' (ch:=fp) J.os ⟨λb o e n hb hx=>kp b o (ne e) (u.keep b o e n hb hx),λb o e n hb hx=>?_,λb o e n hx=>u.free b o e n hx,λb o e hx=>?_,u.tups,u.fG,u.dZ⟩ (Cf J.hok J.free kp) J.bare λb hb=>?_
 ·obtain⟨sl,q⟩:=u.slot b o e n hb hx;exact⟨sl,kp b _ (ne e) q⟩
 ·obtain⟨o',q⟩:=u.there b o e hx;exact⟨o',kp b _ (ne e) q⟩
 ·exact⟨(hf b hb).2.2.2.1,(hf b hb).2.1,(hf b hb).2.2.2.2.1,(hf b hb).2.2.2.2.2⟩
def Jh(N':List Str)(js:List Nat)(nl:Nat)(sc:ą)(rY:X.env.scope=sc)(hcalm:X.calm=true)
 (hi:PI X.ϖ tg iter wi)(hg:∀cl C s H fp,PG (d_ X.ϖ N' scope cl C s H fp) tg g)(ht:∀cl C s H fp,Ej (d_ X.ϖ N' scope cl C s H fp) ifs tt)(he:∀cl C s H fp,PE (d_ X.ϖ N' scope cl C s H fp) elt te)
 (hcap:eK X.ϖ sc scope N' js)(hlen:js.length+nl=N'.length:=by rfl)
 (hk:scope.kind=.function:=by rfl)(hcell:∀y∈scope.names,y.2=.cell->scope.names.lookup y.1=some .cell:=by decide +kernel)(hnames:∀y∈scope.names,y.2=.local->scope.names.lookup y.1=some .local:=by decide +kernel)
 (hfree:∀y∈scope.names,y.2=.free->(sc.names.lookup y.1=some .cell\/sc.names.lookup y.1=some .free):=by decide +kernel)
 (hs:∀x,dz iter X.env x=ö x:=by intro _;rfl) :
 PE X.ϖ (.ListComp elt [⟨tg,iter,ifs,0⟩] scope pos) (E3 js nl wi g tt te):=by
 intro Ã s V H Q I h;obtain⟨Ur,c1,c2,c3⟩:=fO (scope:=scope) (env:=X.ϖ.env) λy hy hf=>I.ok.has y.1 (by
  have:=hfree y hy hf;rw[<-rY] at this;exact this)
 rw[eval_ListComp];refine BF (use:=none) rfl hs c1 hk hnames (Ų (hi Ã s V H _ I h) λv s1 h1=>Ų h1 λX7 s2 h2=>?_);obtain⟨it,fp,tn,J,H2,e,I2,T,Sy,f2,q2⟩:=h2;subst e;refine iJ (jr (λh₁ A7 pZ PY=>?_));dsimp only at A7 pZ PY ⊢;generalize PZ:s2.heap.push {cls:=.type "list",dict:=none,data:=.seq ([]:List Á).toArray}=cJ at A7 pZ PY ⊢;have hD:H2 s2.heap.objs.size=none:=I2.hok.fresh (õ _);have I3:Inv X.ϖ Ã V (upd H2 s2.heap.objs.size (.lst [])) {s2 with heap:=cJ}:=by rw[<-PZ];exact I2.laid (t':=s2.toks) (λb u e=>ï _ e) (õ _) ⟨cA _,[],0,.nil,Ħ _ rfl⟩
 have E6:∀b∈fp,b<s2.heap.objs.size:=λb hb=>by obtain⟨o,ho,_⟩:=T.obj 0 _ Sy b hb;exact ó ho
 have P_:cJ.objs.size=s2.heap.objs.size+1:=by rw[<-PZ,ϰ]
 have f3:∀b∈fp,cb X.ϖ Ã (upd H2 s2.heap.objs.size (.lst [])) b:=λb hb=>by obtain⟨g0,g1⟩:=f2 b hb;exact⟨by rw[ì (ę (E6 b hb))];exact g0,g1⟩
 have B:=E4 (X:=X.ϖ) (cl:=Ur) hcell c2 c3 (λx c e=>by obtain⟨v,o,ho,_⟩:=I3.cell x c e;exact ó ho) PY;generalize œ (cJ.objs.size+1) scope.names Ur=cl at B ⊢;obtain⟨W,⟨m0,w0⟩,turn⟩:=q2 s2.heap.objs.size hD;have I4:=sO (X:=X.ϖ) (N':=N') (js:=js) (nl:=nl) (sc:=sc) (scope:=scope) (cl:=cl) (fp:=fp) (h':=h₁) (tk:=s2.toks) rY hk hcap hlen B I3 f3 (λb hb=>by show b<cJ.objs.size;rw[P_];exact dr (E6 b hb)) A7 pZ;have Us:tn 0 h₁:= T.keep 0 _ _ Sy λb hb o e=>pZ b o (by rw[<-PZ];exact ï _ e);have YN:∀b∈fp,(upd H2 s2.heap.objs.size (.lst [])) b=none:=λb hb=>(f3 b hb).1;have stat:∀{H':Hp},(∀b∈fp,H' b=none)->∀b∈fp,cb (d_ X.ϖ N' scope cl cJ.objs.size {s2 with heap:=cJ} (upd H2 s2.heap.objs.size (.lst [])) fp) [] H' b:=fun{H'} hn b hb=>by
  obtain⟨g0,g1,g2,g3,g4,g5⟩:=f3 b hb;refine⟨hn b hb,ę (by show b<cJ.objs.size;rw[P_];exact dr (E6 b hb)),λz=>?_,.inl hb,λx c e=>by
   rcases B.at_ x c e with⟨q,_⟩|⟨q,_⟩
   ·exact g4 x c q
   ·exact bf (ut (by show b<cJ.objs.size;rw[P_];exact dr (E6 b hb)) q),λp hp=>absurd hp (by simp[d_])⟩
  rcases Ā.mp (I3.p_ b z) with z|z
  ·exact g1 z
  ·exact g2 z
 have loop:∀s₃:Å,s₃= {s2 with heap:=h₁}->
  Ϛ (Ó X.prog X.w) X.A (.compLoop (.ListComp elt [⟨tg,iter,ifs,0⟩] scope pos) 0 (.ref it) (.ref s2.heap.objs.size) (compEnvC scope cl cJ.objs.size X.ϖ.env))
   (compPost (Ó X.prog X.w) X.A X.ϖ.xe none (EP X.ϖ Ã V Q) (.ref s2.heap.objs.size) cJ.objs.size) s₃:= by
  rintro s₃ rfl;refine k_ (λn s'=>∃i V' H',Inv (d_ X.ϖ N' scope cl cJ.objs.size {s2 with heap:=cJ} (upd H2 s2.heap.objs.size (.lst [])) fp) [] V' H' s'/\tn i s'.heap/\(∀b∈fp,H' b=none)/\W i n V' H') ?_ m0 ⟨0,_,_,I4,Us,YN,w0⟩;rintro n s5 ⟨i,V5,H5,I5,IM,Pb,w5⟩;rcases turn i n V5 H5 w5 with⟨stop,qn⟩|⟨go,N,hN,step⟩
  ·refine Ų (T.done (d_ X.ϖ N' scope cl cJ.objs.size {s2 with heap:=cJ} (upd H2 s2.heap.objs.size (.lst [])) fp) rfl rfl rfl hcalm i [] s5 V5 H5 (λ_ _=>False) I5 (stat Pb) IM stop) λr s6 ⟨hr,I6⟩=>?_;subst hr;obtain⟨m,hm,_⟩:=I6.loc;refine⟨m,hm,λh' Iz=>⟨.ref s2.heap.objs.size,H5,qg I3 f3 I6 (λb u hb e=>Iz.extBut b u hb e),rfl,qn⟩⟩
  ·refine Ų (T.item (d_ X.ϖ N' scope cl cJ.objs.size {s2 with heap:=cJ} (upd H2 s2.heap.objs.size (.lst [])) fp) rfl rfl rfl hcalm i [] s5 V5 H5 (λ_ _=>False) I5 (stat Pb) IM go) λr s6 ⟨u,hr,h6⟩=>?_;subst hr;refine Ų h6 λ_ s7 ⟨x,H7,I7,r7,y7,P0,YO⟩=>?_;have YQ:=I7.pinned (stat YO) (T.obj _ _ P0);have again:∀{s8:Å} {V8:Ģ} {H8:Hp},Inv (d_ X.ϖ N' scope cl cJ.objs.size {s2 with heap:=cJ} (upd H2 s2.heap.objs.size (.lst [])) fp) ([]++lV fp s7.heap) V8 H8 s8->
    Inv (d_ X.ϖ N' scope cl cJ.objs.size {s2 with heap:=cJ} (upd H2 s2.heap.objs.size (.lst [])) fp) [] V8 H8 s8/\tn (i+1) s8.heap/\∀b∈fp,H8 b=none:=fun{s8 V8 H8} I8=>by
    refine⟨I8.eI,T.keep _ _ _ P0 λb hb o e=>(I8.pin (b,o) (Ř _ (Ř _ (ϸ hb e)))).1,λb hb=>?_⟩;obtain⟨o,e,d⟩:=T.obj _ _ P0 b hb;exact(I8.pin (b,o) (Ř _ (Ř _ (ϸ hb e)))).2.1
   refine Ų (hg cl _ _ _ fp _ s7 V5 H7 x u _ YQ r7 (step x H7 y7)) λ_ s8 ⟨V8,H8,I8,q8⟩=>?_;refine Ų (ht cl _ _ _ fp _ s8 V8 H8 _ I8 q8) λc s9 ⟨H9,I9,q9⟩=>?_;cases c with
   |false=>rw[if_neg ϥ] at q9 ⊢;obtain⟨m',SN,w9⟩:=hN _ _ q9;obtain⟨a1,a2,a3⟩:=again I9;exact⟨m',SN,i+1,V8,H9,a1,a2,a3,w9⟩
   |true=>rw[if_pos rfl] at q9 ⊢;refine Ų (he cl _ _ _ fp _ s9 V8 H9 _ I9 q9) λyv YR ⟨y,YT,YU,r10,ys,e10,l10,w10⟩=>?_;refine Ų (ŗ _ YR V8 YT (.ref s2.heap.objs.size) [y] (.ref s2.heap.objs.size) [yv] (λ_ P4=>N V8 P4) YU rfl (.cons r10 .nil) ⟨_,ys,y,rfl,rfl,e10,l10,w10⟩) λ_ s11 ⟨v11,P4,YV,_,SO⟩=>?_;obtain⟨a1,a2,a3⟩:=again YV;obtain⟨m',SN,SO⟩:=hN _ _ SO;exact⟨m',SN,i+1,V8,P4,a1,a2,a3,SO⟩
 exact codeAny_compStart_list (loop _ rfl) (T.self _ 0 _ _ _ Us (loop _ rfl))
end
def Its(z:Str):It:=⟨λi _=>i<z.cps.size,λi H x H'=>H'=H/\∃c,z.cps.toList[i]?=some c/\x=.str ⟨#[c]⟩,λi _=>i=z.cps.size⟩
def DG{P:î}{w:ß}{K:Ñ}{tg:Ð}(it:À)(z:Str)(t:Tok)(ty:String)
 (hW:∀A:ð,A.handled=none->Walks P w A it [it] [it] z.cps.size (SignAt z) (λi h=>h.IsStrIter it ty z t i))
 (hS:∀(A:ð) (i:Nat) (s:Å) (Q:Á->Å->Prop) (E:Á->Å->Prop),s.heap.IsStrIter it ty z t i->Q (.ref it) s->Î (Ó P w) A (cC (.ref it)) Q E s)
 (jP:["enumerate","zip","dict_itemiterator","dict_reverseitemiterator","odict_iterator","itertools.zip_longest","itertools.pairwise"].contains ty=false):za P w K tg (Its z) [it] it (λi h=>h.IsStrIter it ty z t i) where
 mem:=by simp
 obj:=λi h st b hb=>by
  have e:b=it:=by simpa using hb
  subst e;obtain⟨o,e,c,d⟩:=st;exact⟨o,e,λv z=>by rw[d] at z;cases z⟩
 keep:=λi h h' st k=>by obtain⟨o,e,c,d⟩:=st;exact⟨o,k it (by simp) o e,c,d⟩
 item:=by intro X hP hw hK hc i Ã s V H E I hf st hg;subst hP hw hK;obtain⟨f0,f1,f2,f3,f4,f5⟩:=hf it (by simp);refine(hW X.A (I.ok.hd hc)).item i s _ _ hg st λv h' tk hv zn kk=>?_;obtain⟨c,u,hcu,rfl⟩:=hv;have I1:Inv X Ã V H {s with heap:=h',toks:=tk}:=I.turned (λb o hb e=>kk b o (by simpa using hb) e) f0 f1 f3 f4 f5;obtain⟨o,e,cl,d⟩:=id zn;exact⟨_,rfl,xq (s:={s with heap:=h',toks:=tk}) e cl d jP ⟨.str ⟨#[c]⟩,H,I1,⟨u,rfl⟩,⟨rfl,c,by simpa using hcu,rfl⟩,zn,λb hb=>(hf b hb).1⟩⟩
 done:=by intro X hP hw hK hc i Ã s V H E I hf st hg;subst hP hw hK;obtain⟨f0,f1,f2,f3,f4,f5⟩:=hf it (by simp);have e:i=z.cps.size:=hg;subst e;exact(hW X.A (I.ok.hd hc)).done s _ _ st λh' tk kk=>⟨rfl,I.turned (λb o hb e=>kk b o (by simpa using hb) e) f0 f1 f3 f4 f5⟩
 self:=hS
section
end
end M3
namespace M4
open PySem PySem.Spec PyProof.Rows L2 M2 M3
section
variable{X:Cx}
def Cg{bs:List Bool}:∀{us:List Á},Ĳ (bs.map Qqj.bl) us->us=bs.map am:=by
 induction bs with
 |nil=>intro us r;rw[be] at r;cases r;rfl
 |cons b bs ih=>
  intro us r;rw[ý] at r;cases r with
  |cons r1 r2=>cases r1;rw[ih r2];rfl
def all_range(bs:List Bool):(Ò (bs.map am).toArray.size).all (λi=>bs.getD i false)=bs.all id:=by
 have e:(bs.map am).toArray.size=bs.length:=by simp
 rw[e,jU];simp only[fe,ĸ,id];constructor
 ·intro h b hb;obtain⟨i,hi,rfl⟩:=ka.mp hb;have:=h i hi;rw[Ϫ,Ō hi] at this;exact this
 ·intro h i hi;rw[Ϫ,Ō hi];exact h _ (cz hi)
def any_range(bs:List Bool):(Ò (bs.map am).toArray.size).any (λi=>bs.getD i false)=bs.any id:=by
 have e:(bs.map am).toArray.size=bs.length:=by simp
 rw[e,jU];simp only[List.any_eq_true,ĸ,id];constructor
 ·rintro ⟨i,hi,h⟩;rw[Ϫ,Ō hi] at h;exact⟨_,cz hi,h⟩
 ·rintro ⟨b,hb,h⟩;obtain⟨i,hi,rfl⟩:=ka.mp hb;exact⟨i,hi,by rw[Ϫ,Ō hi];exact h⟩
def nj{prog:î}{w:ß}{A:ð}(bs:List Bool):TruthOf prog w A (λi v=>(bs.map am).toArray[i]?=some v) (λi=>bs.getD i false):=by
 intro i v s Q E hv hq;have A4:bs[i]?.map am=some v:=by rw[<-Ϩ];simpa using hv
 cases hb:bs[i]? with
 |none=>rw[hb] at A4;cases A4
 |some b=>rw[hb] at A4;cases A4;dsimp only at hq;rw[Ϫ,hb] at hq;exact cF hq
def P5(K:Ñ):List Qqj->Hp->VK->Prop:=λxs H Q=>match xs with
 | [.ref p]=>∃bs:List Bool,Ϟ K H p (bs.map Qqj.bl)/\Q (.bl (bs.all id)) H
 |_=>False
def P6(K:Ñ):List Qqj->Hp->VK->Prop:=λxs H Q=>match xs with
 | [.ref p]=>∃bs:List Bool,Ϟ K H p (bs.map Qqj.bl)/\Q (.bl (bs.any id)) H
 |_=>False
def qh(hc:X.calm=true):ϔ X (.builtin "all") (P5 X.K):=by
 intro Ã s V H xs us Q I r h;unfold P5 at h;split at h
 ·rename_i p;obtain⟨bs,hS,q⟩:=h;obtain⟨u,rfl,ru⟩:=vals1 r;cases ru;obtain⟨ċ,rv,pl,hz⟩:=I.list hS;have e:=Cg rv;subst e;have hp:p≠s.heap.objs.size:=by
   obtain⟨o,n,e,_⟩:=pl;exact ę (ó e)
  refine call_all_walk (kD pl.isList ?_);refine⟨s.heap.objs.size,_,_,_,_,_,_,rfl,kW (A:=X.A.in1) (show X.A.in1.handled=none from I.ok.hd hc) s.heap.objs.size p hp (bs.map am).toArray,⟨⟨_,Ħ _ rfl,rfl,rfl⟩,pl.isList.at λo e=>ï _ e⟩,nj bs,λh' tk k=>?_⟩;rw[all_range];exact⟨.bl _,H,I.kept λb o e=>k b o (by simpa using ę (ó e)) (ï _ e),rfl,q⟩
 ·exact h.elim
def E7(hc:X.calm=true):ϔ X (.builtin "any") (P6 X.K):=by
 intro Ã s V H xs us Q I r h;unfold P6 at h;split at h
 ·rename_i p;obtain⟨bs,hS,q⟩:=h;obtain⟨u,rfl,ru⟩:=vals1 r;cases ru;obtain⟨ċ,rv,pl,hz⟩:=I.list hS;have e:=Cg rv;subst e;have hp:p≠s.heap.objs.size:=by
   obtain⟨o,n,e,_⟩:=pl;exact ę (ó e)
  refine call_any_walk (kD pl.isList ?_);refine⟨s.heap.objs.size,_,_,_,_,_,_,rfl,kW (A:=X.A.in1) (show X.A.in1.handled=none from I.ok.hd hc) s.heap.objs.size p hp (bs.map am).toArray,⟨⟨_,Ħ _ rfl,rfl,rfl⟩,pl.isList.at λo e=>ï _ e⟩,nj bs,λh' tk k=>?_⟩;rw[any_range];exact⟨.bl _,H,I.kept λb o e=>k b o (by simpa using ę (ó e)) (ï _ e),rfl,q⟩
 ·exact h.elim
end
abbrev S(l:List Nat):Str:=⟨l.toArray⟩
def YW(z:Str):S z.cps.toList=z:=by cases z;simp
def Ut(l:List Nat):(S l).length=l.length:=by simp[Str.length]
def xC(z:Str):z.cps.toList.length=z.length:=by simp[Str.length]
def vp(xs:List Nat)(lo hi:Option Int):List Nat:=(xs.drop (HT.jR xs.length 0 lo)).take (HT.jR xs.length xs.length hi-HT.jR xs.length 0 lo)
def H0(z:Str)(lo hi:Option Int):iS lo hi 1 z.length=(Ò (HT.jR z.length z.length hi-HT.jR z.length 0 lo)).map (HT.jR z.length 0 lo + ·):=by
 have hc:∀(o:Option Int) (d:Nat),d<=z.length->(match o with|none=>((d:Nat):Int)|some i=>max 0 (min (if i<0 then i+(z.length:Int) else i) (z.length:Int)))=((HT.jR z.length d o:Nat):Int):=by
  intro o d hd;cases o with
  |none=>rfl
  |some i=>
   show max 0 (min (if i<0 then i+(z.length:Int) else i) (z.length:Int))=((if i<0 then(i+(z.length:Int)).toNat else min i.toNat z.length:Nat):Int);by_cases h:i<0
   ·rw[if_pos h,if_pos h];lia
   ·rw[if_neg h,if_neg h];lia
 have e:iS lo hi 1 z.length=sliceRange ((HT.jR z.length 0 lo:Nat):Int) ((HT.jR z.length z.length hi:Nat):Int) 1:=by have h1:=hc lo 0 (cA _);have h2:=hc hi z.length (õ _);unfold iS;simp only[show(1:Int)>0 by decide,if_true];rw[<-h1,<-h2];cases lo<;>cases hi<;>rfl
 rw[e,sliceRange_one]
def Ji(z:Str)(lo hi:Option Int):(iS lo hi 1 z.length).filterMap (z.cps[·]?)=vp z.cps.toList lo hi:=by rw[H0,pick_run];unfold vp;rw[xC]
def Jj(xs:List Nat)(lo hi:Option Int):(vp xs lo hi).length<=xs.length:=by unfold vp;rw[oK,List.length_drop];lia
def E8{z:Str}{t:Tok}{l u:Option (Int×Tok)}{Q:Á->Å->Prop}{s:Å}(hz:z.length<=sizeLine)
 (h:∀t' k,Q (.str (S (vp z.cps.toList (l.map (·.1)) (u.map (·.1)))) t') {s with toks:=k}):(sliceMade z t l u none).post Q s:=by
 have e:=Ji z (l.map (·.1)) (u.map (·.1));unfold sliceMade;have ep:slicePicked z l u none=iS (l.map (·.1)) (u.map (·.1)) 1 z.length:=rfl;rw[ep];split
 ·rename_i hc;have hl:(iS (l.map (·.1)) (u.map (·.1)) 1 z.length).length=z.length:=by simpa using hc
  have hz2:vp z.cps.toList (l.map (·.1)) (u.map (·.1))=z.cps.toList:=by
   rw[H0,ř,oN] at hl;have hi:=HT.ER z.length 0 (cA _) (l.map (·.1));have hj:=HT.ER z.length z.length (õ _) (u.map (·.1));unfold vp;rw[xC];have Es:=xC z;have a0:HT.jR z.length 0 (l.map (·.1))=0\/z.length=0:=by lia
   rcases a0 with a0|a0
   ·rw[a0] at hl ⊢;rw[List.drop_zero];exact Bh (by lia)
   ·have:z.cps.toList=[]:=Bi (by lia);rw[this];simp
  have:=h t s.toks;rw[hz2,YW] at this;exact this
 ·rw[e];exact⟨by rw[Ut];have:=Jj z.cps.toList (l.map (·.1)) (u.map (·.1));rw[xC] at this;lia,h _ _⟩
section
variable{X:Cx}
def YX:Qqj->Option Int->Option Int->Hp->VK->Prop:=λx lo hi H Q=>match x with
 | .str z=>z.length<=sizeLine/\Q (.str (S (vp z.cps.toList lo hi))) H
 |_=>False
def Jk:Cb X YX:=by
 intro Ã s V H x v vl vu lo hi sl Q I rx hs pl pu h;cases x with
 |str z=>
  obtain⟨t,rfl⟩:=rx;obtain⟨hz,q⟩:=h;obtain⟨l,el,el2⟩:∃l:Option (Int×Tok),partValue l=vl/\l.map (·.1)=lo:=by
   cases pl with
   |none=>exact⟨none,rfl,rfl⟩
   |int i t=>exact⟨some (i,t),rfl,rfl⟩
  obtain⟨u,eu,eu2⟩:∃u:Option (Int×Tok),partValue u=vu/\u.map (·.1)=hi:=by
   cases pu with
   |none=>exact⟨none,rfl,rfl⟩
   |int i t=>exact⟨some (i,t),rfl,rfl⟩
  subst el el2 eu eu2;exact⟨"str",_,F.slot_str_getitem.lookup,typeIs_str s z t,wpAny_getItem_str_slice (l:=l) (u:=u) (st:=none) hs rfl (E8 hz λt' k=>⟨.str _,H,I.tok _,⟨_,rfl⟩,q⟩)⟩
 |_=>exact h.elim
def YY(K:Ñ):Qqj->Option Int->Option Int->Hp->VK->Prop:=λx lo hi H Q=>match x with
 | .ref a=>∃xs,Ϟ K H a xs/\∀p,H p=none->Q (.ref p) (upd H p (.lst (xw xs lo hi)))
 | .str z=>z.length<=sizeLine/\Q (.str (S (vp z.cps.toList lo hi))) H
 |_=>False
def slm:Cb X (YY X.K):=Cb.wk (E1.or Jk) λx lo hi H Q h=>by
 cases x with
 |ref a=>exact .inl h
 |str z=>exact .inr h
 |_=>exact h.elim
def SQ(z:Str){n:Int}(h:0<=n):Txt.mul z n=S (Ï n.toNat z.cps.toList).flatten:=by
 have key:∀(k:Nat) (ď:Array Nat),((Ï k z.cps).foldl (·++ ·) ď).toList=ď.toList++(Ï k z.cps.toList).flatten:=by
  intro k
  induction k with
  |zero=>intro ď;simp
  |succ k ih=>intro ď;rw[cy,aC,ih,cy,fc];simp
 unfold Txt.mul;refine PyProof.Rows.ext_toList ?_;by_cases h1:n<1
 ·rw[if_pos h1];have:n.toNat=0:=by lia
  rw[this];simp[Str.empty]
 ·rw[if_neg h1];split
  ·rename_i hc;rw[tY] at hc;rcases hc with hc|hc
   ·have:n=1:=by simpa using hc
    subst this;simp
   ·have h0:z.cps.toList=[]:=Bi (by rw[xC];simpa using hc);rw[h0];simp
  ·rw[key];simp
def E9(z:Str)(n:Int):Prop:=0<=n/\n<=1000/\z.length<=1000
def E9.ok{z:Str}{n:Int}(h:E9 z n):MulOk z n:=by
 obtain⟨h0,h1,h2⟩:=h;refine⟨?_,λhn _=>?_,λhn _=>?_⟩
 ·rw[decide_eq_false (by lia),decide_eq_false (by lia)];rfl
 ·have:(9000000000000000:Int)≤(2 ^ 63-1) / n:=by
   rw[Int.le_ediv_iff_mul_le (by lia)];lia
  lia
 ·have:z.length*n.toNat<=1000*1000:=du h2 (by lia);unfold Builtin.Str.tooLong;simp;rw[cE];lia
def Fa:R2:=λx y H Q=>match x,y with
 | .int i,.int j=>sN i j/\Q (.int (i*j)) H
 | .str z,.int n=>E9 z n/\Q (.str (S (Ï n.toNat z.cps.toList).flatten)) H
 |_,_=>False
def Jl:ϲ X (Ł .Mult) Fa:=by
 intro Ã s V H x y v u Q I rx ry h;unfold Fa at h;split at h
 ·exact PM Ã s V H _ _ v u Q I rx ry h
 ·obtain⟨t,rfl⟩:=rx;obtain⟨t',rfl⟩:=ry;exact SB.mul h.1.ok λt' k=>⟨.str _,H,I.tok _,⟨_,by rw[SQ _ h.1.1]⟩,h.2⟩
 ·exact h.elim
end
end M4
namespace M5
open PySem PySem.Spec PyProof.Rows L2 M2 M3
def zJ{p2:Pos}{c:Á}{a b:Int}{cv:Á}(l:List Á)(h:TriplesOk l)(e:codeAmong p2 (l ++ [Ŵ a,Ŵ b,c])=some cv):codeAmong p2 l=some cv\/cv=c:=by
 fun_induction TriplesOk l with
 |case1=>
  right
  simp only[Ś,codeAmong,Ŵ] at e;split at e
  ·exact(ŀ e).symm
  ·cases e
 |case2 a' t b' u x rest ih=>
  simp only[kc,codeAmong] at e ⊢;split at e
  ·rename_i hc;rw[if_pos hc];exact .inl e
  ·rename_i hc;rw[if_neg hc];exact ih h e
 |case3 l h1 h2=>exact h.elim
section
variable{X:Cx}{Ã:List (À×Obj)}{V:Ģ}{H:Hp}{s:Å}{x:Str}{c P:À}{params:dC}{body:Ð}{scope:ą}{pos:Pos}{cl:List (Str×À)}
def Fb{Q:Á->Å->Prop}{E:Á->Å->Prop}(I:Inv X Ã V H s)(hx:x∈lams)(ht:Ů X.K x=some (c,P))(tM:X.env.code=.ref c)(hq:X.env.qual=x ++ ".<locals>.")(Ia:defaultsOf params X.env=([],[]))(Dt:closureFor scope X.env=ö cl)
 (h:∀f c' pm zc H' s',Inv X Ã V H' s'->(∀a,H a=none->H' a=none\/a=c')->Û H H'->H' c'=some (.B3 (cQ x))->s'.heap.get? f=some (kU "<lambda>" (cQ x) params body scope cl pm c' zc)->cb X Ã H' f->Q (.ref f) s') :
 Î (Ó X.prog X.w) X.A (Ý (.Lambda params body scope pos) X.env) Q E s:=by
 obtain⟨C,hT,hB⟩:=I.tb x c P hx ht;obtain⟨ps,hP,tr,ent⟩:=I.hok P _ hT;have hg:=I.ok.mod.glob.keeps I.bk;have hgP:ū≠P:=λq=>by obtain⟨o,es,ep,e,hd,_⟩:=hg;rw[q,hP] at e;cases e;cases hd
 have hB':s.heap.BuiltinsAt X.mg P:=by obtain⟨bm,ob,b1,b2,b3,b4,b5,b6⟩:=hB;exact⟨bm,ob,b1,b2,b3,b4,I.bk _ _ b5,b6⟩
 refine PySem.W.kla_eval Ia ?_;rw[hq];cases hf:codeAmong pos ps.toList with
 |none=>
  refine PySem.W.kla_makeFunction (mg:=X.mg) Dt I.ok.glob hg tM (C.keeps I.bk) hP tr hf hgP hB' λc' zc h' tk hxb X9 gA hrec wV=>?_;have jN:H c'=none:=I.hok.fresh X9;have hcP:c'≠P:=λz=>by rw[z,hT] at jN;cases jN
  have neP:∀b,H b=none->b≠P:=λb n z=>by rw[z,hT] at n;cases n
  have pZ:∀b o,b≠P->s.heap.get? b=some o->(h'.push (kU "<lambda>" (cQ x) params body scope cl ((X.mg "__name__").getD .none) c' zc)).get? b=some o:=λb o hb e=>ï _ (hxb b o hb e);have u:Un X.fs [] H (upd H c' (.B3 (cQ x))) s.heap (h'.push (kU "<lambda>" (cQ x) params body scope cl ((X.mg "__name__").getD .none) c' zc)):=by
   refine⟨λb o e n _ _=>pZ b o (neP b n) e,λb o e n _ _=>⟨o.slots,pZ b o (neP b n) e⟩,λb o e n _=>?_,λb o e _=>?_,λb xs e=>by rw[ì (ø e jN)];exact e,λb o u e=>by rw[ì (ø e jN)];exact e,λb q e=>by rw[ì (ø e jN)];exact e⟩
   ·rw[ì (ę (Ţ (ó e) X9))];exact n
   ·by_cases hb:b=P
    ·exact⟨_,by rw[hb];exact ï _ wV⟩
    ·exact⟨o,pZ b o hb e⟩
  have hok:eD X.prog X.w (upd H c' (.B3 (cQ x))) (h'.push (kU "<lambda>" (cQ x) params body scope cl ((X.mg "__name__").getD .none) c' zc)):=λb v e=>by
   by_cases hb:b=c'
   ·subst hb;rw[þ] at e;cases e;obtain⟨c2,o,vs,t,z,e1,r⟩:=hrec;exact⟨c2,o,vs,t,z,ï _ e1,r⟩
   ·rw[ì hb] at e;by_cases X8:b=P
    ·subst X8;rw[hT] at e;cases e;refine⟨_,ï _ wV,?_,λp2 cv z=>?_⟩
     ·have:=TriplesOk_snoc pos.line pos.col (.ref c') ps.toList tr;simpa using this
     ·rcases zJ (a:=pos.line) (b:=pos.col) (c:=.ref c') ps.toList tr (by simpa using z) with z|z
      ·obtain⟨d,z1,z2⟩:=ent p2 cv z;exact⟨d,z1,by rw[ì (ø z2 jN)];exact z2⟩
      ·exact⟨c',z,þ⟩
    ·exact(I.hok b v e).stay (fun b2 o Wt q=>pZ b2 o (by
      rcases Wt with z|z
      ·rw[z];exact X8
      ·intro z2;rw[z2,hT] at z;cases z) q) (λd q=>by rw[ì (ø q jN)];exact q) (λd xs q=>by rw[ì (ø q jN)];exact q) λd xs q=>by rw[ì (ø q jN)];exact q
  have hfz:s.heap.objs.size<=h'.objs.size:=fg (Nat.lt_of_le_of_lt X9 gA);refine h h'.objs.size c' _ zc (upd H c' (.B3 (cQ x))) _ (I.un (t':=tk) u hok) (λa n=>?_) (λb v e=>by rw[ì (ø e jN)];exact e) þ (Ħ _ rfl) (I.qc hfz (by rw[ì (bf gA)];exact I.hok.fresh hfz));by_cases ha:a=c'
  ·exact .inr ha
  ·exact .inl (by rw[ì ha];exact n)
 |some cv=>obtain⟨c',rfl,X6⟩:=ent pos cv hf;refine PySem.W.kla_makeFunctionHit (mg:=X.mg) Dt I.ok.glob hg tM (C.keeps I.bk) hP tr hf hB' λzc h' tk hk jO=>?_;exact h h'.objs.size c' _ zc H _ (I.kept (t':=tk) λb o e=>ï _ (hk b o e)) (λ_ n=>.inl n) (Û.refl H) X6 (Ħ _ rfl) (I.qc jO (I.hok.fresh jO))
end
noncomputable def Ek(X:Cx)(N':List Str)(qual:Str)(scope:ą)(cl:List (Str×À))(f:À)(c':À)(A:ð)(s:Å)(H:Hp):Cx where
 prog:=X.prog
 w:=X.w
 K:=X.K
 mg:=X.mg
 base:=X.base
 A:=A.deeper (pM qual scope s.heap.objs.size f (.ref c') cl)
 N:=N'
 s₀:= s
 H₀:= H
 env:=pM qual scope s.heap.objs.size f (.ref c') cl
 outer:=X.stack
 stack:=pM qual scope s.heap.objs.size f (.ref c') cl::X.stack
 ex:=[]
 fn:=λ_=>false
 calm:=true
 pn:=[]
 xe:=λ_ _=>False
def eM(js:List Nat)(V:Ģ)(v:Qqj):Ģ:=js.map (λj:Nat=>(V[j]?).getD none) ++ [some v]
section
variable{X:Cx}{Ã:List (À×Obj)}{V:Ģ}{H:Hp}{s:Å}{params:dC}{body:Ð}{scope sc:ą}{cl:List (Str×À)}{N0:List Str}{js:List Nat}{qual px:Str}{f c':À}{A:ð}
def Jm(rY:X.env.scope=sc)(hk:scope.kind=.function)(hcap:eK X sc scope N0 js)(hlen:js.length=N0.length)(hcell:∀y∈scope.names,y.2≠ .cell)(IA:scope.names.lookup px=some .local)
 (hA:A.frames=some X.stack)(hhd:A.handled=none)(c2:∀x c,cl.lookup x=some c->X.env.cells.lookup x=some c)(c3:∀y∈scope.names,y.2=.free->∃c,cl.lookup y.1=some c)
 (I:Inv X Ã V H s){v:Qqj}{u:Á}(r:RelV v u){h':Õ}{tk:Nat}(hn:h'.Ns s.heap.objs.size (λy=>[(px,u)].reverse.lookup y))(kp:∀b o,s.heap.get? b=some o->h'.get? b=some o) :
 Inv (Ek X (N0 ++ [px]) qual scope cl f c' A s H) [] (eM js V v) H {s with heap:=h',toks:=tk}:=by
 have has:∀y,(scope.names.lookup y=some .cell\/scope.names.lookup y=some .free)->∃c,cl.lookup y=some c:=λy hy=>by
  rcases hy with hy|hy
  ·exact absurd rfl (hcell _ (fj hy))
  ·exact c3 _ (fj hy) rfl
 refine⟨⟨I.ok.mod,hk,rfl,rfl,õ _,λx y c e1 e2=>I.ok.inj x y c (c2 x c e1) (c2 y c e2),has,(λ_ _ z _=>absurd (show false=true from z) ϥ),λ_=>hhd,BG hA,.inr ⟨rfl,rfl⟩,λb hb=>absurd hb (by simp[Ek]),
  I.bs,Ĺ I.ok.B4 I.sz,λb _ _ hb=>absurd hb (by simp[Ek]),λb hb=>absurd hb (by simp[Ek]),I.stack,I.pP,I.tb⟩,rfl,I.bare,Un.kept kp,⟨_,hn,λi x w e1 e2 e3=>?_⟩,λx c e=>?_,I.hok.fresh (õ _),λx c e=>I.b_ x c (c2 x c e),λp hp=>absurd hp (by simp[Ek]),I.hok.kept kp,?_⟩
 ·by_cases hi:i<js.length
  ·have Wu:N0[i]?=some x:=by
    have:=e1
    rwa [show(Ek X (N0 ++ [px]) qual scope cl f c' A s H).N=N0 ++ [px] from rfl,ϧ (by lia)] at this
   have e2':(eL js 0 V)[i]?=some (some w):=by unfold eL;unfold eM at e2;rw[ϧ (by simpa using hi)] at e2 ⊢;exact e2
   obtain⟨j,q1,q2,q0,q3⟩:=mj hcap Wu e2';obtain⟨m,hm,hl⟩:=I.loc;have PU:w_ X.env.scope x:=by
    rw[rY];rcases q3 with q3|q3
    ·exact .inr (.inl q3)
    ·exact .inr (.inr q3)
   obtain⟨u',ru,lk⟩:=hl j x w q1 q2 PU;refine⟨u',ru,?_⟩;rcases lk with⟨k1,_⟩|⟨k1,c,hc,ic⟩
   ·exfalso;have Ws:sc.names.lookup x=some .local:=by rw[<-rY];exact k1
    rcases q3 with q3|q3<;>(rw[Ws] at q3;cases q3)
   ·obtain⟨d,hd⟩:=has x (.inr q0);have:d=c:=by
     have:=c2 x d hd;rw[hc] at this;exact(ŀ this).symm
    subst this;exact .inr ⟨.inr q0,d,hd,by
     obtain⟨o,ho,Sw⟩:=ic;exact⟨o,kp _ _ ho,Sw⟩⟩
  ·have Wv:i=js.length:=by
    have l2:=(Ϧ.mp e2).1;unfold eM at l2;simp at l2;lia
   subst Wv;unfold eM at e2;rw[bc (by simp)] at e2;have ev:v=w:=by simpa using e2
   subst ev;have ex:px=x:=by have:=e1;rw[show(Ek X (N0 ++ [px]) qual scope cl f c' A s H).N=N0 ++ [px] from rfl,bc (by lia),hlen] at this;simpa using this
   subst ex;exact⟨u,r,.inl ⟨IA,by simp[ba]⟩⟩
 ·obtain⟨w,o,ho,hd⟩:=I.cell x c (c2 x c e);exact⟨w,o,kp _ _ ho,hd⟩
 ·show _=(N0 ++ [px]).length;unfold eM;simp[hlen]
def Fc{te:TE}{pm zc:Á}(rY:X.env.scope=sc)(hk:scope.kind=.function)(hcap:eK X sc scope N0 js)(hlen:js.length=N0.length)(hcell:∀y∈scope.names,y.2≠ .cell)(IA:scope.names.lookup px=some .local)(Ww:scope.isCoroutine=false)(Ib:scope.isGenerator=false)
 (hA:A.frames=some X.stack)(hhd:A.handled=none)(P7:A.depth<pe)(c2:∀x c,cl.lookup x=some c->X.env.cells.lookup x=some c)(c3:∀y∈scope.names,y.2=.free->∃c,cl.lookup y.1=some c)
 (rP:∀u:Á,bh (ve "<lambda>" qual params body scope cl pm (.ref c') zc) ⟨[u],[]⟩=ö [(px,u)])
 (he:∀s H,PE (Ek X (N0 ++ [px]) qual scope cl f c' A s H) body te)
 (I:Inv X Ã V H s)(hf:s.heap.get? f=some (kU "<lambda>" qual params body scope cl pm c' zc))(hc:H c'=some (.B3 qual)){v:Qqj}{u:Á}(r:RelV v u){Q:VK}{E:Á->Å->Prop}(h:te (eM js V v) H Q) :
 Î (Ó X.prog X.w) A (call (.ref f) [u]) (EP X Ã V Q) E s:=by
 refine cG (PySem.W.kla_callFunE P7 hf rfl Ww Ib rfl (I.hok c' _ hc) ?_);rw[rP u];refine é (wpAny_newFunctionEnv hcell (λy hy=>by rw[aD.mp hy];exact IA) (λh₁ lR hsb=>⟨(I.nolimit).fresh _ hsb,?_⟩) hk);have kp:∀b o,s.heap.get? b=some o->h₁.get? b=some o:=λb o e=>hsb.extBut b o (ę (ó e)) (ï _ e);have J:=Jm (qual:=qual) (f:=f) (c':=c') (tk:=s.toks + [(px,u)].length) rY hk hcap hlen hcell IA hA hhd c2 c3 I r lR kp;show Ϛ _ _ (.expr body (pM qual scope s.heap.objs.size f (.ref c') cl)) _ _;refine PySem.W.kla_codeExpr (ŭ (he s H [] _ _ H Q J h) (λy s' hy=>?_) λ_ _ z=>z.elim);obtain⟨w,H',J',O7,q⟩:=hy;exact I.after ⟨w,H',J'.os,J'.bare,J'.base,J'.hok,O7,q⟩
end
section
variable{X:Cx}{Ã:List (À×Obj)}{V:Ģ}{H:Hp}{s:Å}
def sP{fp:List À}{t:Sem Á}{A:ð}{Qv:Qqj->Hp->Prop}{R:Á->Å->Prop}(I:Inv X Ã V H s)(hf:∀b∈fp,cb X Ã H b)(ho:∀b∈fp,∃o,s.heap.get? b=some o/\∀v,o.data≠ .cell v)
 (run:∀cR,Inv X cR V H s->Î (Ó X.prog X.w) A t (EP X cR V Qv) (λ_ _=>False) s)
 (k:∀y u H2 s2,Inv X Ã V H2 s2->RelV y u->Qv y H2->(∀b∈fp,cb X Ã H2 b)->(∀b∈fp,∀o,s.heap.get? b=some o->s2.heap.get? b=some o)->R u s2):Î (Ó X.prog X.w) A t R (λ_ _=>False) s:=by
 refine ŭ (run _ (I.pinned hf ho)) (λu s2 ⟨y,H2,I2,r,q⟩=>?_) λ_ _ z=>z;refine k y u H2 s2 I2.eI r q (λb hb=>?_) λb hb o e=>(I2.pin (b,o) (Ř _ (Ř _ (ϸ hb e)))).1;obtain⟨o,e,_⟩:=ho b hb;exact⟨(I2.pin (b,o) (Ř _ (Ř _ (ϸ hb e)))).2.1,(hf b hb).2⟩
def bH{h':Õ}{t':Nat}{b:À}(I:Inv X Ã V H s)(hf:cb X Ã H b)(k:∀c o,c≠b->s.heap.get? c=some o->h'.get? c=some o):Inv X Ã V H {s with heap:=h',toks:=t'}:=
 let ⟨f0,f1,_,f3,f4,f5⟩:=hf
 I.turned k f0 f1 f3 f4 f5
variable{R:dA->Å->Prop}{f l S It:À}{oF:Obj}{xs:List Qqj}(ks:Nat->Int)(W:Nat->Hp->Prop)
def Ch{h:Õ}{l It:À}{ċ:Array Á}{i:Nat}(hl:h.IsList l ċ)(jq:h.IsListIter It l i):l≠It:=λz=>by obtain⟨o,e,c,_⟩:=hl;obtain⟨o',e',c',_⟩:=jq;rw[z,e'] at e;cases e;rw[c] at c';exact absurd (kQ c') (by decide)
def zK{h:Õ}{S It l:À}{vs:Array Á}{n i:Nat}(hS:h.get? S=some (cB "list" vs n))(jq:h.IsListIter It l i):S≠It:=λz=>by obtain⟨o',e',c',_⟩:=jq;rw[z,e'] at hS;cases hS;exact absurd (kQ c') (by decide)
def DH(hh:X.A.handled=none)(hl:∀k H,W k H->Ϟ X.K H l xs)(W2:∀v,oF.data≠ .cell v)(W3:f≠S)(W4:f≠It)
 (turn:∀k v,xs[k]?=some v->∀Ã H s u,Inv X Ã V H s->W k H->RelV v u->s.heap.get? f=some oF->Î (Ó X.prog X.w) X.A.in1 (call (.ref f) [u]) (EP X Ã V λy H'=>y=.int (ks k)/\W (k+1) H') (λ_ _=>False) s)
 (hR:∀i v u H s,xs[i]?=some v->RelV v u->(∀j,j<xs.length->ks i<=ks j/\(j<i->ks i<ks j))->Inv X Ã V H s->W xs.length H->R (.ok (.ret u)) s) :
 ∀(r j i:Nat) (H:Hp) (s:Å) (vb:Á) (tb:Tok) (c:Nat) (v:Qqj),xs.length-(j+1)=r->j+1<=xs.length->Inv X Ã V H s->W (j+1) H->
  s.heap.get? S=some (cB "list" #[vb,.int (ks i) tb] c)->s.heap.IsListIter It l (j+1)->s.heap.get? f=some oF->(∀b∈[S,It,f],cb X Ã H b)->xs[i]?=some v->RelV v vb->i<=j->(∀j',j'<=j->ks i<=ks j'/\(j'<i->ks i<ks j'))->
  Ϛ (Ó X.prog X.w) X.A (.builtin "min.loop" ⟨[.ref It,.ref f,.ref S],[]⟩) R s:=by
 have zd:(toString "min" ++ toString ".loop" :String)= "min.loop" := by decide
 intro r
 induction r with
 |zero=>
  intro j i H s vb tb c v hr hj I w hS jq hF P8 hv rv Wh tN;have Tz:j+1=xs.length:=by lia
  obtain⟨ċ,ri,pl,_⟩:=I.list (hl _ _ w);have jO:ċ.toArray.size=xs.length:=by rw[Ĥ,ri.length]
  have W':=kW (prog:=X.prog) (w:=X.w) (A:=X.A.in1) hh It l (Ch pl.isList jq) ċ.toArray;refine uD uL ?_;rw[uJ fu _];show Î _ X.A.in1 (cH (.ref S) >>= _) _ _ _;refine Ê (bS hS rfl ?_);show Î _ X.A.in1 (iG (bR (.ref It)) _ >>= _) _ _ _;refine Ê (iM (W'.done _ _ _ ⟨by rw[jO,<-Tz];exact jq,pl.isList⟩ λh' OD xl=>?_));have I1:=bH (h':=h') (t':=OD) I (P8 It (by simp)) λb o hb e=>xl b o (by simpa using hb) e;have hS':=xl S _ (by simpa using zK hS jq) hS;have s1:=kM h' S (bU λ_=>(#[]:Array Á));show Î _ X.A.in1 (updateSeq S (λ_=> #[]) >>= _) _ _ _;refine Ê ?_;refine uE hS' rfl (Ê (iO (é ?_)));exact hR i v vb H _ hv rv (λj' hj'=>tN j' (by lia)) (bH (t':=OD) I1 (P8 S (by simp)) λb o hb e=>(s1.2 b hb).trans e) (Tz▸w)
 |succ r ih=>
  intro j i H s vb tb c v hr hj I w hS jq hF P8 hv rv Wh tN;have gA:j+1<xs.length:=by lia
  obtain⟨ċ,ri,pl,_⟩:=I.list (hl _ _ w);have jO:ċ.toArray.size=xs.length:=by rw[Ĥ,ri.length]
  have W':=kW (prog:=X.prog) (w:=X.w) (A:=X.A.in1) hh It l (Ch pl.isList jq) ċ.toArray;refine uD uL ?_;rw[uJ fu _];show Î _ X.A.in1 (cH (.ref S) >>= _) _ _ _;refine Ê (bS hS rfl ?_);show Î _ X.A.in1 (iG (bR (.ref It)) _ >>= _) _ _ _;refine Ê (iM (W'.item (j+1) _ _ _ (by rw[jO];exact gA) ⟨jq,pl.isList⟩ λu h' OD hP SR xl=>?_));have hu:ċ[j+1]?=some u:=by simpa using hP
  have hx2:xs[j+1]?=some xs[j+1]:=Ō gA;have ru:RelV xs[j+1] u:=by obtain⟨u2,h2,r2⟩:=ri.get hx2;rw[hu] at h2;cases h2;exact r2
  obtain⟨TB,Ic,Sx,IB⟩:=id SR.1;have I1:=bH (h':=h') (t':=OD) I (P8 It (by simp)) λb o hb e=>xl b o (by simpa using hb) e;have Wx:=xl S _ (by simpa using zK hS jq) hS;have P9:=xl f _ (by simpa using W4) hF;show Î _ X.A.in1 (iG (aG [u] (call (.ref f) [u])) _ >>= _) _ _ _;refine Ê (iM (ϫ (ŭ (sP (fp:=[S,It,f]) I1 P8 (λb hb=>?_) (λcR I'=>turn (j+1) _ hx2 cR H _ u I' w ru P9) λy u2 H2 s2 I2 ry ⟨ey,w2⟩ DI Qa=>?_) (λ_ _ z=>z) λ_ _ hF=>hF.elim)))
  ·rcases Ā.mp hb with rfl|hb
   ·exact⟨_,Wx,λv z=>by cases z⟩
   ·rcases Ā.mp hb with rfl|hb
    ·exact⟨TB,Ic,λv z=>by rw[IB] at z;cases z⟩
    ·rw[aD.mp hb];exact⟨oF,P9,W2⟩
  ·subst ey;obtain⟨t2,rfl⟩:=ry;have SS:=Qa S (by simp) _ Wx;have W5:=Qa It (by simp) _ Ic;have W6:=Qa f (by simp) _ P9;have Wy:s2.heap.IsListIter It l (j+1+1):=⟨TB,W5,Sx,IB⟩;show Î _ X.A.in1 (iG (aG [u,.int (ks (j+1)) t2] (richCompare .Lt (.int (ks (j+1)) t2) (.int (ks i) tb) >>= _)) _ >>= _) _ _ _;refine Ê (iM (ϫ (Ê (CmpOf.ints_lt (prog:=X.prog) (w:=X.w) (A:=X.A.in1) (P:=λi v=>∃t,v=.int (ks i) t) ks (λi v h=>h) (j+1) i _ _ _ _ _ ⟨t2,rfl⟩ ⟨tb,rfl⟩ ?_))));refine Ê (ϫ (cF ?_));refine Ê (iO (é ?_));by_cases A8:ks (j+1)<ks i
   ·have s1:=kM s2.heap S (bU λ_=> #[u,.int (ks (j+1)) t2]);obtain⟨cc,Ee⟩:∃cc,(s2.heap.update S (bU λ_=> #[u,.int (ks (j+1)) t2])).get? S=some (cB "list" #[u,.int (ks (j+1)) t2] cc):=⟨_,get?_update_seq SS λ_=> #[u,.int (ks (j+1)) t2]⟩;simp only[A8,decide_true,if_true];refine Ê ?_;refine uE SS rfl (Ê (iO ?_));rw[zd];have nIS:=zK SS Wy;refine é ⟨pi fu _,ih (j+1) (j+1) H2 _ u t2 cc _ (by lia) gA (bH (t':=s2.toks) I2 (DI S (by simp)) λb o hb e=>(s1.2 b hb).trans e) w2 Ee ⟨TB,(s1.2 It nIS.symm).trans W5,Sx,IB⟩ ((s1.2 f W3).trans W6) DI hx2 ru (õ _) λj' hj'=>?_⟩;by_cases e:j'=j+1
    ·subst e;exact⟨by lia,λ_=>by lia⟩
    ·have Wz:=tN j' (by lia);have Wt:=Wz.1;exact⟨by lia,λ_=>by lia⟩
   ·simp only[A8,decide_false,iw,if_false];refine Ê (iO ?_);rw[zd];refine é ⟨pi fu _,ih (j+1) i H2 s2 vb tb c v (by lia) gA I2 w2 SS Wy W6 DI hv rv (by lia) λj' hj'=>?_⟩;by_cases e:j'=j+1
    ·subst e;exact⟨by lia,λ_=>by lia⟩
    ·exact tN j' (by lia)
def DJ{Q:Á->Å->Prop}{E:Á->Å->Prop}(hh:X.A.handled=none)(hl:∀k H,W k H->Ϟ X.K H l xs)(W2:∀v,oF.data≠ .cell v)(eW:0<xs.length)
 (turn:∀k v,xs[k]?=some v->∀Ã H s u,Inv X Ã V H s->W k H->RelV v u->s.heap.get? f=some oF->Î (Ó X.prog X.w) X.A.in1 (call (.ref f) [u]) (EP X Ã V λy H'=>y=.int (ks k)/\W (k+1) H') (λ_ _=>False) s)
 (hQ:∀i v u H s,xs[i]?=some v->RelV v u->(∀j,j<xs.length->ks i<=ks j/\(j<i->ks i<ks j))->Inv X Ã V H s->W xs.length H->Q u s)
 (I:Inv X Ã V H s)(w0:W 0 H)(hF:s.heap.get? f=some oF)(Ya:cb X Ã H f) :
 Î (Ó X.prog X.w) X.A (call (.builtin "min") [.ref l] [(Ì "key",.ref f)]) Q E s:=by
 have zd:(toString "min" ++ toString ".loop" :String)= "min.loop" := by decide
 obtain⟨ċ,ri,pl,_⟩:=I.list (hl _ _ w0);have hls:=pl.isList;obtain⟨ol,IC,_⟩:=id hls;have hll:l<s.heap.objs.size:=ó IC;refine kmk_tree PySem.F.kind_min PySem.F.plain_min PySem.F.entry_min (kmk_min_key _ _) ?_;show Î _ X.A.in1 (BH "min" ["key","default"] 0 ⟨[],[(Ì "key",.ref f)]⟩ >>= _) _ _ s;refine Ê (wpAny_of_eq (show BH "min" ["key","default"] 0 ⟨[],[(Ì "key",.ref f)]⟩=ö [some (.ref f),none] from rfl) ?_);refine Ê (é ?_);refine Ê (kD hls ?_);refine Ê (wpAny_newList ?_ (cA _));rw[zd];have hS:(s.heap.push {cls:=.type "list_iterator",data:=.fields #[.ref l,.int 0 0]}).objs.size=s.heap.objs.size+1:=size_push' ..;generalize hSd:(s.heap.push {cls:=.type "list_iterator",data:=.fields #[.ref l,.int 0 0]}).objs.size=S at hS ⊢;refine é ⟨pi fu _,?_⟩;have k0:∀b o,s.heap.get? b=some o->((s.heap.push {cls:=.type "list_iterator",data:=.fields #[.ref l,.int 0 0]}).push (cB "list" #[] 0)).get? b=some o:=λb o e=>ï _ (ï _ e);have gI:((s.heap.push {cls:=.type "list_iterator",data:=.fields #[.ref l,.int 0 0]}).push (cB "list" #[] 0)).get? s.heap.objs.size=some {cls:=.type "list_iterator",data:=.fields #[.ref l,.int 0 0]}:=
  ï _ (Ħ _ rfl)
 have gS:((s.heap.push {cls:=.type "list_iterator",data:=.fields #[.ref l,.int 0 0]}).push (cB "list" #[] 0)).get? S=some (cB "list" #[] 0):=by rw[<-hSd];exact Ħ _ rfl
 have I0:Inv X Ã V H {s with heap:=(s.heap.push {cls:=.type "list_iterator",data:=.fields #[.ref l,.int 0 0]}).push (cB "list" #[] 0)}:=I.kept (t':=s.toks) k0;have fI:cb X Ã H s.heap.objs.size:=I.qc (õ _) (I.hok.fresh (õ _));have fS:cb X Ã H S:=I.qc (by lia) (I.hok.fresh (by lia));have W7:f<s.heap.objs.size:=ó hF;have W4:f≠s.heap.objs.size:=ę W7;have W3:f≠S:=ę (by rw[hS];exact dr W7);have hSI:S≠s.heap.objs.size:=by lia
 have P8:∀b∈[S,s.heap.objs.size,f],cb X Ã H b:=λb hb=>by
  rcases Ā.mp hb with rfl|hb
  ·exact fS
  ·rcases Ā.mp hb with rfl|hb
   ·exact fI
   ·rw[aD.mp hb];exact Ya
 obtain⟨Qb,ri0,pl0,_⟩:=I0.list (hl _ _ w0);have jO:Qb.toArray.size=xs.length:=by rw[Ĥ,ri0.length]
 have W':=kW (prog:=X.prog) (w:=X.w) (A:=X.A.in1) hh s.heap.objs.size l (ę hll) Qb.toArray;refine uD uL ?_;rw[uJ fu _];show Î _ X.A.in1 (cH (.ref _) >>= _) _ _ _;refine Ê (bS gS rfl ?_);show Î _ X.A.in1 (iG (bR (.ref s.heap.objs.size)) _ >>= _) _ _ _;refine Ê (iM (W'.item 0 _ _ _ (by rw[jO];exact eW) ⟨⟨_,gI,rfl,rfl⟩,pl0.isList⟩ λu h' OD hP SR xl=>?_));have hu:Qb[0]?=some u:=by simpa using hP
 have WA:xs[0]?=some xs[0]:=Ō eW;have ru:RelV xs[0] u:=by obtain⟨u2,h2,r2⟩:=ri0.get WA;rw[hu] at h2;cases h2;exact r2
 obtain⟨TB,Ic,Sx,IB⟩:=id SR.1;have I1:=bH (h':=h') (t':=OD) I0 fI λb o hb e=>xl b o (by simpa using hb) e;have Wx:=xl S _ (by simpa using hSI) gS;have P9:=xl f _ (by simpa using W4) (k0 _ _ hF);show Î _ X.A.in1 (iG (aG [u] (call (.ref f) [u])) _ >>= _) _ _ _;refine Ê (iM (ϫ (ŭ (sP (fp:=[S,s.heap.objs.size,f]) I1 P8 (λb hb=>?_) (λcR I'=>turn 0 _ WA cR H _ u I' w0 ru P9) λy u2 H2 s2 I2 ry ⟨ey,w2⟩ DI Qa=>?_) (λ_ _ z=>z) λ_ _ hF=>hF.elim)))
 ·rcases Ā.mp hb with rfl|hb
  ·exact⟨_,Wx,λv z=>by cases z⟩
  ·rcases Ā.mp hb with rfl|hb
   ·exact⟨TB,Ic,λv z=>by rw[IB] at z;cases z⟩
   ·rw[aD.mp hb];exact⟨oF,P9,W2⟩
 ·subst ey;obtain⟨t2,rfl⟩:=ry;have SS:=Qa S (by simp) _ Wx;have W5:=Qa s.heap.objs.size (by simp) _ Ic;have W6:=Qa f (by simp) _ P9;have s1:=kM s2.heap S (bU λ_=> #[u,.int (ks 0) t2]);obtain⟨cc,Ee⟩:∃cc,(s2.heap.update S (bU λ_=> #[u,.int (ks 0) t2])).get? S=some (cB "list" #[u,.int (ks 0) t2] cc):=⟨_,get?_update_seq SS λ_=> #[u,.int (ks 0) t2]⟩;show Î _ X.A.in1 (updateSeq S (λ_=> #[u,.int (ks 0) t2]) >>= _) _ _ _;refine Ê ?_;refine uE SS rfl ?_;rw[zd];refine é ⟨pi fu _,DH ks W hh hl W2 W3 W4 turn (λi v u' H' s' a1 a2 a3 a4 a5=>hQ i v u' H' s' a1 a2 a3 a4 a5) _ 0 0 H2 _ u t2 cc _ rfl eW (bH (t':=s2.toks) I2 (DI S (by simp)) λb o hb e=>(s1.2 b hb).trans e) w2 Ee ⟨TB,(s1.2 _ hSI.symm).trans W5,Sx,IB⟩ ((s1.2 f W3).trans W6) DI WA ru (õ _) λj' hj'=>?_⟩;have e:j'=0:=by lia
  subst e;exact⟨by lia,λh=>absurd h (ų _)⟩
end
def Uu(K:Ñ)(ta:TA)(js:List Nat)(te:TE):TE:=λV H Q=>ta V H λvs H1=>∃l xs,vs=[.ref l]/\Ϟ K H1 l xs/\0<xs.length/\∀c q H2,Û H1 H2->H2 c=some (.B3 q)->(∀a,H1 a=none->H2 a=none\/a=c)->
 ∃(ks:Nat->Int) (W:Nat->Hp->Prop),W 0 H2/\(∀k H,W k H->Û H2 H)/\(∀k v H,xs[k]?=some v->W k H->te (eM js V v) H λy H'=>y=.int (ks k)/\W (k+1) H')/\
  ∀i v H,xs[i]?=some v->(∀j,j<xs.length->ks i<=ks j/\(j<i->ks i<ks j))->W xs.length H->Q v H
section
variable{X:Cx}{x px:Str}{c P:À}{params:dC}{body e:Ð}{scope:ą}{p pos DK Ec:Pos}{ta:TA}{te:TE}
def Jn(N0:List Str)(js:List Nat)(sc:ą)(rY:X.env.scope=sc)(hcalm:X.calm=true)(P7:X.A.depth<pe)(hx:x∈lams)(ht:Ů X.K x=some (c,P))(tM:X.env.code=.ref c)(hq:X.env.qual=x ++ ".<locals>.")
 (hg:Gl X "min")(hm:X.mg "min" =none)(ha:PA X [e] ta)(he:∀cl f c' s H,PE (Ek X (N0 ++ [px]) (cQ x) scope cl f c' X.A.in1 s H) body te)(hcap:eK X sc scope N0 js)(hlen:js.length=N0.length:=by rfl)
 (rP:∀(cl:List (Str×À)) (pm zc:Á) (c':À) (u:Á),bh (ve "<lambda>" (cQ x) params body scope cl pm (.ref c') zc) ⟨[u],[]⟩=ö [(px,u)]:=by intros;rfl)
 (hk:scope.kind=.function:=by rfl)(hcell:∀y∈scope.names,y.2≠ .cell:=by decide +kernel)(IA:scope.names.lookup px=some .local:=by rfl)(Ww:scope.isCoroutine=false:=by rfl)(Ib:scope.isGenerator=false:=by rfl)
 (hfree:∀y∈scope.names,y.2=.free->(sc.names.lookup y.1=some .cell\/sc.names.lookup y.1=some .free):=by decide +kernel)(Ia:defaultsOf params X.env=([],[]):=by rfl)
 (Dr:å [e] X.env=[(false,Ý e X.env)]:=by rfl)(gJ:(Ŭ pos (å [e] X.env)).any (·.1)=false:=by rfl) :
 PE X (.Call (.Name "min" p) [e] [⟨some "key",.Lambda params body scope DK,Ec⟩] pos) (Uu X.K ta js te):=by
 intro Ã s V H Q I h;obtain⟨cl,c1,c2,c3⟩:=fO (scope:=scope) (env:=X.env) λy hy hf=>I.ok.has y.1 (by
  have:=hfree y hy hf;rw[<-rY] at this;exact this)
 have hh:=I.ok.hd hcalm;refine fk (fK I hg hm (show bg "min" =some (.builtin "min") by kernel_rfl) ?_ (by decide) (by decide));refine callWith_kw (Ų (ha pos Ã s V H _ I h) λus s1 ⟨vs,H1,I1,r1,q1⟩=>?_) (by rw[Dr];rfl) gJ rfl rfl;obtain⟨l,xs,rfl,WB,eW,q1⟩:=q1;have eus:us=[.ref l]:=by
  cases r1 with
  |cons a b=>cases b;exact congrArg (λz=>[z]) (show _=ē l from a)
 subst eus;show Î _ _ (evalAll ((do let v <-Ý (.Lambda params body scope DK) X.env;fh pos;ö v)::[])) _ _ s1;refine wpAny_evalAll_cons (Ê (Fb I1 hx ht tM hq Ia c1 λf c' pm zc H2 s2 I2 nw sm hc hf fo=>Ê (dw (é ?_))));refine wpAny_evalAll_nil ?_;obtain⟨ks,W,w0,wm,wt,wq⟩:=q1 c' _ H2 sm hc nw;refine DJ (xs:=xs) ks W hh (λk H w=>(wm k H w).seq (sm.seq WB)) (λv z=>by cases z) eW (λk v hv cR H' s' u I' w ru hf'=>?_) (λi v u H' s' hv ru hb I' w=>⟨v,H',I',ru,wq i v H' hv hb w⟩) I2 w0 hf fo;exact Fc (A:=X.A.in1) (te:=te) (N0:=N0) (js:=js) rY hk hcap hlen hcell IA Ww Ib I.ok.frames hh P7 c2 c3 (rP cl pm zc c') (λs H=>he cl f c' s H) I' hf' (wm k H' w c' _ hc) ru (wt k v H' hv w)
end
end M5
namespace P
def S8:Ð->Bool
 | .Starred .. =>false
 |_=>true
def ϗ{e:Ð}{es:List Ð}{env:PySem.Env}(h:S8 e=true):å (e::es) env=(false,Ý e env)::å es env:=by cases e<;>first|rfl|cases h
def vq{a b:Ð}{env:PySem.Env}(h:S8 a=true)(h2:S8 b=true):å [a,b] env=[(false,Ý a env),(false,Ý b env)]:=by rw[ϗ h,ϗ h2];rfl
def Qc{a b c:Ð}{env:PySem.Env}(h:S8 a=true)(h2:S8 b=true)(h3:S8 c=true):å [a,b,c] env=[(false,Ý a env),(false,Ý b env),(false,Ý c env)]:=by rw[ϗ h,ϗ h2,ϗ h3];rfl
open PySem PySem.Spec PyProof.Rows L2 M2
structure KK where
 K:Ñ
 cm:String->À
abbrev kk(X:Cx)(cm:String->À):KK:=⟨X.K,cm⟩
inductive PV where
 |non|bl (b:Bool)|int (i:Int)|str (x:Str)|tup (xs:List PV)|lst (xs:List PV)
 |ins (C:String) (ns:List Str) (xs:List PV)|xc (C:String) (ns:List Str) (xs:List PV)|ty (n:String)|cls (C:String)
def xo(a C:À)(d:Option À):HO:=.ext λh=>∃o vs,h.get? a=some o/\o.cls=.ref C/\o.dict=d/\o.data=.fields vs
def qi(F:Hp)(d:Option À)(fs:List (Str×Qqj)):Prop:=(d=none/\fs=[])\/∃a,d=some a/\F a=some (.xd fs)
mutual
def Đ(K:KK)(F:Hp):PV->Qqj->Prop
 | .non,v=>v=.non
 | .bl b,v=>v=.bl b
 | .int i,v=>v=.int i
 | .str x,v=>v=.str x
 | .tup ps,v=>∃a xs,v=.ref a/\da K.K F a xs/\ò K F ps xs
 | .lst ps,v=>∃a xs,v=.ref a/\Ϟ K.K F a xs/\ò K F ps xs
 | .ins C ns ps,v=>∃a dx fs,v=.ref a/\F a=some (.ins (K.cm C) dx fs)/\fs.map (·.1)=ns/\ò K F ps (fs.map (·.2))
 | .xc C ns ps,v=>∃a d fs,v=.ref a/\F a=some (xo a (K.cm C) d)/\qi F d fs/\fs.map (·.1)=ns/\ò K F ps (fs.map (·.2))
 | .ty n,v=>v=.ty n
 | .cls C,v=>v=.ref (K.cm C)
def ò(K:KK)(F:Hp):List PV->List Qqj->Prop
 | [],xs=>xs=[]
 |p::ps,xs=>∃x r,xs=x::r/\Đ K F p x/\ò K F ps r
end
section
variable{K:KK}{F F':Hp}
def qi.same{d:Option À}{fs:List (Str×Qqj)}(e:Û F F')(h:qi F d fs):qi F' d fs:=by
 rcases h with h|⟨a,h1,h2⟩
 ·exact .inl h
 ·exact .inr ⟨a,h1,e _ _ h2⟩
mutual
theorem Đ.same(e:Û F F'):∀(p:PV) (v:Qqj),Đ K F p v->Đ K F' p v
 | .non,_,h=>by unfold Đ at h ⊢;exact h
 | .bl _,_,h=>by unfold Đ at h ⊢;exact h
 | .int _,_,h=>by unfold Đ at h ⊢;exact h
 | .str _,_,h=>by unfold Đ at h ⊢;exact h
 | .ty _,_,h=>by unfold Đ at h ⊢;exact h
 | .cls _,_,h=>by unfold Đ at h ⊢;exact h
 | .tup ps,_,h=>by unfold Đ at h ⊢;obtain⟨a,xs,h1,h2,h3⟩:=h;exact⟨a,xs,h1,Û.tup e h2,ò.same e ps xs h3⟩
 | .lst ps,_,h=>by unfold Đ at h ⊢;obtain⟨a,xs,h1,h2,h3⟩:=h;exact⟨a,xs,h1,e.seq h2,ò.same e ps xs h3⟩
 | .ins C ns ps,_,h=>by unfold Đ at h ⊢;obtain⟨a,dx,fs,h1,h2,h3,h4⟩:=h;exact⟨a,dx,fs,h1,e _ _ h2,h3,ò.same e ps _ h4⟩
 | .xc C ns ps,_,h=>by unfold Đ at h ⊢;obtain⟨a,d,fs,h1,h2,hd,h3,h4⟩:=h;exact⟨a,d,fs,h1,e _ _ h2,hd.same e,h3,ò.same e ps _ h4⟩
theorem ò.same(e:Û F F'):∀(ps:List PV) (xs:List Qqj),ò K F ps xs->ò K F' ps xs
 | [],_,h=>by unfold ò at h ⊢;exact h
 |p::ps,_,h=>by unfold ò at h ⊢;obtain⟨x,r,h1,h2,h3⟩:=h;exact⟨x,r,h1,Đ.same e p x h2,ò.same e ps r h3⟩
end
theorem ò.pr:∀{ps:List PV} {vs:List Qqj},ò K F ps vs->Paired (Đ K F) ps vs
 | [],_,h=>by unfold ò at h;subst h;exact .nil
 |p::ps,_,h=>by unfold ò at h;obtain⟨x,r,rfl,h2,h3⟩:=h;exact .cons h2 (ò.pr h3)
theorem ò.of:∀{ps:List PV} {vs:List Qqj},Paired (Đ K F) ps vs->ò K F ps vs
 | [],_,.nil=>by unfold ò;rfl
 |p::ps,_,.cons h t=>by unfold ò;exact⟨_,_,rfl,h,ò.of t⟩
theorem ò.nil:ò K F [] []:=ò.of .nil
theorem ò.cons{p:PV}{v:Qqj}{ps:List PV}{vs:List Qqj}(h:Đ K F p v)(t:ò K F ps vs):ò K F (p::ps) (v::vs):=ò.of (.cons h t.pr)
theorem ò.length{ps:List PV}{vs:List Qqj}(h:ò K F ps vs):ps.length=vs.length:=Paired.length h.pr
theorem bI{α β:Type}{G:α->β->Prop}:∀{l:List α} {m:List β} {i:Nat} {x:α},Paired G l m->l[i]?=some x->∃y,m[i]?=some y/\G x y
 |_,_,_,_,.nil,e=>by simp at e
 |_,_,0,_,.cons r _,e=>by simp at e;subst e;exact⟨_,rfl,r⟩
 |_,_,i+1,x,.cons _ t,e=>by obtain⟨y,h1,h2⟩:=bI (i:=i) (x:=x) t (by simpa using e);exact⟨y,by simpa using h1,h2⟩
theorem vt{α β:Type}{G:α->β->Prop}:∀{l l2:List α} {m m2:List β},Paired G l m->Paired G l2 m2->Paired G (l++l2) (m++m2)
 |_,_,_,_,.nil,t=>t
 |_,_,_,_,.cons r s,t=>.cons r (vt s t)
theorem Fd{α β:Type}{G:α->β->Prop}{x:α}{y:β}(r:G x y):∀{l:List α} {m:List β} (i:Nat),Paired G l m->Paired G (l.set i x) (m.set i y)
 |_,_,_,.nil=>.nil
 |_,_,0,.cons _ t=>.cons r t
 |_,_,i+1,.cons q t=>.cons q (Fd r i t)
theorem Ci{α β:Type}{G:α->β->Prop}:∀{l:List α} {m:List β} (n:Nat),Paired G l m->Paired G (l.take n) (m.take n)
 |_,_,0,_=>.nil
 |_,_,_+1,.nil=>.nil
 |_,_,n+1,.cons r t=>.cons r (Ci n t)
theorem Cj{α β:Type}{G:α->β->Prop}:∀{l:List α} {m:List β} (n:Nat),Paired G l m->Paired G (l.drop n) (m.drop n)
 |_,_,0,h=>h
 |_,_,_+1,.nil=>.nil
 |_,_,n+1,.cons _ t=>Cj n t
def ò.append{ps qs:List PV}{vs us:List Qqj}(h:ò K F ps vs)(t:ò K F qs us):ò K F (ps++qs) (vs++us):=ò.of (vt h.pr t.pr)
end
inductive Slot where
 |no|sh (p:PV)|ow (ps:List PV)|bw (ps:List PV)|rc (C:String) (ns:List Str) (ps:List PV)|ot (ps qs:List PV)|ol (Ck:List (List PV))
abbrev Ĝ:=List Slot
abbrev ϒ:= Slot
def Slot.own:Slot->Bool
 | .ow _=>true
 | .rc _ _ _=>true
 | .ot _ _=>true
 | .ol _=>true
 |_=>false
structure Ctx where
 B:Hp
 F₀:Hp
 L:Hp
 S:À->À->String->Prop
def Ϲ(K:KK)(c:Ctx)(F H:Hp)(o:Option Qqj):Slot->Prop
 | .no=>True
 | .sh p=>∃v,o=some v/\Đ K F p v
 | .ow ps=>∃a vs,o=some (.ref a)/\H a=some (.lst vs)/\F a=none/\c.B a=none/\ò K F ps vs
 | .bw ps=>∃a vs,o=some (.ref a)/\c.L a=some (.lst vs)/\ò K F ps vs
 | .rc C ns ps=>∃a dx fs,o=some (.ref a)/\H a=some (.ins (K.cm C) dx fs)/\F a=none/\c.B a=none/\fs.map (·.1)=ns/\ò K F ps (fs.map (·.2))/\c.S a dx C
 | .ot ps qs=>∃p a xs vs,o=some (.ref p)/\F p=some (.tup (xs ++ [.ref a]))/\ò K F ps xs/\H a=some (.lst vs)/\F a=none/\c.B a=none/\ò K F qs vs
 | .ol Ck=>∃(p:À) (as:List À),o=some (.ref p)/\F p=some (.lst (as.map Qqj.ref))/\as.Nodup/\Paired (λ(a:À) (ps:List PV)=>∃vs,H a=some (.lst vs)/\F a=none/\c.B a=none/\ò K F ps vs) as Ck
def Slot.at_(F:Hp)(x:Qqj)(a:À):Slot->Prop
 | .ot _ _=>∃p xs,x=.ref p/\F p=some (.tup (xs ++ [.ref a]))
 | .ol _=>∃(p:À) (as:List À),x=.ref p/\F p=some (.lst (as.map Qqj.ref))/\a∈as
 | .ow _=>x=.ref a
 | .rc _ _ _=>x=.ref a
 |_=>False
def ŧ(F:Hp)(V:Ģ)(Y:Ĝ)(i:Nat)(a:À):Prop:=∃s x,Y[i]?=some s/\V[i]?=some (some x)/\s.at_ F x a
structure ļ(K:KK)(c:Ctx)(F H:Hp)(V:Ģ)(Y:Ĝ):Prop where
 sub:Û F H
 base:Û c.B H
 f0:Û c.F₀ F
 dY:∀a,c.B a≠none->c.F₀ a=none->F a=none
 lent:∀a u,c.L a=some u->H a=some u/\F a=none
 lb:∀a,c.B a=none->c.L a=none
 len:V.length=Y.length
 slot:∀(i:Nat) s,Y[i]?=some s->Ϲ K c F H ((V[i]?).getD none) s
 sep:∀i j a,ŧ F V Y i a->ŧ F V Y j a->i=j
def nk(F:Hp)(V:Ģ)(Y:Ĝ)(a:À):Prop:=∀i,¬ŧ F V Y i a
section
variable{K:KK}{c:Ctx}{F F' H H':Hp}{V:Ģ}{Y:Ĝ}{a:À}{o:HO}
def gP{s:Slot}{x:Qqj}(h:s.at_ F x a):s.own=true:=by cases s<;>first|rfl|exact h.elim
theorem qj:∀{as bs:List À},as.map Qqj.ref=bs.map Qqj.ref->as=bs
 | [],[],_=>rfl
 | [],_::_,h=>by cases h
 |_::_,[],h=>by cases h
 |a::as,b::bs,h=>by
  injection h with h1 h2
  injection h1 with h1
  rw[h1,qj h2]
def ja{ps qs:List PV}{x:Qqj}{b:À}(h:(Slot.ot ps qs).at_ F x a)(h':(Slot.ot ps qs).at_ F x b):a=b:=by
 obtain⟨p,xs,h1,h2⟩:=h;obtain⟨q,ys,h3,h4⟩:=h';rw[h1] at h3;cases h3;rw[h2] at h4;have e:xs ++ [Qqj.ref a]=ys ++ [Qqj.ref b]:=by
  injection h4 with h4
  injection h4
 have e2:=congrArg List.getLast? e;simp at e2;exact e2
theorem Fe{α β:Type}{G:α->β->Prop}:∀{l:List α} {m:List β} {x:α},Paired G l m->x∈l->∃y,y∈m/\G x y
 |_,_,_,.nil,h=>by simp at h
 |_,_,x,.cons r t,h=>by
  rcases Ā.mp h with rfl|h
  ·exact⟨_,ĭ,r⟩
  ·obtain⟨y,h1,h2⟩:=Fe t h;exact⟨y,Ă _ h1,h2⟩
theorem Ff{α β:Type}{G G':α->β->Prop}:∀{l:List α} {m:List β},Paired G l m->(∀x y,x∈l->G x y->G' x y)->Paired G' l m
 |_,_,.nil,_=>.nil
 |_,_,.cons r t,h=>.cons (h _ _ ĭ r) (Ff t λx y hx=>h x y (Ă _ hx))
def Ϲ.grow{s:Slot}{x:Option Qqj}(h:Ϲ K c F H x s)(eF:Û F F')(eH:∀b vs,(∃y,x=some y/\s.at_ F y b)->H b=some vs->F b=none->c.B b=none->H' b=some vs/\F' b=none):Ϲ K c F' H' x s:=by
 cases s with
 |no=>trivial
 |sh p=>obtain⟨v,h1,h2⟩:=h;exact⟨v,h1,h2.same eF p v⟩
 |ow ps=>obtain⟨b,vs,h1,h2,h3,h4,h5⟩:=h;obtain⟨e1,e2⟩:=eH b _ ⟨_,h1,rfl⟩ h2 h3 h4;exact⟨b,vs,h1,e1,e2,h4,h5.same eF ps vs⟩
 |bw ps=>obtain⟨b,vs,h1,h2,h3⟩:=h;exact⟨b,vs,h1,h2,h3.same eF ps vs⟩
 |rc C ns ps=>obtain⟨b,dx,fs,h1,h2,h3,h4,h5,h6⟩:=h;obtain⟨e1,e2⟩:=eH b _ ⟨_,h1,rfl⟩ h2 h3 h4;exact⟨b,dx,fs,h1,e1,e2,h4,h5,h6.1.same eF ps _,h6.2⟩
 |ot ps qs=>obtain⟨p,b,xs,vs,h1,h2,h3,h4,h5,h6,h7⟩:=h;obtain⟨e1,e2⟩:=eH b _ ⟨_,h1,p,xs,rfl,h2⟩ h4 h5 h6;exact⟨p,b,xs,vs,h1,eF _ _ h2,h3.same eF ps xs,e1,e2,h6,h7.same eF qs vs⟩
 |ol Ck=>obtain⟨p,as,h1,h2,h3,h4⟩:=h;refine⟨p,as,h1,eF _ _ h2,h3,Ff h4 λb ps hb ⟨vs,k1,k2,k3,k4⟩=>?_⟩;obtain⟨e1,e2⟩:=eH b _ ⟨_,h1,p,as,rfl,h2,hb⟩ k1 k2 k3;exact⟨vs,e1,e2,k3,k4.same eF ps vs⟩
def Ϲ.owned{s:Slot}{y:Qqj}(h:Ϲ K c F H (some y) s)(ha:s.at_ F y a):∃u,H a=some u/\F a=none/\c.B a=none:=by
 cases s with
 |no=>exact ha.elim
 |sh p=>exact ha.elim
 |bw ps=>exact ha.elim
 |ow ps=>obtain⟨b,vs,h1,h2,h3,h4,h5⟩:=h;rw[show y=.ref a from ha] at h1;cases h1;exact⟨_,h2,h3,h4⟩
 |rc C ns ps=>obtain⟨b,dx,fs,h1,h2,h3,h4,h5,h6⟩:=h;rw[show y=.ref a from ha] at h1;cases h1;exact⟨_,h2,h3,h4⟩
 |ot ps qs=>obtain⟨p,b,xs,vs,h1,h2,h3,h4,h5,h6,h7⟩:=h;cases h1;cases ja (ps:=ps) (qs:=qs) ha ⟨p,xs,rfl,h2⟩;exact⟨_,h4,h5,h6⟩
 |ol Ck=>obtain⟨p,as,h1,h2,h3,h4⟩:=h;cases h1;obtain⟨q,bs,e1,e2,e3⟩:=ha;cases e1;rw[h2] at e2;have e:as=bs:=qj (by injection e2 with e2;injection e2);subst e;obtain⟨ps,_,vs,k1,k2,k3,_⟩:=Fe h4 e3;exact⟨_,k1,k2,k3⟩
def Ϲ.back{s:Slot}{y:Qqj}(h:Ϲ K c F H (some y) s)(e:Û F F')(ha:s.at_ F' y a):s.at_ F y a:=by
 cases s with
 |ot ps qs=>obtain⟨p,b,xs,vs,h1,h2,h3,h4,h5,h6,h7⟩:=h;cases h1;cases ja (ps:=ps) (qs:=qs) ha ⟨p,xs,rfl,e _ _ h2⟩;exact⟨p,xs,rfl,h2⟩
 |ol Ck=>obtain⟨p,as,h1,h2,h3,h4⟩:=h;cases h1;obtain⟨q,bs,e1,e2,e3⟩:=ha;cases e1;rw[e _ _ h2] at e2;have z:as=bs:=qj (by injection e2 with e2;injection e2);subst z;exact⟨p,as,rfl,h2,e3⟩
 |_=>exact ha
def gQ{i:Nat}{x:Qqj}(e:V[i]?=some (some x)):(V[i]?).getD none=some x:=by rw[e];rfl
def Fg{i:Nat}{x:Qqj}(e:(V[i]?).getD none=some x):V[i]?=some (some x):=by
 cases q:V[i]? with
 |none=>rw[q] at e;cases e
 |some y=>rw[q] at e;exact congrArg some e
theorem ļ.owned(r:ļ K c F H V Y){i:Nat}(h:ŧ F V Y i a):(∃u,H a=some u)/\F a=none/\c.B a=none:=by obtain⟨s,x,h1,h2,h3⟩:=h;have q:=r.slot i s h1;rw[gQ h2] at q;obtain⟨u,q⟩:=q.owned h3;exact⟨⟨u,q.1⟩,q.2⟩
theorem ļ.back(r:ļ K c F H V Y)(e:Û F F'){i:Nat}(h:ŧ F' V Y i a):ŧ F V Y i a:=by obtain⟨s,x,h1,h2,h3⟩:=h;have q:=r.slot i s h1;rw[gQ h2] at q;exact⟨s,x,h1,h2,q.back e h3⟩
def ļ.Qd(r:ļ K c F H V Y)(e:Û F F'):∀i j a,ŧ F' V Y i a->ŧ F' V Y j a->i=j:=λi j a h1 h2=>r.sep i j a (r.back e h1) (r.back e h2)
def ļ.qk(r:ļ K c F H V Y)(e:Û F F')(h:nk F V Y a):nk F' V Y a:=λi q=>h i (r.back e q)
def ļ.fresh(r:ļ K c F H V Y)(h:H a=none):nk F V Y a:=λi q=>by obtain⟨⟨u,e⟩,_⟩:=r.owned q;rw[h] at e;cases e
def ļ.alloc(r:ļ K c F H V Y)(h:H a=none):ļ K c (upd F a o) (upd H a o) V Y where
 sub:=λb u e=>by
  by_cases hb:b=a
  ·subst hb;rw[þ] at e ⊢;exact e
  ·rw[ì hb] at e ⊢;exact r.sub b u e
 base:=λb u e=>by
  have hb:b≠a:=λz=>by rw[z] at e;rw[r.base _ _ e] at h;cases h
  rw[ì hb];exact r.base b u e
 f0:=fun b u e=>by
   have hb:b≠a:=λz=>by rw[z] at e;rw[r.sub _ _ (r.f0 _ _ e)] at h;cases h
   rw[ì hb];exact r.f0 b u e
 dY:=λb h1 h2=>by
  have hb:b≠a:=λz=>by
   subst z;cases q:c.B b with
   |none=>exact h1 q
   |some u=>rw[r.base _ _ q] at h;cases h
  rw[ì hb];exact r.dY b h1 h2
 lent:=λb u e=>by
  obtain⟨h1,h2⟩:=r.lent b u e;have hb:b≠a:=λz=>by rw[z,h] at h1;cases h1
  rw[ì hb,ì hb];exact⟨h1,h2⟩
 lb:=r.lb
 len:=r.len
 slot:=λi s e=>by
  have hF:F a=none:=r.sub.free h;refine(r.slot i s e).grow (Û.upd hF) λb u _ h1 h2 h3=>?_;have hb:b≠a:=λz=>by rw[z,h] at h1;cases h1
  rw[ì hb,ì hb];exact⟨h1,h2⟩
 sep:=r.Qd (Û.upd (r.sub.free h))
def ļ.made(r:ļ K c F H V Y)(h:H a=none):ļ K c F (upd H a o) V Y where
 sub:=r.sub.trans (Û.upd h)
 base:=r.base.trans (Û.upd h)
 f0:=r.f0
 dY:=r.dY
 lent:=λb u e=>⟨Û.upd h b u (r.lent b u e).1,(r.lent b u e).2⟩
 lb:=r.lb
 len:=r.len
 slot:=λi s e=>(r.slot i s e).grow (Û.refl F) λb u _ h1 h2 h3=>⟨Û.upd h b u h1,h2⟩
 sep:=r.sep
def ļ.freeze(r:ļ K c F H V Y)(h:H a=some o)(hB:c.B a=none)(hF:F a=none)(hf:nk F V Y a):ļ K c (upd F a o) H V Y where
 sub:=λb u e=>by
  by_cases hb:b=a
  ·subst hb;rw[þ] at e;rw[h];exact e
  ·rw[ì hb] at e;exact r.sub b u e
 base:=r.base
 f0:=r.f0.trans (Û.upd hF)
 dY:=λb h1 h2=>by have hb:b≠a:=λz=>h1 (by rw[z];exact hB);rw[ì hb];exact r.dY b h1 h2
 lent:=λb u e=>by
  have hb:b≠a:=λz=>by rw[z,r.lb a hB] at e;cases e
  rw[ì hb];exact r.lent b u e
 lb:=r.lb
 len:=r.len
 slot:=λi s e=>(r.slot i s e).grow (Û.upd hF) λb' u' ⟨y,Wu,ha⟩ h1 h2 h3=>by
  have hb:b'≠a:=λz=>by subst z;exact hf i ⟨s,y,e,Fg Wu,ha⟩
  rw[ì hb];exact⟨h1,h2⟩
 sep:=r.Qd (Û.upd hF)
def ap{α:Type}{l:List α}{i j:Nat}{x y:α}(h:(l.set i x)[j]?=some y):(j=i/\y=x/\i<l.length)\/(j≠i/\l[j]?=some y):=by
 by_cases hj:j=i
 ·subst hj;have hl:j<l.length:=by
   have:=(Ϧ.mp h).1;simpa using this
  rw[oG hl] at h;exact .inl ⟨rfl,(ŀ h).symm,hl⟩
 ·rw[iB (ĥ hj)] at h;exact .inr ⟨hj,h⟩
def Fh{l:Ģ}{i:Nat}{x:Option Qqj}(h:i<l.length):((l.set i x)[i]?).getD none=x:=by rw[oG h];rfl
def Cm{l:Ģ}{i j:Nat}{x:Option Qqj}(h:j≠i):((l.set i x)[j]?).getD none=(l[j]?).getD none:=by rw[iB (ĥ h)]
def ŧ.off{i j:Nat}{x:Option Qqj}{s:Slot}(h:ŧ F (V.set i x) (Y.set i s) j a)(hj:j≠i):ŧ F V Y j a:=by obtain⟨s',y,h1,h2,h3⟩:=h;rw[iB (ĥ hj)] at h1 h2;exact⟨s',y,h1,h2,h3⟩
def ļ.put(r:ļ K c F H V Y){i:Nat}{x:Option Qqj}{s:Slot}(hs:s.own=false)(h:Ϲ K c F H x s):ļ K c F H (V.set i x) (Y.set i s) where
 sub:=r.sub
 base:=r.base
 f0:=r.f0
 dY:=r.dY
 lent:=r.lent
 lb:=r.lb
 len:=by simpa using r.len
 slot:=λj s' e=>by
  rcases ap e with⟨rfl,rfl,hl⟩|⟨hj,e⟩
  ·rw[Fh (by rw[r.len];exact hl)];exact h
  ·rw[Cm hj];exact r.slot j s' e
 sep:=λj k b h1 h2=>by
  have off:∀{j},ŧ F (V.set i x) (Y.set i s) j b->j≠i:=fun{j} q z=>by
   subst z;obtain⟨s',y,q1,_,q2⟩:=q;rcases ap q1 with⟨_,rfl,_⟩|⟨q,_⟩
   ·have:=gP q2;rw[hs] at this;cases this
   ·exact q rfl
  exact r.sep j k b (h1.off (off h1)) (h2.off (off h2))
def ļ.Fi(r:ļ K c F H V Y){i:Nat}{s:Slot}(hs:s.own=false)(h:Ϲ K c F H ((V[i]?).getD none) s):ļ K c F H V (Y.set i s) where
 sub:=r.sub
 base:=r.base
 f0:=r.f0
 dY:=r.dY
 lent:=r.lent
 lb:=r.lb
 len:=by simpa using r.len
 slot:=λj s' e=>by
  rcases ap e with⟨rfl,rfl,hl⟩|⟨hj,e⟩
  ·exact h
  ·exact r.slot j s' e
 sep:=λj k b h1 h2=>by
  have off:∀{j},ŧ F V (Y.set i s) j b->ŧ F V Y j b:=fun{j} ⟨s',y,q1,q3,q2⟩=>by
   rcases ap q1 with⟨_,rfl,_⟩|⟨_,q⟩
   ·have:=gP q2;rw[hs] at this;cases this
   ·exact⟨s',y,q,q3,q2⟩
  exact r.sep j k b (off h1) (off h2)
def ļ.Jo(r:ļ K c F H V Y){i:Nat}{x:Qqj}{s:Slot}(h:Ϲ K c F H (some x) s)(hf:∀a,s.at_ F x a->nk F V Y a):ļ K c F H (V.set i (some x)) (Y.set i s) where
 sub:=r.sub
 base:=r.base
 f0:=r.f0
 dY:=r.dY
 lent:=r.lent
 lb:=r.lb
 len:=by simpa using r.len
 slot:=λj s' e=>by
  rcases ap e with⟨rfl,rfl,hl⟩|⟨hj,e⟩
  ·rw[Fh (by rw[r.len];exact hl)];exact h
  ·rw[Cm hj];exact r.slot j s' e
 sep:=λj k b h1 h2=>by
  have Qe:∀{j},ŧ F (V.set i (some x)) (Y.set i s) j b->(j=i/\s.at_ F x b)\/(j≠i/\ŧ F V Y j b):=fun{j} q=>by
   by_cases hj:j=i
   ·subst hj;obtain⟨s',y,q1,q2,q3⟩:=q;rcases ap q2 with⟨_,e,_⟩|⟨z,_⟩
    ·cases e;rcases ap q1 with⟨_,e,_⟩|⟨z,_⟩
     ·cases e;exact .inl ⟨rfl,q3⟩
     ·exact absurd rfl z
    ·exact absurd rfl z
   ·exact .inr ⟨hj,q.off hj⟩
  rcases Qe h1 with⟨e1,z1⟩|⟨e1,o1⟩
  ·rcases Qe h2 with⟨e2,z2⟩|⟨e2,o2⟩
   ·rw[e1,e2]
   ·exact absurd o2 (hf b z1 k)
  ·rcases Qe h2 with⟨e2,z2⟩|⟨e2,o2⟩
   ·exact absurd o1 (hf b z2 j)
   ·exact r.sep j k b o1 o2
def ļ.Fj(r:ļ K c F H V Y){i:Nat}{s:Slot}(ho:ŧ F V Y i a)(h:Ϲ K c F (upd H a o) ((V[i]?).getD none) s)(hs:∀x b,V[i]?=some (some x)->s.at_ F x b->ŧ F V Y i b):ļ K c F (upd H a o) V (Y.set i s) where
 sub:=λb u e=>by
  have hb:b≠a:=λz=>by rw[z,(r.owned ho).2.1] at e;cases e
  rw[ì hb];exact r.sub b u e
 base:=λb u e=>by
  have hb:b≠a:=λz=>by rw[z,(r.owned ho).2.2] at e;cases e
  rw[ì hb];exact r.base b u e
 f0:=r.f0
 dY:=r.dY
 lent:=λb u e=>by
  have hb:b≠a:=λz=>by rw[z,r.lb a (r.owned ho).2.2] at e;cases e
  rw[ì hb];exact r.lent b u e
 lb:=r.lb
 len:=by simpa using r.len
 slot:=λj s' e=>by
  rcases ap e with⟨rfl,rfl,hl⟩|⟨hj,e⟩
  ·exact h
  ·refine(r.slot j s' e).grow (Û.refl F) λb u ⟨y,e1,e2⟩ h1 h2 h3=>?_;have hb:b≠a:=λz=>by
    subst z;exact hj (r.sep j i b ⟨s',y,e,Fg e1,e2⟩ ho)
   exact⟨by rw[ì hb];exact h1,h2⟩
 sep:=λj k b h1 h2=>by
  have off:∀{j},ŧ F V (Y.set i s) j b->ŧ F V Y j b:=fun{j} ⟨s',y,q1,q3,q2⟩=>by
   rcases ap q1 with⟨e,rfl,_⟩|⟨_,q⟩
   ·subst e;exact hs y b q3 q2
   ·exact⟨s',y,q,q3,q2⟩
  exact r.sep j k b (off h1) (off h2)
def ļ.write(r:ļ K c F H V Y){i:Nat}{s:Slot}(ho:ŧ F V Y i a)(hx:V[i]?=some (some (.ref a)))(h:Ϲ K c F (upd H a o) (some (.ref a)) s)(hs:∀b,s.at_ F (.ref a) b->b=a):ļ K c F (upd H a o) V (Y.set i s):=
 r.Fj ho (by rw[hx];exact h) λx b e q=>by rw[hx] at e;cases e;rw[hs b q];exact ho
structure Gr(F H F' H':Hp):Prop where
 h:Û H H'
 f:Û F F'
 sub:Û F' H'
 out:∀a,H a≠none->F a=none->F' a=none
def ļ.call(r:ļ K c F H V Y)(g:Gr F H F' H'):ļ K c F' H' V Y where
 sub:=g.sub
 base:=r.base.trans g.h
 f0:=r.f0.trans g.f
 dY:=λb h1 h2=>by
  refine g.out b (λz=>h1 ?_) (r.dY b h1 h2);cases q:c.B b with
  |none=>rfl
  |some u=>rw[r.base _ _ q] at z;cases z
 lent:=λb u e=>⟨g.h b u (r.lent b u e).1,g.out b (by rw[(r.lent b u e).1];intro z;cases z) (r.lent b u e).2⟩
 lb:=r.lb
 len:=r.len
 slot:=λi s e=>(r.slot i s e).grow g.f λb u _ h1 h2 h3=>⟨g.h b u h1,g.out b (by rw[h1];intro z;cases z) h2⟩
 sep:=r.Qd g.f
noncomputable def de(F H:Hp):Ctx:=⟨H,F,λa=>match F a with
 |none=>H a
 |some _=>none,λ_ _ _=>True⟩
def ef{a:À}{u:HO}(h:(de F H).L a=some u):H a=some u/\F a=none:=by
 unfold de at h;dsimp only at h;cases q:F a with
 |none=>rw[q] at h;exact⟨h,rfl⟩
 |some o=>rw[q] at h;cases h
def ļ.gr(r:ļ K (de F H) F' H' V Y):Gr F H F' H':=⟨r.base,r.f0,r.sub,r.dY⟩
def cg(K:KK)(F H:Hp):Slot->Qqj->Prop
 | .sh p,v=>Đ K F p v
 | .bw ps,v=>∃a vs,v=.ref a/\H a=some (.lst vs)/\F a=none/\ò K F ps vs
 |_,_=>False
def cg.slot{s:Slot}{v:Qqj}(h:cg K F H s v):Ϲ K (de F H) F H (some v) s/\s.own=false:=by
 cases s with
 |sh p=>exact⟨⟨v,rfl,h⟩,rfl⟩
 |bw ps=>obtain⟨a,vs,rfl,h1,h2,h3⟩:=h;refine⟨⟨a,vs,rfl,?_,h3⟩,rfl⟩;show(match F a with|none=>H a|some _=>none)=_;rw[h2];exact h1
 |no=>exact h.elim
 |ow ps=>exact h.elim
 |rc C ns ps=>exact h.elim
 |ot ps qs=>exact h.elim
 |ol Ck=>exact h.elim
def ş(n:Nat)(as:List Slot):Ĝ:=as++Ï (n-as.length) .no
theorem ļ.start{N:List Str}{as:List Slot}{vs:List Qqj}(s:Û F H)(h:Paired (cg K F H) as vs):ļ K (de F H) F H (L2.start N vs) (ş N.length as) where
 sub:=s
 base:=Û.refl H
 f0:=Û.refl F
 dY:=λ_ _ h=>h
 lent:=λ_ _ e=>ef e
 lb:=fun a e=>by
   cases q:(de F H).L a with
   |none=>rfl
   |some u=>have e':H a=none:=e;rw[(ef q).1] at e';cases e'
 len:=by unfold L2.start ş;simp[Paired.length h]
 slot:=λi s' e=>by
  unfold ş at e;by_cases hi:i<as.length
  ·rw[ϧ hi] at e;obtain⟨v,h1,h2⟩:=bI h e;have hv:((L2.start N vs)[i]?).getD none=some v:=by
    unfold L2.start;rw[ϧ (by simpa[<-Paired.length h] using hi),Ϩ,h1];rfl
   rw[hv];exact(cg.slot h2).1
  ·rw[bc (by lia),fb] at e;split at e
   ·cases e;trivial
   ·cases e
 sep:=λi j a h1 _=>by
  obtain⟨s',y,h1,_,h2⟩:=h1;have h2:=gP h2;exfalso;unfold ş at h1;by_cases hi:i<as.length
  ·rw[ϧ hi] at h1;obtain⟨v,_,h3⟩:=bI h h1;rw[(cg.slot h3).2] at h2;cases h2
  ·rw[bc (by lia),fb] at h1;split at h1
   ·cases h1;cases h2
   ·cases h1
end
structure PX where
 C:String
 ns:List Str
 ps:List PV
def DL(K:KK)(F:Hp)(x:PX)(C:Á)(d:Option À):Prop:=C=.ref (K.cm x.C)/\∃fs,qi F d fs/\fs.map (·.1)=x.ns/\ò K F x.ps (fs.map (·.2))
inductive Ŋ(α:Type) where
 |ok (a:α) (Y:Ĝ)|exc (x:PX) (Y:Ĝ)|bad
noncomputable def Ŋ.bind{α β:Type}(r:Ŋ α)(f:α->Ĝ->Ŋ β):Ŋ β:= match r with
 | .ok a Y=>f a Y
 | .exc x Y=>.exc x Y
 | .bad=>.bad
@[simp] theorem Ŋ.aq{α β:Type}{a:α}{Y:Ĝ}{f:α->Ĝ->Ŋ β}:(Ŋ.ok a Y).bind f=f a Y:= rfl
@[simp] theorem Ŋ.Uv{α β:Type}{x:PX}{Y:Ĝ}{f:α->Ĝ->Ŋ β}:(Ŋ.exc x Y:Ŋ α).bind f=.exc x Y:= rfl
@[simp] theorem Ŋ.Uw{α β:Type}{f:α->Ĝ->Ŋ β}:(Ŋ.bad:Ŋ α).bind f=.bad:=rfl
def Ŋ.Cn{α:Type}(o:Option α)(Y:Ĝ):Ŋ α:= match o with
 |some a=>.ok a Y
 |none=>.bad
@[simp] theorem Ŋ.Ux{α:Type}{a:α}{Y:Ĝ}:Ŋ.Cn (some a) Y=.ok a Y:= rfl
@[simp] theorem Ŋ.Uy{α:Type}{Y:Ĝ}:Ŋ.Cn (none:Option α) Y=.bad:=rfl
abbrev M(α:Type):=Ĝ->Ŋ α
inductive RV where
 |sh (p:PV)|ow (ps:List PV)|ot (ps qs:List PV)
noncomputable def RV.val:RV->PV
 | .sh p=>p
 | .ow ps=>.lst ps
 | .ot ps qs=>.tup (ps ++ [.lst qs])
noncomputable def RV.slot:RV->Slot
 | .sh p=>.sh p
 | .ow ps=>.ow ps
 | .ot ps qs=>.ot ps qs
abbrev RR(α β:Type):=Ctx->Ģ->Ĝ->Hp->Hp->α->β->Prop
def rV(K:KK):RR PV Qqj:=λ_ _ _ F _ p v=>Đ K F p v
def Co(K:KK)(F H:Hp)(p:PV)(v:Qqj):Prop:=match p with
 | .lst ps=>∃a vs,v=.ref a/\H a=some (.lst vs)/\ò K F ps vs
 | .ins C ns ps=>∃a dx fs,v=.ref a/\H a=some (.ins (K.cm C) dx fs)/\fs.map (·.1)=ns/\ò K F ps (fs.map (·.2))
 |_=>False
def rR(K:KK):RR PV Qqj:=λ_ _ _ F H p v=>Đ K F p v\/Co K F H p v
def rA(K:KK):RR (List Slot) (List Qqj):=λ_ _ _ F H as vs=>Paired (cg K F H) as vs
def Ie(K:KK)(c:Ctx)(V:Ģ)(Y:Ĝ)(F H:Hp)(ps:List PV)(v:Qqj):Prop:=∃a vs,v=.ref a/\H a=some (.lst vs)/\F a=none/\c.B a=none/\nk F V Y a/\ò K F ps vs
def Cp(K:KK)(c:Ctx)(V:Ģ)(Y:Ĝ)(F H:Hp)(ps qs:List PV)(v:Qqj):Prop:=∃p a xs vs,v=.ref p/\F p=some (.tup (xs ++ [.ref a]))/\ò K F ps xs/\H a=some (.lst vs)/\F a=none/\c.B a=none/\nk F V Y a/\ò K F qs vs
def rO(K:KK):RR RV Qqj:=λc V Y F H r v=>match r with
 | .sh p=>Đ K F p v
 | .ow ps=>Ie K c V Y F H ps v
 | .ot ps qs=>Cp K c V Y F H ps qs v
def rL(K:KK):RR (List PV) (List Qqj):=λ_ _ _ F _ p v=>ò K F p v
def Uz(K:KK):RR (List PV) (List Qqj):=λc V Y F H p v=>Paired (rR K c V Y F H) p v
def rB:RR Bool Bool:=λ_ _ _ _ _ p v=>p=v
def rI:RR (Option Int) (Option Int):=λ_ _ _ _ _ p v=>p=v
def aM{α β:Type}(K:KK)(E:Ģ->XK)(R:RR α β)(c:Ctx)(F H:Hp)(V:Ģ)(Q:β->Hp->Prop):Ŋ α->Prop
 | .ok p Y'=>∀v F' H',ļ K c F' H' V Y'->Û F F'->Û H H'->R c V Y' F' H' p v->Q v H'
 | .exc x Y'=>∀C d F' H',ļ K c F' H' V Y'->Û F F'->DL K F' x C d->E V C d H'
 | .bad=>False
def tG{α β:Type}(K:KK)(E:Ģ->XK)(R:RR α β)(m:M α):Ģ->Hp->(β->Hp->Prop)->Prop:=λV H Q=>∃c F Y,ļ K c F H V Y/\aM K E R c F H V Q (m Y)
section
variable{α β α' β':Type}{K:KK}{E:Ģ->XK}{R:RR α β}{R':RR α' β'}{c:Ctx}{F F1 H H1:Hp}{V:Ģ}
def aM.mono{Q:β->Hp->Prop}{r:Ŋ α}(h:aM K E R c F H V Q r)(sF:Û F F1)(sH:Û H H1):aM K E R c F1 H1 V Q r:=by
 cases r with
 |ok p Y'=>exact λv F' H' rel s1 s2 q=>h v F' H' rel (sF.trans s1) (sH.trans s2) q
 |exc x Y'=>exact λC d F' H' rel s1 q=>h C d F' H' rel (sF.trans s1) q
 |bad=>exact h
theorem aM.bind{Q:β->Hp->Prop}{Q':β'->Hp->Prop}{r:Ŋ α}{f:α->Ĝ->Ŋ α'}(h:aM K E R' c F H V Q' (r.bind f))
 (k:∀p Y1 v F1 H1,ļ K c F1 H1 V Y1->Û F F1->Û H H1->R c V Y1 F1 H1 p v->aM K E R' c F1 H1 V Q' (f p Y1)->Q v H1):aM K E R c F H V Q r:=by
 cases r with
 |ok p Y'=>exact λv F' H' rel s1 s2 q=>k p Y' v F' H' rel s1 s2 q (aM.mono (show aM K E R' c F H V Q' (f p Y') from h) s1 s2)
 |exc x Y'=>exact h
 |bad=>exact h
theorem aM.rel{R2:RR α β}{Q:β->Hp->Prop}{r:Ŋ α}(h:aM K E R c F H V Q r)(k:∀p Y' v F' H',ļ K c F' H' V Y'->R2 c V Y' F' H' p v->R c V Y' F' H' p v):aM K E R2 c F H V Q r:=by
 cases r with
 |ok p Y'=>exact λv F' H' rel s1 s2 q=>h v F' H' rel s1 s2 (k p Y' v F' H' rel q)
 |exc x Y'=>exact h
 |bad=>exact h
end
abbrev tV(K:KK)(E:Ģ->XK)(m:M PV):TE:=tG K E (rV K) m
abbrev tR(K:KK)(E:Ģ->XK)(m:M PV):TE:=tG K E (rR K) m
abbrev tO(K:KK)(E:Ģ->XK)(m:M RV):TE:=tG K E (rO K) m
abbrev tL(K:KK)(E:Ģ->XK)(m:M (List PV)):TA:=tG K E (rL K) m
abbrev tA(K:KK)(E:Ģ->XK)(m:M (List Slot)):TA:=tG K E (rA K) m
abbrev Jp(K:KK)(E:Ģ->XK)(m:M (List PV)):TA:=tG K E (Uz K) m
abbrev tB(K:KK)(E:Ģ->XK)(m:M Bool):TT:=tG K E rB m
inductive Fl where
 |nx|bk|ct|rt (r:RV)
def Ź(K:KK)(E:Ģ->XK)(c:Ctx)(F:Hp)(D:Ends):Ŋ Fl->Prop
 | .ok .nx Y'=>∀V' F' H',ļ K c F' H' V' Y'->Û F F'->D.nx V' H'
 | .ok .bk Y'=>∀V' F' H',ļ K c F' H' V' Y'->Û F F'->D.bk V' H'
 | .ok .ct Y'=>∀V' F' H',ļ K c F' H' V' Y'->Û F F'->D.ct V' H'
 | .ok (.rt r) Y'=>∀v V' F' H',ļ K c F' H' V' Y'->Û F F'->rO K c V' Y' F' H' r v->D.rt v H'
 | .exc x Y'=>∀V' C d F' H',ļ K c F' H' V' Y'->Û F F'->DL K F' x C d->E V' C d H'
 | .bad=>False
def tS(K:KK)(E:Ģ->XK)(m:M Fl):TS:=λD V H=>∃c F Y,ļ K c F H V Y/\Ź K E c F D (m Y)
section
variable{K:KK}{E:Ģ->XK}{c:Ctx}{F F1:Hp}{D:Ends}
def Ź.mono{r:Ŋ Fl}(h:Ź K E c F D r)(sF:Û F F1):Ź K E c F1 D r:=by
 cases r with
 |ok f Y'=>
  cases f with
  |rt v=>exact λv V' F' H' rel s1 q=>h v V' F' H' rel (sF.trans s1) q
  |nx=>exact λV' F' H' rel s1=>h V' F' H' rel (sF.trans s1)
  |bk=>exact λV' F' H' rel s1=>h V' F' H' rel (sF.trans s1)
  |ct=>exact λV' F' H' rel s1=>h V' F' H' rel (sF.trans s1)
 |exc x Y'=>exact λV' C d F' H' rel s1 q=>h V' C d F' H' rel (sF.trans s1) q
 |bad=>exact h
theorem Ź.bind{α β:Type}{R:RR α β}{V:Ģ}{H:Hp}{Q:β->Hp->Prop}{r:Ŋ α}{f:α->Ĝ->Ŋ Fl}(h:Ź K E c F D (r.bind f))
 (k:∀p Y1 v F1 H1,ļ K c F1 H1 V Y1->Û F F1->R c V Y1 F1 H1 p v->Ź K E c F1 D (f p Y1)->Q v H1):aM K E R c F H V Q r:=by
 cases r with
 |ok p Y'=>exact λv F' H' rel s1 s2 q=>k p Y' v F' H' rel s1 q (Ź.mono (show Ź K E c F D (f p Y') from h) s1)
 |exc x Y'=>exact λC d F' H' rel s1 q=>h V C d F' H' rel s1 q
 |bad=>exact h
end
open PySem PySem.Spec PyProof.Rows L2 M2
noncomputable def ê(i:Nat):M PV:=λY=>match Y[i]? with
 |some (.sh p)=>.ok p Y
 |some (.ow ps)=>.ok (.lst ps) (Y.set i (.sh (.lst ps)))
 |_=>.bad
noncomputable def Â(i:Nat):M PV:=λY=>match Y[i]? with
 |some (.sh p)=>.ok p Y
 |some (.ow ps)=>.ok (.lst ps) Y
 |some (.bw ps)=>.ok (.lst ps) Y
 |some (.rc C ns ps)=>.ok (.ins C ns ps) Y
 |_=>.bad
noncomputable def bp(i:Nat):M RV:=λY=>match Y[i]? with
 |some (.sh p)=>.ok (.sh p) Y
 |some (.ow ps)=>.ok (.ow ps) (Y.set i .no)
 |_=>.bad
@[simp] def mC(p:PV)(Y:Ĝ):Ŋ PV:= .ok p Y
abbrev Ä(i:Int):M PV:= mC (.int i)
@[simp] def Ń(m:M PV)(Y:Ĝ):Ŋ RV:= (m Y).bind λp Y1=>.ok (.sh p) Y1
@[simp] def á(m:M RV)(Y:Ĝ):Ŋ PV:= (m Y).bind λr Y1=>.ok r.val Y1
section
variable{K:KK}{c:Ctx}{F H:Hp}{V:Ģ}{Y:Ĝ}
def Ű{i:Nat}{x:Qqj}(h:(V[i]?).getD none=some x):V[i]?=some (some x):=by
 cases q:V[i]? with
 |none=>rw[q] at h;cases h
 |some y=>rw[q] at h;exact congrArg some h
theorem ļ.ow(r:ļ K c F H V Y){i:Nat}{ps:List PV}(e:Y[i]?=some (.ow ps)):∃a vs,V[i]?=some (some (.ref a))/\H a=some (.lst vs)/\F a=none/\c.B a=none/\ò K F ps vs/\ŧ F V Y i a:=by obtain⟨a,vs,h1,h2,h3,h4,h5⟩:=r.slot i _ e;exact⟨a,vs,Ű h1,h2,h3,h4,h5,⟨_,_,e,Ű h1,rfl⟩⟩
def ļ.move(r:ļ K c F H V Y){i:Nat}{a:À}(h:ŧ F V Y i a):ļ K c F H V (Y.set i .no)/\nk F V (Y.set i .no) a:=by
 refine⟨r.Fi rfl trivial,λj ⟨s,y,q1,q3,q2⟩=>?_⟩;rcases ap q1 with⟨_,rfl,_⟩|⟨hj,q⟩
 ·exact q2.elim
 ·exact hj (r.sep j i a ⟨s,y,q,q3,q2⟩ h)
def ļ.share(r:ļ K c F H V Y){i:Nat}{ps:List PV}(e:Y[i]?=some (.ow ps)):∃a vs,V[i]?=some (some (.ref a))/\F a=none/\Đ K (upd F a (.lst vs)) (.lst ps) (.ref a)/\ļ K c (upd F a (.lst vs)) H V (Y.set i (.sh (.lst ps))):=by
 obtain⟨a,vs,h1,h2,h3,h4,h5,ho⟩:=r.ow e;obtain⟨m1,m2⟩:=r.move ho;have rp:Đ K (upd F a (.lst vs)) (.lst ps) (.ref a):=by unfold Đ;exact⟨a,vs,rfl,Ϟ.of þ,h5.same (Û.upd h3) ps vs⟩
 have q:=(m1.freeze h2 h4 h3 m2).Fi (i:=i) (s:=.sh (.lst ps)) rfl (show Ϲ K c _ H _ (.sh (.lst ps)) from⟨.ref a,by rw[h1];rfl,rp⟩);rw[List.set_set] at q;exact⟨a,vs,h1,h3,rp,q⟩
def Co.mono{F1 H1:Hp}{p:PV}{v:Qqj}(h:Co K F H p v)(sF:Û F F1)(sH:Û H H1):Co K F1 H1 p v:=by
 cases p with
 |lst ps=>obtain⟨a,vs,h2,h3,h4⟩:=h;exact⟨a,vs,h2,sH _ _ h3,h4.same sF ps vs⟩
 |ins C ns ps=>obtain⟨a,dx,fs,h2,h3,h4,h5⟩:=h;exact⟨a,dx,fs,h2,sH _ _ h3,h4,h5.same sF ps _⟩
 |_=>exact h.elim
theorem rR.mono{c:Ctx}{V:Ģ}{Y Y':Ĝ}{F1 H1:Hp}{p:PV}{v:Qqj}(h:rR K c V Y F H p v)(sF:Û F F1)(sH:Û H H1):rR K c V Y' F1 H1 p v:=by
 rcases h with h|h
 ·exact .inl (h.same sF p v)
 ·exact .inr (h.mono sF sH)
theorem rR.lst{c:Ctx}{V:Ģ}{Y:Ĝ}{ps:List PV}{v:Qqj}(s:Û F H)(h:rR K c V Y F H (.lst ps) v):∃a vs,v=.ref a/\Ϟ K.K H a vs/\ò K F ps vs:=by
 rcases h with h|⟨a,vs,h2,h3,h4⟩
 ·unfold Đ at h;obtain⟨a,xs,h1,h2,h3⟩:=h;exact⟨a,xs,h1,s.seq h2,h3⟩
 ·exact⟨a,vs,h2,Ϟ.of h3,h4⟩
theorem rR.tup{c:Ctx}{V:Ģ}{Y:Ĝ}{ps:List PV}{v:Qqj}(s:Û F H)(h:rR K c V Y F H (.tup ps) v):∃a vs,v=.ref a/\da K.K H a vs/\ò K F ps vs:=by
 rcases h with h|h
 ·unfold Đ at h;obtain⟨a,xs,h1,h2,h3⟩:=h;exact⟨a,xs,h1,Û.tup s h2,h3⟩
 ·exact h.elim
theorem rR.int{c:Ctx}{V:Ģ}{Y:Ĝ}{i:Int}{v:Qqj}(h:rR K c V Y F H (.int i) v):v=.int i:=by
 rcases h with h|h
 ·unfold Đ at h;exact h
 ·exact h.elim
theorem rR.str{c:Ctx}{V:Ģ}{Y:Ĝ}{i:Str}{v:Qqj}(h:rR K c V Y F H (.str i) v):v=.str i:=by
 rcases h with h|h
 ·unfold Đ at h;exact h
 ·exact h.elim
theorem rR.bl{c:Ctx}{V:Ģ}{Y:Ĝ}{i:Bool}{v:Qqj}(h:rR K c V Y F H (.bl i) v):v=.bl i:=by
 rcases h with h|h
 ·unfold Đ at h;exact h
 ·exact h.elim
theorem rR.non{c:Ctx}{V:Ģ}{Y:Ĝ}{v:Qqj}(h:rR K c V Y F H .non v):v=.non:=by
 rcases h with h|h
 ·unfold Đ at h;exact h
 ·exact h.elim
theorem rR.ty{c:Ctx}{V:Ģ}{Y:Ĝ}{n:String}{v:Qqj}(h:rR K c V Y F H (.ty n) v):v=.ty n:=by
 rcases h with h|h
 ·unfold Đ at h;exact h
 ·exact h.elim
theorem Đ.int{i:Int}:Đ K F (.int i) (.int i):=by unfold Đ;rfl
theorem Đ.str{i:Str}:Đ K F (.str i) (.str i):=by unfold Đ;rfl
theorem Đ.bl{i:Bool}:Đ K F (.bl i) (.bl i):=by unfold Đ;rfl
theorem Đ.non:Đ K F .non .non:=by unfold Đ;rfl
end
section
variable{X:Cx}{cm:String->À}{E:Ģ->XK}{a b e:Ð}{es:List Ð}{pos:Pos}{m ma mb mc:M PV}{mo:M RV}
def PT.wk{t t':TT}(h:PT X e t)(i:∀V H Q,t' V H Q->t V H Q):PT X e t':=λÃ s V H Q I q=>h Ã s V H Q I (i V H Q q)
def PA.wk{t t':TA}(h:PA X es t)(i:∀V H Q,t' V H Q->t V H Q):PA X es t':=λpos Ã s V H Q I q=>h pos Ã s V H Q I (i V H Q q)
def PW.wk{t t':TT}(h:PW X e t)(i:∀V H Q,t' V H Q->t V H Q):PW X e t':=λwh Ã s V H Q I q=>h wh Ã s V H Q I (i V H Q q)
def fH.wk{st:List Ö}{t t':TS}(h:fH X st t)(i:∀D V H,t' D V H->t D V H):fH X st t':=λÃ s V H D I q=>h Ã s V H D I (i D V H q)
def v_var(i:Nat){x:Str}{pos:Pos}(hN:X.N[i]?=some x:=by rfl)(hv:w_ X.env.scope x:=by first|exact Ġ rfl|exact Č (Ġ rfl)|exact Č (Č rfl))(hd:(x== ("__debug__" :Str))=false:=by decide)
 (et:(x== ("__classdict__" :Str))=false:=by decide):PE X (.Name x pos) (tV (kk X cm) E (ê i)):=PE.wk (cS hN hv hd et) λV H Q ⟨c,F,Y,rel,h⟩=>by
 unfold ê at h;split at h
 ·rename_i p e;obtain⟨v,h1,h2⟩:=rel.slot i _ e;exact⟨v,Ű h1,h v F H rel (Û.refl F) (Û.refl H) h2⟩
 ·rename_i ps e;obtain⟨a,vs,h1,h2,h3,h4⟩:=rel.share e;exact⟨.ref a,h1,h _ _ H h4 (Û.upd h2) (Û.refl H) h3⟩
 ·exact h.elim
def Æ(i:Nat){x:Str}{pos:Pos}(hN:X.N[i]?=some x:=by rfl)(hv:w_ X.env.scope x:=by first|exact Ġ rfl|exact Č (Ġ rfl)|exact Č (Č rfl))(hd:(x== ("__debug__" :Str))=false:=by decide)
 (et:(x== ("__classdict__" :Str))=false:=by decide):PE X (.Name x pos) (tR (kk X cm) E (Â i)):=PE.wk (cS hN hv hd et) λV H Q ⟨c,F,Y,rel,h⟩=>by
 unfold Â at h;split at h
 ·rename_i p e;obtain⟨v,h1,h2⟩:=rel.slot i _ e;exact⟨v,Ű h1,h v F H rel (Û.refl F) (Û.refl H) (.inl h2)⟩
 ·rename_i ps e;obtain⟨a,vs,h1,h2,h3,h4,h5,_⟩:=rel.ow e;exact⟨.ref a,h1,h _ F H rel (Û.refl F) (Û.refl H) (.inr ⟨a,vs,rfl,h2,h5⟩)⟩
 ·rename_i ps e;obtain⟨a,vs,h1,h2,h3⟩:=rel.slot i _ e;exact⟨.ref a,Ű h1,h _ F H rel (Û.refl F) (Û.refl H) (.inr ⟨a,vs,rfl,(rel.lent a _ h2).1,h3⟩)⟩
 ·rename_i C ns ps e;obtain⟨a,dx,fs,h1,h2,h3,h4,h5,h6⟩:=rel.slot i _ e;exact⟨.ref a,Ű h1,h _ F H rel (Û.refl F) (Û.refl H) (.inr ⟨a,dx,fs,rfl,h2,h5,h6.1⟩)⟩
 ·exact h.elim
def cu(i:Nat){x:Str}{pos:Pos}(hN:X.N[i]?=some x:=by rfl)(hv:w_ X.env.scope x:=by first|exact Ġ rfl|exact Č (Ġ rfl)|exact Č (Č rfl))(hd:(x== ("__debug__" :Str))=false:=by decide)
 (et:(x== ("__classdict__" :Str))=false:=by decide):PE X (.Name x pos) (tO (kk X cm) E (bp i)):=PE.wk (cS hN hv hd et) λV H Q ⟨c,F,Y,rel,h⟩=>by
 unfold bp at h;split at h
 ·rename_i p e;obtain⟨v,h1,h2⟩:=rel.slot i _ e;exact⟨v,Ű h1,h v F H rel (Û.refl F) (Û.refl H) h2⟩
 ·rename_i ps e;obtain⟨a,vs,h1,h2,h3,h4,h5,h6⟩:=rel.ow e;obtain⟨m1,m2⟩:=rel.move h6;exact⟨.ref a,h1,h _ F H m1 (Û.refl F) (Û.refl H) ⟨a,vs,rfl,h2,h3,h4,m2,h5⟩⟩
 ·exact h.elim
def lT{v:Qqj}(p:PV)(h:PE X e (tC v))(hr:∀F,Đ (kk X cm) F p v:=by intro _;unfold Đ;rfl):PE X e (tV (kk X cm) E (mC p)):=PE.wk h λV H Q ⟨c,F,Y,rel,h⟩=>h v F H rel (Û.refl F) (Û.refl H) (hr F)
def ģ{i j pos}:PE X (.Constant (.int i) j pos) (tV (kk X cm) E (mC (.int i))):=lT _ Ey
def si{i j pos}:PE X (.Constant (.bool i) j pos) (tV (kk X cm) E (mC (.bl i))):=lT _ TN
def jt{j pos}:PE X (.Constant .none j pos) (tV (kk X cm) E (mC .non)):=lT _ OW
def gc{x j pos}:PE X (.Constant (.str x) j pos) (tV (kk X cm) E (mC (.str x))):=lT _ OX
def ÿ(h:PE X e (tV (kk X cm) E m)):PE X e (tR (kk X cm) E m):=PE.wk h λV H Q ⟨c,F,Y,rel,h⟩=>⟨c,F,Y,rel,h.rel λ_ _ _ _ _ _ q=>.inl q⟩
def ő(h:PE X e (tV (kk X cm) E m)):PE X e (tO (kk X cm) E (Ń m)):=PE.wk h λV H Q ⟨c,F,Y,rel,h⟩=>⟨c,F,Y,rel,h.bind λp Y1 v F1 H1 ë s1 s2 q h1=>h1 v F1 H1 ë Ę Ę q⟩
def Ie.share{K:KK}{c:Ctx}{F H:Hp}{V:Ģ}{Y:Ĝ}{ps:List PV}{v:Qqj}(rel:ļ K c F H V Y)(h:Ie K c V Y F H ps v):∃F1,Û F F1/\ļ K c F1 H V Y/\Đ K F1 (.lst ps) v:=by obtain⟨a,vs,rfl,h1,h2,h3,h4,h5⟩:=h;refine⟨_,Û.upd h2,rel.freeze h1 h3 h2 h4,?_⟩;unfold Đ;exact⟨a,vs,rfl,Ϟ.of þ,h5.same (Û.upd h2) ps vs⟩
def Cp.share{K:KK}{c:Ctx}{F H:Hp}{V:Ģ}{Y:Ĝ}{ps qs:List PV}{v:Qqj}(rel:ļ K c F H V Y)(h:Cp K c V Y F H ps qs v):∃F1,Û F F1/\ļ K c F1 H V Y/\Đ K F1 (.tup (ps ++ [.lst qs])) v:=by
 obtain⟨p,a,xs,vs,rfl,h0,hx,h1,h2,h3,h4,h5⟩:=h;refine⟨_,Û.upd h2,rel.freeze h1 h3 h2 h4,?_⟩;have ra:Đ K (upd F a (.lst vs)) (.lst qs) (.ref a):=by unfold Đ;exact⟨a,vs,rfl,Ϟ.of þ,h5.same (Û.upd h2) qs vs⟩
 unfold Đ;exact⟨p,_,rfl,da.of (Û.upd h2 _ _ h0),ò.append (hx.same (Û.upd h2) ps xs) (ò.cons ra ò.nil)⟩
def Ć(h:PE X e (tO (kk X cm) E mo)):PE X e (tV (kk X cm) E (á mo)):=PE.wk h λV H Q ⟨c,F,Y,rel,h⟩=>⟨c,F,Y,rel,h.bind λr Y1 v F1 H1 ë s1 s2 q h1=>by
 cases r with
 |sh p=>exact h1 v F1 H1 ë Ę Ę q
 |ow ps=>obtain⟨F2,s3,ħ,rp⟩:=Ie.share ë q;exact h1 v F2 H1 ħ s3 Ę rp
 |ot ps qs=>obtain⟨F2,s3,ħ,rp⟩:=Cp.share ë q;exact h1 v F2 H1 ħ s3 Ę rp⟩
@[simp] def È(f:PV->PV->Option PV)(ma mb:M PV)(Y:Ĝ):Ŋ PV:= (ma Y).bind λp Y1=>(mb Y1).bind λq Y2=>Ŋ.Cn (f p q) Y2
@[simp] def Ċ(f:PV->PV->Option RV)(ma mb:M PV)(Y:Ĝ):Ŋ RV:= (ma Y).bind λp Y1=>(mb Y1).bind λq Y2=>Ŋ.Cn (f p q) Y2
def ju(K:KK)(r:R2)(f:PV->PV->Option PV):Prop:=∀{c:Ctx} {F H:Hp} {V:Ģ} {Y:Ĝ} {p q pv:PV} {v u:Qqj} {Q:VK},ļ K c F H V Y->rR K c V Y F H p v->rR K c V Y F H q u->f p q=some pv->
 (∀z F' H',ļ K c F' H' V Y->Û F F'->Û H H'->Đ K F' pv z->Q z H')->r v u H Q
def YZ(K:KK)(r:R2)(f:PV->PV->Option RV):Prop:=∀{c:Ctx} {F H:Hp} {V:Ģ} {Y:Ĝ} {p q:PV} {pv:RV} {v u:Qqj} {Q:VK},ļ K c F H V Y->rR K c V Y F H p v->rR K c V Y F H q u->f p q=some pv->
 (∀z F' H',ļ K c F' H' V Y->Û F F'->Û H H'->rO K c V Y F' H' pv z->Q z H')->r v u H Q
def Cq{r:R2}{f:PV->PV->Option PV}(hf:ju (kk X cm) r f){V:Ģ}{H:Hp}{Q:VK}(h:tV (kk X cm) E (È f ma mb) V H Q):Pc r (tR (kk X cm) E ma) (tR (kk X cm) E mb) V H Q:=by
 obtain⟨c,F,Y,rel,h⟩:=h;refine⟨c,F,Y,rel,h.bind λp Y1 v F1 H1 ë _ _ r1 h1=>⟨c,F1,Y1,ë,h1.bind λq Y2 u F2 H2 ħ sF sH r2 h2=>?_⟩⟩;cases e:f p q with
 |none=>rw[e] at h2;exact h2.elim
 |some pv=>rw[e] at h2;exact hf ħ (r1.mono sF sH) r2 e λz F' H' aY s1 s2 q'=>h2 z F' H' aY s1 s2 q'
def UA{r:R2}{f:PV->PV->Option RV}(hf:YZ (kk X cm) r f){V:Ģ}{H:Hp}{Q:VK}(h:tO (kk X cm) E (Ċ f ma mb) V H Q):Pc r (tR (kk X cm) E ma) (tR (kk X cm) E mb) V H Q:=by
 obtain⟨c,F,Y,rel,h⟩:=h;refine⟨c,F,Y,rel,h.bind λp Y1 v F1 H1 ë _ _ r1 h1=>⟨c,F1,Y1,ë,h1.bind λq Y2 u F2 H2 ħ sF sH r2 h2=>?_⟩⟩;cases e:f p q with
 |none=>rw[e] at h2;exact h2.elim
 |some pv=>rw[e] at h2;exact hf ħ (r1.mono sF sH) r2 e λz F' H' aY s1 s2 q'=>h2 z F' H' aY s1 s2 q'
def aw{op:kz}{r:R2}{f:PV->PV->Option PV}(hf:ju (kk X cm) r f)(ho:ϲ X (Ł op) r)(ha:PE X a (tR (kk X cm) E ma))(hb:PE X b (tR (kk X cm) E mb)):PE X (.BinOp a op b pos) (tV (kk X cm) E (È f ma mb)):=PE.wk (EG ho ha hb) λ_ _ _ h=>Cq hf h
def UB{op:kz}{r:R2}{f:PV->PV->Option RV}(hf:YZ (kk X cm) r f)(ho:ϲ X (Ł op) r)(ha:PE X a (tR (kk X cm) E ma))(hb:PE X b (tR (kk X cm) E mb)):PE X (.BinOp a op b pos) (tO (kk X cm) E (Ċ f ma mb)):=PE.wk (EG ho ha hb) λ_ _ _ h=>UA hf h
def eN{op:cD}{r:R2}{f:PV->PV->Option PV}(hf:ju (kk X cm) r f)(ho:ϲ X (ĺ op) r)(ha:PE X a (tR (kk X cm) E ma))(hb:PE X b (tR (kk X cm) E mb))(hm:iK op b=false):PE X (.Compare a [op] [b] pos) (tV (kk X cm) E (È f ma mb)):=
 PE.wk (IS ho ha hb hm) λ_ _ _ h=>Cq hf h
def Y_{r:R2}{f:PV->PV->Option PV}(hf:ju (kk X cm) r f)(hr:zF X r)(ha:PE X a (tR (kk X cm) E ma))(hb:PE X b (tR (kk X cm) E mb))(hs:pS b):PE X (.Subscript a b pos) (tV (kk X cm) E (È f ma mb)):=
 PE.wk (KA hr ha hb hs) λ_ _ _ h=>Cq hf h
@[simp] def gB(f:PV->Option PV)(ma:M PV)(Y:Ĝ):Ŋ PV:= (ma Y).bind λp Y1=>Ŋ.Cn (f p) Y1
def UnV(K:KK)(r:Qqj->Hp->VK->Prop)(f:PV->Option PV):Prop:=∀{c:Ctx} {F H:Hp} {V:Ģ} {Y:Ĝ} {p pv:PV} {v:Qqj} {Q:VK},ļ K c F H V Y->rR K c V Y F H p v->f p=some pv->
 (∀z F' H',ļ K c F' H' V Y->Û F F'->Û H H'->Đ K F' pv z->Q z H')->r v H Q
def lc{op:UnaryOp}{r:Qqj->Hp->VK->Prop}{f:PV->Option PV}(hf:UnV (kk X cm) r f)(ho:IN X (unaryOp op) r)(ha:PE X a (tR (kk X cm) E ma)):PE X (.UnaryOp op a pos) (tV (kk X cm) E (gB f ma)):=PE.wk (T4 ho ha) λV H Q ⟨c,F,Y,rel,h⟩=>
 ⟨c,F,Y,rel,h.bind fun p Y1 v F1 H1 ë _ _ r1 h1=>by
   cases e:f p with
   |none=>rw[e] at h1;exact h1.elim
   |some pv=>rw[e] at h1;exact hf ë r1 e λz F' H' aY s1 s2 q'=>h1 z F' H' aY s1 s2 q'⟩
noncomputable def S9:PV->Option Bool
 | .bl b=>some b
 | .int i=>some (i != 0)
 | .non=>some false
 | .str y=>if y.length<=sizeLine then some ((y.length:Int) != 0) else none
 | .lst ps=>some (!ps.isEmpty)
 | .tup ps=>some (!ps.isEmpty)
 |_=>none
@[simp] def cK(m:M PV)(Y:Ĝ):Ŋ Bool:= (m Y).bind λp Y1=>Ŋ.Cn (S9 p) Y1
def UC{K:KK}{c:Ctx}{F H:Hp}{V:Ģ}{Y:Ĝ}{p:PV}{v:Qqj}{k:Bool}(s:Û F H)(r:rR K c V Y F H p v)(h:S9 p=some k):Po K.K v H k:=by
 cases p with
 |bl b=>cases r.bl;cases h;rfl
 |int i=>cases r.int;cases h;rfl
 |non=>cases r.non;cases h;rfl
 |str y=>
  cases r.str;have h':(if y.length<=sizeLine then some ((y.length:Int) != 0) else none)=some k:=h;split at h'
  ·rename_i hy;cases h';exact⟨hy,rfl⟩
  ·cases h'
 |lst ps=>
  obtain⟨a,vs,rfl,h1,h2⟩:=r.lst s;cases h;have e:ps.isEmpty=vs.isEmpty:=by cases h2.pr<;>rfl
  exact .inl ⟨vs,h1,by rw[e]⟩
 |tup ps=>
  obtain⟨a,vs,rfl,h1,h2⟩:=r.tup s;cases h;have e:ps.isEmpty=vs.isEmpty:=by cases h2.pr<;>rfl
  exact .inr (.inl ⟨vs,h1,by rw[e]⟩)
 |ins C ns ps=>cases h
 |xc C ns ps=>cases h
 |ty n=>cases h
 |cls C=>cases h
def aR(ha:PE X a (tR (kk X cm) E ma))(he:∀whole,isTrue a X.env whole=(do let v <-whole;fh a.pos;aG [v] (truthy v)):=by intro _;rfl):PT X a (tB (kk X cm) E (cK ma)):=PT.wk (EI ha he) λV H Q ⟨c,F,Y,rel,h⟩=>
 ⟨c,F,Y,rel,h.bind fun p Y1 v F1 H1 ë _ _ r1 h1=>by
   cases e:S9 p with
   |none=>rw[e] at h1;exact h1.elim
   |some k=>rw[e] at h1;exact⟨k,UC ë.sub r1 e,h1 k F1 H1 ë Ę Ę rfl⟩⟩
@[simp] def aN(m:M PV)(Y:Ĝ):Ŋ Bool:= (m Y).bind fun p Y1=>match p with
  | .bl b=>.ok b Y1
  |_=>.bad
def KC{V:Ģ}{H:Hp}{Q:Bool->Hp->Prop}(h:tB (kk X cm) E (aN m) V H Q):M2.EY (tV (kk X cm) E m) V H Q:=by
 obtain⟨c,F,Y,rel,h⟩:=h;refine⟨c,F,Y,rel,h.bind λp Y1 v F1 H1 ë _ _ r1 h1=>?_⟩;cases p with
 |bl b=>
  have e:v=.bl b:=by have rQ:Đ (kk X cm) F1 (.bl b) v:=r1;unfold Đ at rQ;exact rQ
  subst e;exact h1 b F1 H1 ë Ę Ę rfl
 |_=>exact h1.elim
def az{op:cD}{r:R2}{f:PV->PV->Option PV}(hf:ju (kk X cm) r f)(ho:ϲ X (ĺ op) r)(ha:PE X a (tR (kk X cm) E ma))(hb:PE X b (tR (kk X cm) E mb))(hm:iK op b=false):PT X (.Compare a [op] [b] pos) (tB (kk X cm) E (aN (È f ma mb))):=
 PT.wk (PD ho ha hb hm) fun V H Q h=>by obtain⟨c,F,Y,rel,h⟩:=KC h;exact Cq hf ⟨c,F,Y,rel,h⟩
@[simp] def xD(f g:PV→PV→Option PV)(ma mb mc:M PV)(Y:Ĝ):Ŋ PV:= (ma Y).bind fun p Y1=>(mb Y1).bind fun q Y2=>(Ŋ.Cn (f p q) Y2).bind fun z Y3=>match z with
  | .bl true=>(mc Y3).bind λw Y4=>Ŋ.Cn (g q w) Y4
  | .bl false=>.ok (.bl false) Y3
  |_=>.bad
def KD{r r':R2}{f g:PV->PV->Option PV}(hf:ju (kk X cm) r f)(hg:ju (kk X cm) r' g){V:Ģ}{H:Hp}{Q:VK}(h:tV (kk X cm) E (xD f g ma mb mc) V H Q):M2.zH r r' (tR (kk X cm) E ma) (tR (kk X cm) E mb) (tR (kk X cm) E mc) V H Q:=by
 obtain⟨c,F,Y,rel,h⟩:=h;refine⟨c,F,Y,rel,h.bind λp Y1 v F1 H1 ë _ _ r1 h1=>⟨c,F1,Y1,ë,h1.bind λq Y2 u F2 H2 ħ sF sH r2 h2=>?_⟩⟩;cases e:f p q with
 |none=>rw[e] at h2;exact h2.elim
 |some pv=>
  rw[e] at h2;refine hf ħ (r1.mono sF sH) r2 e λz F' H' aY s1 s2 q'=>?_;cases pv with
  |bl k=>
   have ez:z=.bl k:=by unfold Đ at q';exact q'
   subst ez;cases k with
   |false=>exact h2 _ F' H' aY s1 s2 q'
   |true=>
    refine⟨c,F',Y2,aY,aM.bind (aM.mono h2 s1 s2) λw Y4 x F4 H4 xE s3 s4 r4 h4=>?_⟩;cases e':g q w with
    |none=>rw[e'] at h4;exact h4.elim
    |some pv'=>rw[e'] at h4;exact hg xE (r2.mono (s1.trans s3) (s2.trans s4)) r4 e' λz F' H' aY s1 s2 q'=>h4 z F' H' aY s1 s2 q'
  |_=>exact h2.elim
def Fk{op A6:cD}{r r':R2}{f g:PV->PV->Option PV}{c:Ð}(hf:ju (kk X cm) r f)(hg:ju (kk X cm) r' g)(ho:ϲ X (ĺ op) r)(A3:ϲ X (ĺ A6) r')(ha:PE X a (tR (kk X cm) E ma))(hb:PE X b (tR (kk X cm) E mb))(hc:PE X c (tR (kk X cm) E mc))
 (hm:lastMarks [op,A6] [b,c]=false:=by with_unfolding_all rfl):PE X (.Compare a [op,A6] [b,c] pos) (tV (kk X cm) E (xD f g ma mb mc)):=PE.wk (EZ ho A3 ha hb hc hm) λ_ _ _ h=>KD hf hg h
def KE{op A6:cD}{r r':R2}{f g:PV->PV->Option PV}{c:Ð}(hf:ju (kk X cm) r f)(hg:ju (kk X cm) r' g)(ho:ϲ X (ĺ op) r)(A3:ϲ X (ĺ A6) r')(ha:PE X a (tR (kk X cm) E ma))(hb:PE X b (tR (kk X cm) E mb))(hc:PE X c (tR (kk X cm) E mc))
 (hm:lastMarks [op,A6] [b,c]=false:=by with_unfolding_all rfl):PT X (.Compare a [op,A6] [b,c] pos) (tB (kk X cm) E (aN (xD f g ma mb mc))):=PT.wk (E_ ho A3 ha hb hc hm) λV H Q h=>by
 obtain⟨c,F,Y,rel,h⟩:=KC h;exact KD hf hg ⟨c,F,Y,rel,h⟩
@[simp] def le(m:M Bool)(Y:Ĝ):Ŋ Bool:= (m Y).bind λb Y1=>.ok (!b) Y1
def ql{m:M Bool}(h:PT X a (tB (kk X cm) E m)):PT X (.UnaryOp .Not a pos) (tB (kk X cm) E (le m)):=PT.wk (O_ h) λV H Q ⟨c,F,Y,rel,h⟩=>
 ⟨c,F,Y,rel,h.bind λp Y1 v F1 H1 ë _ _ r1 h1=>h1 _ F1 H1 ë Ę Ę (by have e:p=v:=r1;rw[e];rfl)⟩
@[simp] def gR(ma mb:M Bool)(Y:Ĝ):Ŋ Bool:= (ma Y).bind λb Y1=>if b=true then mb Y1 else .ok false Y1
@[simp] def zL(ma mb:M Bool)(Y:Ĝ):Ŋ Bool:= (ma Y).bind λb Y1=>if b=true then .ok true Y1 else mb Y1
variable{ta tb:M Bool}{rest:List Ð}
def gU(h:PT X a (tB (kk X cm) E ta)):PW X (.BoolOp .And [a] pos) (tB (kk X cm) E ta):=II h
def xF(h:PT X a (tB (kk X cm) E ta)):PW X (.BoolOp .Or [a] pos) (tB (kk X cm) E ta):=OY h
def w_and(ha:PT X a (tB (kk X cm) E ta))(hb:PW X (.BoolOp .And (b::rest) pos) (tB (kk X cm) E tb)):PW X (.BoolOp .And (a::b::rest) pos) (tB (kk X cm) E (gR ta tb)):=PW.wk (OZ ha hb) λV H Q ⟨c,F,Y,rel,h⟩=>
 ⟨c,F,Y,rel,h.bind fun p Y1 v F1 H1 ë _ _ r1 h1=>by
   have e:p=v:=r1;subst e;cases p with
   |true=>exact⟨c,F1,Y1,ë,h1⟩
   |false=>exact h1 false F1 H1 ë Ę Ę rfl⟩
def w_or(ha:PT X a (tB (kk X cm) E ta))(hb:PW X (.BoolOp .Or (b::rest) pos) (tB (kk X cm) E tb)):PW X (.BoolOp .Or (a::b::rest) pos) (tB (kk X cm) E (zL ta tb)):=PW.wk (TQ ha hb) λV H Q ⟨c,F,Y,rel,h⟩=>
 ⟨c,F,Y,rel,h.bind fun p Y1 v F1 H1 ë _ _ r1 h1=>by
   have e:p=v:=r1;subst e;cases p with
   |false=>exact⟨c,F1,Y1,ë,h1⟩
   |true=>exact h1 true F1 H1 ë Ę Ę rfl⟩
def ci(ma mb:M PV):M PV:=λY=>(ma Y).bind λp Y1=>match p with
 | .bl true=>mb Y1
 | .bl false=>.ok (.bl false) Y1
 |_=>.bad
@[simp] def Jq(ma:M PV)(Y:Ĝ):Ŋ PV:= (ma Y).bind fun p Y1=>match p with
  | .bl b=>.ok (.bl (!b)) Y1
  |_=>.bad
def vv{K:KK}{F:Hp}{b:Bool}{v:Qqj}(h:Đ K F (.bl b) v):v=.bl b:=by unfold Đ at h;exact h
def eO{op}(h:PE X a (tV (kk X cm) E ma)):PE X (.BoolOp op [a] pos) (tV (kk X cm) E ma):=O0 h
def v_and(ha:PE X a (tV (kk X cm) E ma))(hb:PE X (.BoolOp .And (b::rest) pos) (tV (kk X cm) E mb)):PE X (.BoolOp .And (a::b::rest) pos) (tV (kk X cm) E (ci ma mb)):=PE.wk (PF ha hb) λV H Q ⟨c,F,Y,rel,h⟩=>
 ⟨c,F,Y,rel,h.bind fun p Y1 v F1 H1 ë _ _ r1 h1=>by
   cases p with
   |bl k=>
    cases vv r1;cases k with
    |true=>exact⟨c,F1,Y1,ë,h1⟩
    |false=>exact h1 _ F1 H1 ë Ę Ę r1
   |_=>exact h1.elim⟩
def v_not(ha:PE X a (tV (kk X cm) E ma)):PE X (.UnaryOp .Not a pos) (tV (kk X cm) E (Jq ma)):=PE.wk (PJ ha) λV H Q ⟨c,F,Y,rel,h⟩=>
 ⟨c,F,Y,rel,h.bind fun p Y1 v F1 H1 ë _ _ r1 h1=>by
   cases p with
   |bl k=>cases vv r1;exact h1 _ F1 H1 ë Ę Ę Đ.bl
   |_=>exact h1.elim⟩
@[simp] def bq{α:Type}(t:M Bool)(ma mb:M α)(Y:Ĝ):Ŋ α:= (t Y).bind λb Y1=>if b=true then ma Y1 else mb Y1
@[simp] def â(Y:Ĝ):Ŋ (List PV):= .ok [] Y
@[simp] def Ç(ma:M PV)(mr:M (List PV))(Y:Ĝ):Ŋ (List PV):= (ma Y).bind λp Y1=>(mr Y1).bind λps Y2=>.ok (p::ps) Y2
variable{mr:M (List PV)}
def í:PA X [] (tL (kk X cm) E â):=PA.wk cT λV H Q ⟨c,F,Y,rel,h⟩=>h [] F H rel Ę Ę ò.nil
def Ë(ha:PE X e (tV (kk X cm) E ma))(hr:PA X es (tL (kk X cm) E mr))(hs:å (e::es) X.env=(false,Ý e X.env)::å es X.env:=by exact ϗ rfl):PA X (e::es) (tL (kk X cm) E (Ç ma mr)):=PA.wk (ϳ ha hr hs) λV H Q ⟨c,F,Y,rel,h⟩=>
 ⟨c,F,Y,rel,h.bind λp Y1 v F1 H1 ë _ _ r1 h1=>⟨c,F1,Y1,ë,h1.bind λps Y2 vs F2 H2 ħ sF sH r2 h2=>h2 _ F2 H2 ħ Ę Ę (ò.cons (Đ.same sF p v r1) r2)⟩⟩
def ù:PA X [] (Jp (kk X cm) E â):=PA.wk cT λV H Q ⟨c,F,Y,rel,h⟩=>h [] F H rel Ę Ę .nil
def Ú(ha:PE X e (tR (kk X cm) E ma))(hr:PA X es (Jp (kk X cm) E mr))(hs:å (e::es) X.env=(false,Ý e X.env)::å es X.env:=by exact ϗ rfl):PA X (e::es) (Jp (kk X cm) E (Ç ma mr)):=PA.wk (ϳ ha hr hs) λV H Q ⟨c,F,Y,rel,h⟩=>
 ⟨c,F,Y,rel,h.bind λp Y1 v F1 H1 ë _ _ r1 h1=>⟨c,F1,Y1,ë,h1.bind λps Y2 vs F2 H2 ħ sF sH r2 h2=>h2 _ F2 H2 ħ Ę Ę (.cons (rR.mono r1 sF sH) r2)⟩⟩
@[simp] def Þ(Y:Ĝ):Ŋ (List Slot):= .ok [] Y
@[simp] def ô(ma:M PV)(mr:M (List Slot))(Y:Ĝ):Ŋ (List Slot):= (ma Y).bind λp Y1=>(mr Y1).bind λas Y2=>.ok (.sh p::as) Y2
def gW:Slot->Option Slot
 | .sh p=>some (.sh p)
 | .ow ps=>some (.bw ps)
 | .bw ps=>some (.bw ps)
 |_=>none
@[simp] def É(i:Nat)(mr:M (List Slot))(Y:Ĝ):Ŋ (List Slot):= match(Y[i]?).bind gW with
  |none=>.bad
  |some _=>(mr Y).bind λas Y2=>match(Y2[i]?).bind gW with
   |some s=>.ok (s::as) Y2
   |none=>.bad
variable{ms:M (List Slot)}
def ä:PA X [] (tA (kk X cm) E Þ):=PA.wk cT λV H Q ⟨c,F,Y,rel,h⟩=>h [] F H rel Ę Ę .nil
def ñ(ha:PE X e (tV (kk X cm) E ma))(hr:PA X es (tA (kk X cm) E ms))(hs:å (e::es) X.env=(false,Ý e X.env)::å es X.env:=by exact ϗ rfl):PA X (e::es) (tA (kk X cm) E (ô ma ms)):=PA.wk (ϳ ha hr hs) λV H Q ⟨c,F,Y,rel,h⟩=>
 ⟨c,F,Y,rel,h.bind λp Y1 v F1 H1 ë _ _ r1 h1=>⟨c,F1,Y1,ë,h1.bind λas Y2 vs F2 H2 ħ sF sH r2 h2=>h2 _ F2 H2 ħ Ę Ę (.cons (show cg _ _ _ (.sh p) v from Đ.same sF p v r1) r2)⟩⟩
def Cr{K:KK}{c:Ctx}{F H:Hp}{V:Ģ}{Y:Ĝ}{i:Nat}{s:Slot}(rel:ļ K c F H V Y)(h:(Y[i]?).bind gW=some s):∃v,V[i]?=some (some v)/\cg K F H s v:=by
 cases e:Y[i]? with
 |none=>rw[e] at h;cases h
 |some sl=>
  rw[e] at h;have h':gW sl=some s:=h;cases sl with
  |sh p=>cases h';obtain⟨v,h1,h2⟩:=rel.slot i _ e;exact⟨v,Ű h1,h2⟩
  |ow ps=>cases h';obtain⟨a,vs,h1,h2,h3,h4,h5,_⟩:=rel.ow e;exact⟨.ref a,h1,a,vs,rfl,h2,h3,h5⟩
  |bw ps=>cases h';obtain⟨a,vs,h1,h2,h3⟩:=rel.slot i _ e;exact⟨.ref a,Ű h1,a,vs,rfl,(rel.lent a _ h2).1,(rel.lent a _ h2).2,h3⟩
  |no=>cases h'
  |rc C ns ps=>cases h'
  |ot ps qs=>cases h'
  |ol Ck=>cases h'
def Jr(i:Nat){x:Str}{px:Pos}(hN:X.N[i]?=some x:=by rfl)(hv:w_ X.env.scope x:=by first|exact Ġ rfl|exact Č (Ġ rfl)|exact Č (Č rfl))(hd:(x== ("__debug__" :Str))=false:=by decide)
 (et:(x== ("__classdict__" :Str))=false:=by decide)(hr:PA X es (tA (kk X cm) E ms))(hs:å (.Name x px::es) X.env=(false,Ý (.Name x px) X.env)::å es X.env:=by exact ϗ rfl):PA X (.Name x px::es) (tA (kk X cm) E (É i ms)):=
 PA.wk (ϳ (cS hN hv hd et) hr hs) fun V H Q ⟨c,F,Y,rel,h⟩=>by
   unfold É at h;cases e:(Y[i]?).bind gW with
   |none=>rw[e] at h;exact h.elim
   |some s0=>
    rw[e] at h;obtain⟨v,hv,_⟩:=Cr rel e;refine⟨v,hv,c,F,Y,rel,aM.bind h λas Y2 vs F2 H2 ħ sF sH r2 h2=>?_⟩;cases e2:(Y2[i]?).bind gW with
    |none=>simp only[e2] at h2;exact h2.elim
    |some s=>simp only[e2] at h2;obtain⟨v',A4,r1⟩:=Cr ħ e2;rw[hv] at A4;cases A4;exact h2 _ F2 H2 ħ Ę Ę (.cons r1 r2)
@[simp] def ķ(mr:M (List PV))(Y:Ĝ):Ŋ PV:= (mr Y).bind λps Y1=>if ps.length<=16777216 then .ok (.tup ps) Y1 else .bad
@[simp] def ϶(mr:M (List PV))(Y:Ĝ):Ŋ RV:= (mr Y).bind λps Y1=>if ps.length<=16777216 then .ok (.ow ps) Y1 else .bad
def ī:sizeLine=16777216:=cE
def ĝ{x1}(h:PA X es (tL (kk X cm) E mr)):PE X (.Tuple es x1 pos) (tV (kk X cm) E (ķ mr)):=PE.wk (EN h) λV H Q ⟨c,F,Y,rel,h⟩=>
 ⟨c,F,Y,rel,h.bind fun ps Y1 vs F1 H1 ë _ _ r1 h1=>by
   split at h1
   ·rename_i hz;refine⟨by rw[<-ò.length r1,ī];exact hz,λp hp=>h1 _ _ _ (ë.alloc hp) (Û.upd (ë.sub.free hp)) (Û.upd hp) ?_⟩;show Đ _ _ _ _;unfold Đ;exact⟨p,vs,rfl,da.of þ,ò.same (Û.upd (ë.sub.free hp)) ps vs r1⟩
   ·exact h1.elim⟩
def eP{K:KK}{c:Ctx}{F H:Hp}{V:Ģ}{Y:Ĝ}{ps:List PV}{vs:List Qqj}{a:À}(rel:ļ K c F H V Y)(ha:H a=none)(r:ò K F ps vs):ļ K c F (upd H a (.lst vs)) V Y/\Ie K c V Y F (upd H a (.lst vs)) ps (.ref a):=
 ⟨rel.made ha,a,vs,rfl,þ,rel.sub.free ha,rel.base.free ha,rel.fresh ha,r⟩
def ŷ(h:PA X es (tL (kk X cm) E mr)):PE X (.List es pos) (tO (kk X cm) E (϶ mr)):=PE.wk (EO h) λV H Q ⟨c,F,Y,rel,h⟩=>
 ⟨c,F,Y,rel,h.bind fun ps Y1 vs F1 H1 ë _ _ r1 h1=>by
   split at h1
   ·rename_i hz;refine⟨by rw[<-ò.length r1,ī];exact hz,λp hp=>?_⟩;obtain⟨q1,q2⟩:=eP ë hp r1;exact h1 _ _ _ q1 Ę (Û.upd hp) q2
   ·exact h1.elim⟩
@[simp] def ar(f:List PV->Option PV)(mr:M (List PV))(Y:Ĝ):Ŋ PV:= (mr Y).bind λps Y1=>Ŋ.Cn (f ps) Y1
@[simp] def jG(f:List PV->Option RV)(mr:M (List PV))(Y:Ĝ):Ŋ RV:= (mr Y).bind λps Y1=>Ŋ.Cn (f ps) Y1
def dM(K:KK)(r:List Qqj->Hp->VK->Prop)(f:List PV->Option PV):Prop:=∀{c:Ctx} {F H:Hp} {V:Ģ} {Y:Ĝ} {ps:List PV} {pv:PV} {vs:List Qqj} {Q:VK},ļ K c F H V Y->Uz K c V Y F H ps vs->f ps=some pv->
 (∀z F' H',ļ K c F' H' V Y->Û F F'->Û H H'->Đ K F' pv z->Q z H')->r vs H Q
def Fm(K:KK)(r:List Qqj->Hp->VK->Prop)(f:List PV->Option RV):Prop:=∀{c:Ctx} {F H:Hp} {V:Ģ} {Y:Ĝ} {ps:List PV} {pv:RV} {vs:List Qqj} {Q:VK},ļ K c F H V Y->Uz K c V Y F H ps vs->f ps=some pv->
 (∀z F' H',ļ K c F' H' V Y->Û F F'->Û H H'->rO K c V Y F' H' pv z->Q z H')->r vs H Q
def UD{r:List Qqj->Hp->VK->Prop}{f:List PV->Option PV}(hf:dM (kk X cm) r f){V:Ģ}{H:Hp}{Q:VK}(h:tV (kk X cm) E (ar f mr) V H Q):WZ r (Jp (kk X cm) E mr) V H Q:=by
 obtain⟨c,F,Y,rel,h⟩:=h;refine⟨c,F,Y,rel,h.bind λp Y1 v F1 H1 ë _ _ r1 h1=>?_⟩;cases e:f p with
 |none=>rw[e] at h1;exact h1.elim
 |some pv=>rw[e] at h1;exact hf ë r1 e λz F' H' aY s1 s2 q'=>h1 z F' H' aY s1 s2 q'
def Qqq2{r:List Qqj->Hp->VK->Prop}{f:List PV->Option RV}(hf:Fm (kk X cm) r f){V:Ģ}{H:Hp}{Q:VK}(h:tO (kk X cm) E (jG f mr) V H Q):WZ r (Jp (kk X cm) E mr) V H Q:=by
 obtain⟨c,F,Y,rel,h⟩:=h;refine⟨c,F,Y,rel,h.bind λp Y1 v F1 H1 ë _ _ r1 h1=>?_⟩;cases e:f p with
 |none=>rw[e] at h1;exact h1.elim
 |some pv=>rw[e] at h1;exact hf ë r1 e λz F' H' aY s1 s2 q'=>h1 z F' H' aY s1 s2 q'
end
open M3
@[simp] def bF(Y:Ĝ):Ŋ Fl:= .ok .nx Y
@[simp] def æ(a b:M Fl)(Y:Ĝ):Ŋ Fl:= (a Y).bind fun f Y1=>match f with
  | .nx=>b Y1
  |f=>.ok f Y1
@[simp] def ü(i:Nat)(m:M RV)(Y:Ĝ):Ŋ Fl:= (m Y).bind λr Y1=>.ok .nx (Y1.set i r.slot)
@[simp] def Ď(m:M RV)(Y:Ĝ):Ŋ Fl:= (m Y).bind λr Y1=>.ok (.rt r) Y1
@[simp] def KG(m:M PV)(Y:Ĝ):Ŋ Fl:= (m Y).bind λ_ Y1=>.ok .nx Y1
section
variable{X:Cx}{cm:String->À}{E:Ģ->XK}{a b e:Ð}{st:Ö}{rest:List Ö}{es:List Ð}{pos:Pos}{m1 m2:M Fl}{mo:M RV}{mv:M PV}
def Ē:fH X [] (tS (kk X cm) E bF):=fH.wk B6 λD V H ⟨c,F,Y,rel,h⟩=>h V F H rel (Û.refl F)
def ă(h:PS X st (tS (kk X cm) E m1)):fH X [st] (tS (kk X cm) E m1):=IJ h
def Js{c:Ctx}{F:Hp}{D:Ends}{r:Ŋ Fl}(h:Ź (kk X cm) E c F D (r.bind λf Y1=>match f with| .nx=>m2 Y1|f=>.ok f Y1)):Ź (kk X cm) E c F {D with nx:=tS (kk X cm) E m2 D} r:=by
 cases r with
 |ok f Y1=>
  cases f with
  |nx=>exact λV' F' H' aY s=>⟨c,F',Y1,aY,Ź.mono h s⟩
  |bk=>exact h
  |ct=>exact h
  |rt v=>exact h
 |exc x Y1=>exact h
 |bad=>exact h
def Ü(h1:PS X st (tS (kk X cm) E m1))(h2:fH X rest (tS (kk X cm) E m2)):fH X (st::rest) (tS (kk X cm) E (æ m1 m2)):=fH.wk (xp h1 h2) λD V H ⟨c,F,Y,rel,h⟩=>⟨c,F,Y,rel,Js h⟩
def UE{i:Nat}{x:Str}{ck:Pos}(hN:X.N.Nodup)(hi:X.N[i]?=some x)(hx:Loc X.env.scope x)(he:PE X e (tO (kk X cm) E mo))(hs:ai e (some (.Name x ck)) pos.line X.env=ö false:=by rfl)(hf:X.fn x=true\/X.env.scope.names.lookup x=some .local:=by first|exact .inl rfl|exact .inr rfl|assumption) :
 PS X (.Assign [.Name x ck] e pos) (tS (kk X cm) E (ü i mo)):=PS.wk (O5 hN hi hx he hs hf) λD V H ⟨c,F,Y,rel,h⟩=>⟨c,F,Y,rel,Ź.bind h λr Y1 v F1 H1 ë s1 q h1=>by
 cases r with
 |sh p=>exact h1 _ F1 H1 (ë.put rfl ⟨v,rfl,q⟩) Ę
 |ow ps=>obtain⟨a,vs,rfl,q1,q2,q3,q4,q5⟩:=q;exact h1 _ F1 H1 (ë.Jo ⟨a,vs,rfl,q1,q2,q3,q5⟩ λ_ z=>Qqj.ref.inj z▸q4) Ę
 |ot ps qs=>obtain⟨p,a,xs,vs,rfl,q0,qx,q1,q2,q3,q4,q5⟩:=q;exact h1 _ F1 H1 (ë.Jo (s:=.ot ps qs) ⟨p,a,xs,vs,rfl,q0,qx,q1,q2,q3,q5⟩ λ_ z=>ja (ps:=ps) (qs:=qs) z ⟨p,xs,rfl,q0⟩▸q4) Ę⟩
def UF(he:PE X e (tO (kk X cm) E mo)):PS X (.Return (some e) pos) (tS (kk X cm) E (Ď mo)):=PS.wk (O1 he) λD V H ⟨c,F,Y,rel,h⟩=>⟨c,F,Y,rel,Ź.bind h λr Y1 v F1 H1 ë s1 q h1=>h1 v V F1 H1 ë Ę q⟩
def Qf(he:PE X e (tV (kk X cm) E mv))(hs:ai e none pos.line X.env=ö false:=by rfl):PS X (.Expr e pos) (tS (kk X cm) E (KG mv)):=PS.wk (Ŷ he hs) λD V H ⟨c,F,Y,rel,h⟩=>⟨c,F,Y,rel,Ź.bind h λr Y1 v F1 H1 ë s1 q h1=>h1 V F1 H1 ë Ę⟩
def ũ{t:M Bool}{ss ss':List Ö}(hc:PT X a (tB (kk X cm) E t))(ha:fH X ss (tS (kk X cm) E m1))(hb:fH X ss' (tS (kk X cm) E m2)):PS X (.If a ss ss' pos) (tS (kk X cm) E (bq t m1 m2)):=PS.wk (TW hc ha hb) λD V H ⟨c,F,Y,rel,h⟩=>⟨c,F,Y,rel,Ź.bind h λr Y1 v F1 H1 ë s1 q h1=>by
 have e:r=v:=q;subst e;cases r with
 |true=>exact⟨c,F1,Y1,ë,h1⟩
 |false=>exact⟨c,F1,Y1,ë,h1⟩⟩
def Qg{α:Type}:M α:= λ_=>.bad
def Jt:PS X st (tS (kk X cm) E Qg):=PS.wk Ez λD V H ⟨c,F,Y,rel,h⟩=>h
abbrev Tg:=PV->Ĝ->Option Ĝ
abbrev El:=List PV->Ĝ->Option Ĝ
def UG(K:KK)(c:Ctx)(F H:Hp)(Q:Ģ->Hp->Prop):Option Ĝ->Prop
 |some Y'=>∀V',ļ K c F H V' Y'->Q V' H
 |none=>False
def tT(K:KK)(g:Tg):TG:=λv V H Q=>∃c F Y p,ļ K c F H V Y/\Đ K F p v/\UG K c F H Q (g p Y)
def UH(K:KK)(g:El):EA:=λv V H Q=>∃c F Y p,ļ K c F H V Y/\ò K F p v/\UG K c F H Q (g p Y)
def gN(i:Nat):Tg:=λp Y=>some (Y.set i (.sh p))
def ň:El:=λps Y=>match ps with
 | []=>some Y
 |_=>none
def è(g:Tg)(gs:El):El:=λps Y=>match ps with
 |p::ps=>(g p Y).bind λY1=>gs ps Y1
 | []=>none
def gT(n:Nat)(gs:El):Tg:=λp Y=>match p with
 | .tup ps=>if ps.length=n then gs ps Y else none
 |_=>none
def PG.wk'{tg:Ð}{t t':TG}(h:PG X tg t)(i:∀v V H Q,t' v V H Q->t v V H Q):PG X tg t':=λÃ s V H v u Q I r q=>h Ã s V H v u Q I r (i v V H Q q)
def zi.wk{tg:List Ð}{t t':EA}(h:zi X tg t)(i:∀v V H Q,t' v V H Q->t v V H Q):zi X tg t':=λÃ s V H v u Q I r q=>h Ã s V H v u Q I r (i v V H Q q)
def Fn{i:Nat}{x:Str}(hN:X.N.Nodup)(hi:X.N[i]?=some x)(hx:Loc X.env.scope x)(hf:X.fn x=true\/X.env.scope.names.lookup x=some .local:=by first|exact .inl rfl|exact .inr rfl|assumption):PG X (.Name x pos) (tT (kk X cm) (gN i)):=
 PG.wk' (IK hN hi hx hf) λv V H Q ⟨c,F,Y,p,rel,rp,h⟩=>h _ (rel.put rfl ⟨v,rfl,rp⟩)
def ź:zi X [] (UH (kk X cm) ň):=zi.wk IL λv V H Q ⟨c,F,Y,p,rel,rp,h⟩=>by
 cases p with
 |nil=>
  have e:v=[]:=by have:=rp;unfold ò at this;exact this
  exact⟨e,h V rel⟩
 |cons _ _=>exact h.elim
def ú{es:List Ð}{g:Tg}{gs:El}(h1:PG X e (tT (kk X cm) g))(h2:zi X es (UH (kk X cm) gs))(hs:(ϋ (e::es) X.env).map (·.2)=aF e X.env::(ϋ es X.env).map (·.2):=by rfl):zi X (e::es) (UH (kk X cm) (è g gs)):=
 zi.wk (EB h1 h2 hs) λv V H Q ⟨c,F,Y,p,rel,rp,h⟩=>by
  cases p with
  |nil=>exact h.elim
  |cons p ps=>
   unfold ò at rp;obtain⟨x,r,rfl,r1,r2⟩:=rp;refine⟨x,r,rfl,c,F,Y,p,rel,r1,?_⟩;unfold è at h;dsimp only at h;cases eg:g p Y with
   |none=>rw[eg] at h;exact h.elim
   |some Y1=>rw[eg] at h;exact λV' aY=>⟨c,F,Y1,ps,aY,r2,h⟩
def jv{es:List Ð}{k:Nat}{gs:El}{n:Nat}(hc:X.calm=true)(h:zi X es (UH (kk X cm) gs))(hn:(ϋ es X.env).length=n:=by rfl)(Dr:(ϋ es X.env).findIdx? (·.1)=none:=by rfl):PG X (.Tuple es k pos) (tT (kk X cm) (gT n gs)):=
 PG.wk' (EC hc h hn Dr) fun v V H Q ⟨c,F,Y,p,rel,rp,h⟩=>by
   cases p with
   |tup ps=>
    unfold Đ at rp;obtain⟨a,xs,h1,h2,h3⟩:=rp;unfold gT at h;dsimp only at h;split at h
    ·rename_i hl;exact⟨a,xs,h1,Û.tup rel.sub h2,by rw[<-h3.length];exact hl,c,F,Y,ps,rel,h3,h⟩
    ·exact h.elim
   |_=>exact h.elim
@[simp] def mq(g:Tg)(m:M PV)(Y:Ĝ):Ŋ Fl:= (m Y).bind fun p Y1=>match g p Y1 with
  |some Y2=>.ok .nx Y2
  |none=>.bad
def ge{tg:Ð}{g:Tg}(he:PE X e (tV (kk X cm) E mv))(hg:PG X tg (tT (kk X cm) g))(hs:oY [tg] e pos.line X.env=ö false:=by rfl)(hw:oZ [tg] e X.env=ö none:=by rfl)
 (h1:(ϋ [tg] X.env).map (·.2)=[aF tg X.env]:=by rfl):PS X (.Assign [tg] e pos) (tS (kk X cm) E (mq g mv)):=PS.wk (ED he hg hs hw h1) λD V H ⟨c,F,Y,rel,h⟩=>⟨c,F,Y,rel,Ź.bind h λr Y1 v F1 H1 ë s1 q h1=>by
 refine⟨c,F1,Y1,r,ë,q,?_⟩;cases eg:g r Y1 with
 |none=>rw[eg] at h1;exact h1.elim
 |some Y2=>rw[eg] at h1;exact λV' aY=>h1 V' F1 H1 aY Ę⟩
@[simp] def UI(i j:Nat)(mr:M (List PV))(Y:Ĝ):Ŋ Fl:= (mr Y).bind fun ps Y1=>match ps with
  | [p,q]=>.ok .nx ((Y1.set i (.sh p)).set j (.sh q))
  |_=>.bad
def Ju{i j:Nat}{mr:M (List PV)}{D:Ends}{V:Ģ}{H:Hp}(h:tS (kk X cm) E (UI i j mr) D V H):T_ i j (tL (kk X cm) E mr) D V H:=by
 obtain⟨c,F,Y,rel,h⟩:=h;refine⟨c,F,Y,rel,Ź.bind h λps Y1 vs F1 H1 ë s1 q h1=>?_⟩;cases ps with
 |nil=>exact h1.elim
 |cons p ps=>
  cases ps with
  |nil=>exact h1.elim
  |cons p2 ps=>
   cases ps with
   |nil=>
    have q':ò (kk X cm) F1 [p,p2] vs:=q;cases q'.pr with
    |cons r1 t=>
     cases t with
     |cons r2 t=>cases t;exact⟨_,_,rfl,h1 _ F1 H1 ((ë.put (s:=.sh p) rfl ⟨_,rfl,r1⟩).put (s:=.sh p2) rfl ⟨_,rfl,r2⟩) Ę⟩
   |cons _ _=>exact h1.elim
@[simp] def Fo(i:Nat)(mi:M PV)(m:M PV)(Y:Ĝ):Ŋ Fl:= (m Y).bind fun p Y1=>match Y1[i]? with
  |some (.ow _)=>(mi Y1).bind λq Y2=>match Y2[i]?,q with
   |some (.ow ps),.int k=>match zE ps.length k with
    |some j=>.ok .nx (Y2.set i (.ow (ps.set j p)))
    |none=>.bad
   |_,_=>.bad
  |_=>.bad
def Jv{i:Nat}{x:Str}{ix:Ð}{mi:M PV}{px zM:Pos}(he:PE X e (tV (kk X cm) E mv))(hi:PE X ix (tV (kk X cm) E mi))(ho:PE X (.Name x px) (se i))
 (A9:∀v,aF (.Subscript (.Name x px) ix zM) X.env v=(do
   let ov <-aG [v] (Ý (.Name x px) X.env)
   let iv <-aG [v,ov] (Ý ix X.env)
   fh zM
   aG [v,ov,iv] (setItem ov iv v)
   release [v,ov,iv] []):=by intro _;rfl)
 (hs:oY [.Subscript (.Name x px) ix zM] e pos.line X.env=ö false:=by rfl)(hw:oZ [.Subscript (.Name x px) ix zM] e X.env=ö none:=by rfl)
 (h1:(ϋ [.Subscript (.Name x px) ix zM] X.env).map (·.2)=[aF (.Subscript (.Name x px) ix zM) X.env]:=by rfl) :
 PS X (.Assign [.Subscript (.Name x px) ix zM] e pos) (tS (kk X cm) E (Fo i mi mv)):=PS.wk (ED he (O4 ho hi HZ A9) hs hw h1) λD V H ⟨c,F,Y,rel,h⟩=>⟨c,F,Y,rel,Ź.bind h λp Y1 v F1 H1 ë s1 q h1=>by
 cases e1:Y1[i]? with
 |none=>rw[e1] at h1;exact h1.elim
 |some sl=>
  rw[e1] at h1;cases sl with
  |ow Qqq3=>
   obtain⟨a,Qqq4,z1,_,_,_,_,_⟩:=ë.ow e1;refine⟨.ref a,z1,c,F1,Y1,ë,Ź.bind h1 λq' Y2 u F2 H2 ħ s2 r2 h2=>?_⟩;cases e2:Y2[i]? with
   |none=>rw[e2] at h2;exact h2.elim
   |some Du=>
    rw[e2] at h2;cases Du with
    |ow ps=>
     cases q' with
     |int k=>
      have eu:u=.int k:=by have:Đ (kk X cm) F2 (.int k) u:=r2;unfold Đ at this;exact this
      subst eu;dsimp only at h2;obtain⟨a2,vs,w1,w2,w3,w4,w5,w6⟩:=ħ.ow e2;rw[z1] at w1;cases w1;cases ej:zE ps.length k with
      |none=>rw[ej] at h2;exact h2.elim
      |some j=>rw[ej] at h2;refine⟨a,vs,k,j,rfl,rfl,w2,by rw[<-w5.length];exact ej,h2 V F2 _ (ħ.write w6 z1 ⟨a,vs.set j v,rfl,þ,w3,w4,?_⟩ λ_ z=>(Qqj.ref.inj z).symm) Ę⟩;exact ò.of (Fd (Đ.same s2 p v q) j w5.pr)
     |_=>exact h2.elim
    |_=>exact h2.elim
  |_=>exact h1.elim⟩
@[simp] def lf(i:Nat)(m:M PV)(Y:Ĝ):Ŋ Fl:= match Y[i]? with
  |some (.ow _)=>(m Y).bind λp Y1=>match Y1[i]? with
   |some (.ow ps)=>if ps.length<16777216 then .ok .nx (Y1.set i (.ow (ps ++ [p]))) else .bad
   |_=>.bad
  |_=>.bad
def aJ{i:Nat}{D:Ends}{V:Ģ}{H:Hp}(h:tS (kk X cm) E (lf i mv) D V H):B7 (W_ X.K "list" vo (se i) (tL (kk X cm) E (Ç mv â))) D V H:=by
 obtain⟨c,F,Y,rel,h⟩:=h;unfold lf at h;cases e1:Y[i]? with
 |none=>rw[e1] at h;exact h.elim
 |some sl=>
  rw[e1] at h;cases sl with
  |ow Qqq3=>
   obtain⟨a,Qqq4,z1,z2,z3,z4,z5,z6⟩:=rel.ow e1;refine⟨.ref a,z1,.inl ⟨rfl,_,Ϟ.of z2⟩,c,F,Y,rel,?_⟩;dsimp only at h;unfold Ç;cases em:mv Y with
   |bad=>rw[em] at h;exact h
   |exc x Y1=>rw[em] at h;exact λC d F' H' aY s1 q=>h V C d F' H' aY s1 q
   |ok p Y1=>
    rw[em] at h;intro us F1 H1 ë s1 s2 r1;have rQ:ò (kk X cm) F1 [p] us:=r1;cases rQ.pr with
    |cons rp t=>
     rename_i v lU;cases t;cases e2:Y1[i]? with
     |none=>simp only[Ŋ.aq,e2] at h;exact h.elim
     |some Du=>
      simp only[Ŋ.aq,e2] at h;cases Du with
      |ow ps=>
       obtain⟨a2,vs,w1,w2,w3,w4,w5,w6⟩:=ë.ow e2;rw[z1] at w1;cases w1;dsimp only at h;split at h
       ·rename_i hz;refine⟨a,vs,v,rfl,rfl,w2,by rw[<-w5.length,ī];exact hz,h V F1 _ (ë.write w6 z1 ⟨a,vs ++ [v],rfl,þ,w3,w4,ò.append w5 (ò.cons rp ò.nil)⟩ λ_ z=>(Qqj.ref.inj z).symm) s1⟩
       ·exact h.elim
      |_=>exact h.elim
  |_=>exact h.elim
noncomputable def Ĭ(mc:M Bool)(mb:M Fl):Nat->Ĝ->Ŋ Fl
 |0,_=>.bad
 |n+1,Y=>(mc Y).bind λb Y1=>if b=true then(mb Y1).bind λf Y2=>match f with
  | .nx=>Ĭ mc mb n Y2
  | .ct=>Ĭ mc mb n Y2
  | .bk=>.ok .nx Y2
  | .rt r=>.ok (.rt r) Y2 else .ok .nx Y1
theorem Ϻ{mc:M Bool}{mb:M Fl}(n:Nat)(Y:Ĝ):Ĭ mc mb (n+1) Y=(mc Y).bind λb Y1=>if b=true then(mb Y1).bind λf Y2=>match f with
 | .nx=>Ĭ mc mb n Y2
 | .ct=>Ĭ mc mb n Y2
 | .bk=>.ok .nx Y2
 | .rt r=>.ok (.rt r) Y2 else .ok .nx Y1:=rfl
open Classical in
noncomputable def ϻ(mc:M Bool)(mb:M Fl):M Fl:=λY=>if h:∃n,Ĭ mc mb n Y≠ .bad then Ĭ mc mb (Bd h) Y else .bad
theorem gX{mc:M Bool}{mb:M Fl}:∀(n:Nat) (Y:Ĝ),Ĭ mc mb n Y≠ .bad->Ĭ mc mb (n+1) Y=Ĭ mc mb n Y
 |0,Y,h=>absurd rfl h
 |n+1,Y,h=>by
  rw[Ϻ] at h;rw[Ϻ (n+1),Ϻ n];cases e:mc Y with
  |bad=>rfl
  |exc x Y1=>rfl
  |ok b Y1=>
   rw[e] at h;simp only[Ŋ.aq] at h ⊢;cases b with
   |false=>rfl
   |true=>
    simp only[if_true] at h ⊢;cases e2:mb Y1 with
    |bad=>rfl
    |exc x Y2=>rfl
    |ok f Y2=>
     rw[e2] at h;simp only[Ŋ.aq] at h ⊢;cases f with
     |nx=>exact gX n Y2 h
     |ct=>exact gX n Y2 h
     |bk=>rfl
     |rt r=>rfl
def sQ{mc:M Bool}{mb:M Fl}{n m:Nat}{Y:Ĝ}(h:Ĭ mc mb n Y≠ .bad)(hm:n<=m):Ĭ mc mb m Y=Ĭ mc mb n Y:= by
 induction hm with
 |refl=>rfl
 |step _ ih=>rw[gX _ _ (by rw[ih];exact h),ih]
def au{mc:M Bool}{mb:M Fl}{Y:Ĝ}(n:Nat)(h:Ĭ mc mb n Y≠ .bad):ϻ mc mb Y=Ĭ mc mb n Y:= by
 unfold ϻ;have hx:∃n,Ĭ mc mb n Y≠ .bad:=⟨n,h⟩;rw[dif_pos hx];have hc:=Classical.choose_spec hx;rcases Nat.le_total n (Bd hx) with hle|hle
 ·exact sQ h hle
 ·exact(sQ hc hle).symm
theorem gY{mc:M Bool}{mb:M Fl}{Y:Ĝ}:ϻ mc mb Y=(mc Y).bind λb Y1=>if b=true then(mb Y1).bind λf Y2=>match f with
 | .nx=>ϻ mc mb Y2
 | .ct=>ϻ mc mb Y2
 | .bk=>.ok .nx Y2
 | .rt r=>.ok (.rt r) Y2 else .ok .nx Y1:=by
 have go:∀Y2,ϻ mc mb Y2=.bad\/∃n,ϻ mc mb Y2=Ĭ mc mb n Y2/\Ĭ mc mb n Y2≠ .bad:=λY2=>by
  by_cases hx:∃n,Ĭ mc mb n Y2≠ .bad
  ·obtain⟨n,h⟩:=hx;exact .inr ⟨n,au n h,h⟩
  ·left;unfold ϻ;rw[dif_neg hx]
 have Qqq5:∀Y2,ϻ mc mb Y2=.bad->∀n,Ĭ mc mb n Y2=.bad:=λY2 h n=>by refine Be λz=>?_;rw[au n z] at h;exact z h
 have gz:∀n,Ĭ mc mb (n+1) Y≠ .bad->ϻ mc mb Y=Ĭ mc mb (n+1) Y:= λn h=>au _ h;cases e:mc Y with
 |bad=>rcases go Y with h|⟨n,h1,h2⟩
       ·rw[h];rfl
       ·cases n with
        |zero=>exact absurd rfl h2
        |succ n=>rw[Ϻ,e] at h2;exact absurd rfl h2
 |exc x Y1=>
  have h:Ĭ mc mb 1 Y=.exc x Y1:=by rw[Ϻ,e];rfl
  rw[au 1 (by rw[h];intro z;cases z),h];rfl
 |ok b Y1=>
  simp only[Ŋ.aq];cases b with
  |false=>
   have h:Ĭ mc mb 1 Y=.ok .nx Y1:=by rw[Ϻ,e];rfl
   rw[au 1 (by rw[h];intro z;cases z),h];rfl
  |true=>
   simp only[if_true];have one:∀n,Ĭ mc mb (n+1) Y=(mb Y1).bind λf Y2=>match f with
    | .nx=>Ĭ mc mb n Y2
    | .ct=>Ĭ mc mb n Y2
    | .bk=>.ok .nx Y2
    | .rt r=>.ok (.rt r) Y2:=λn=>by rw[Ϻ,e];rfl
   cases e2:mb Y1 with
   |bad=>
    rcases go Y with h|⟨n,h1,h2⟩
    ·rw[h];rfl
    ·cases n with
     |zero=>exact absurd rfl h2
     |succ n=>rw[one,e2] at h2;exact absurd rfl h2
   |exc x Y2=>
    have h:Ĭ mc mb 1 Y=.exc x Y2:=by rw[one,e2];rfl
    rw[au 1 (by rw[h];intro z;cases z),h];rfl
   |ok f Y2=>
    have turn:(∀n,Ĭ mc mb (n+1) Y=Ĭ mc mb n Y2)->ϻ mc mb Y=ϻ mc mb Y2:=λhn=>by
     rcases go Y2 with h|⟨n,h1,h2⟩
     ·rcases go Y with h'|⟨n,h1,h2⟩
      ·rw[h,h']
      ·cases n with
       |zero=>exact absurd rfl h2
       |succ n=>rw[hn,Qqq5 Y2 h n] at h2;exact absurd rfl h2
     ·rw[h1,<-hn n];exact gz n (by rw[hn n];exact h2)
    cases f with
    |nx=>exact turn λn=>by rw[one,e2];rfl
    |ct=>exact turn λn=>by rw[one,e2];rfl
    |bk=>
     have h:Ĭ mc mb 1 Y=.ok .nx Y2:=by rw[one,e2];rfl
     rw[au 1 (by rw[h];intro z;cases z),h];rfl
    |rt r=>
     have h:Ĭ mc mb 1 Y=.ok (.rt r) Y2:=by rw[one,e2];rfl
     rw[au 1 (by rw[h];intro z;cases z),h];rfl
def Jw{c:Ð}{body:List Ö}{mc:M Bool}{mb:M Fl}(hp:PassesOwn (Ó X.prog X.w) X.A X.env X.xe)(hc:PT X c (tB (kk X cm) E mc))(hb:fH X body (tS (kk X cm) E mb)):PS X (.While c body [] pos) (tS (kk X cm) E (ϻ mc mb)):=PS.wk (EE hp hc hb) λD V H ⟨c,F,Y,rel,h⟩=>by
 obtain⟨n,hn⟩:∃n,Ź (kk X cm) E c F D (Ĭ mc mb n Y):=by
  by_cases hx:∃n,Ĭ mc mb n Y≠ .bad
  ·obtain⟨n,hn⟩:=hx;rw[au n hn] at h;exact⟨n,h⟩
  ·unfold ϻ at h;rw[dif_neg hx] at h;exact h.elim
 refine⟨λm V' H'=>∃F2 Y2,ļ (kk X cm) c F2 H' V' Y2/\Û F F2/\Ź (kk X cm) E c F2 D (Ĭ mc mb m Y2),⟨n,F,Y,rel,Û.refl _,hn⟩,?_⟩;rintro m V1 H1 ⟨F1,Y1,ë,s1,h1⟩;cases m with
 |zero=>exact h1.elim
 |succ m=>
  rw[Ϻ] at h1;refine⟨c,F1,Y1,ë,Ź.bind h1 λk Y2 v F2 H2 ħ s2 q h2=>?_⟩;have e:k=v:=q;subst e;cases k with
  |false=>rw[if_neg ϥ];rw[if_neg ϥ] at h2;exact h2 V1 F2 H2 ħ Ę
  |true=>
   rw[if_pos rfl];rw[if_pos rfl] at h2;refine⟨_,λV' H' z=>z,c,F2,Y2,ħ,?_⟩;have SU:∀{Y3:Ĝ},Ź (kk X cm) E c F2 D (Ĭ mc mb m Y3)->∀V' F' H',ļ (kk X cm) c F' H' V' Y3->Û F2 F'->∃m',m'<m+1/\∃F2 Y2,ļ (kk X cm) c F2 H' V' Y2/\Û F F2/\Ź (kk X cm) E c F2 D (Ĭ mc mb m' Y2):=
    fun{Y3} h3 V' F' H' aY s'=>⟨m,oR m,F',Y3,aY,(s1.trans s2).trans s',Ź.mono h3 s'⟩
   cases e2:mb Y2 with
   |bad=>rw[e2] at h2;exact h2
   |exc x Y3=>rw[e2] at h2;exact h2
   |ok f Y3=>
    rw[e2] at h2;cases f with
    |nx=>exact SU h2
    |ct=>exact SU h2
    |bk=>exact h2
    |rt r=>exact h2
def eh(K:KK)(Lh F:Hp)(J:It)(items:List PV):Prop:=∀(c:Ctx) (i:Nat) (F2 H:Hp) (V:Ģ) (Y:Ĝ),ļ K c F2 H V Y->Û F F2->Û Lh H->
 (∀p,items[i]?=some p->J.go i H/\∀x H',J.WY i H x H'->∃F3,ļ K c F3 H' V Y/\Û F2 F3/\Û H H'/\Đ K F3 p x)/\(i=items.length->J.stop i H)
def rIt(K:KK):RR (List PV) It:=λc _ _ F _ items J=>eh K c.L F J items
abbrev tI(K:KK)(E:Ģ->XK)(m:M (List PV)):TI:=tG K E (rIt K) m
noncomputable def Ĩ(g:Tg)(mb:M Fl):List PV->M Fl
 | [],Y=>.ok .nx Y
 |p::ps,Y=>match g p Y with
  |none=>.bad
  |some Y1=>(mb Y1).bind λf Y2=>match f with
   | .nx=>Ĩ g mb ps Y2
   | .ct=>Ĩ g mb ps Y2
   | .bk=>.ok .nx Y2
   | .rt r=>.ok (.rt r) Y2
def br(mi:M (List PV))(g:Tg)(mb:M Fl):M Fl:=λY=>(mi Y).bind λitems Y1=>Ĩ g mb items Y1
def Ϙ{iter tg:Ð}{body:List Ö}{mi:M (List PV)}{g:Tg}{mb:M Fl}(hp:PassesOwn (Ó X.prog X.w) X.A X.env X.xe)(hc:X.calm=true)(hi:PI X tg iter (tI (kk X cm) E mi))(hg:PG X tg (tT (kk X cm) g))(hb:fH X body (tS (kk X cm) E mb))
 (hs:∀x,dz iter X.env x=ö x:=by intro _;rfl):PS X (.For tg iter body [] pos) (tS (kk X cm) E (br mi g mb)):=PS.wk (Pa hp hc hi hg hb hs) λD V H ⟨c,F,Y,rel,h⟩=>⟨c,F,Y,rel,Ź.bind h λitems Y1 J F1 H1 ë s1 ito h1=>by
 refine⟨λi m V' H'=>∃F2 Y2,i<=items.length/\m=items.length-i/\ļ (kk X cm) c F2 H' V' Y2/\Û F1 F2/\Ź (kk X cm) E c F2 D (Ĩ g mb (items.drop i) Y2),⟨_,F1,Y1,cA _,rfl,ë,Û.refl _,h1⟩,?_⟩;rintro i m V2 H2 ⟨F2,Y2,hle,rfl,ħ,s2,h2⟩;obtain⟨go,stop⟩:=ito c i F2 H2 V2 Y2 ħ s2 λb u e=>(ħ.lent b u e).1;by_cases gA:i<items.length
 ·obtain⟨g1,g2⟩:=go items[i] (Ō gA);rw[Bj gA] at h2;unfold Ĩ at h2;refine .inr ⟨g1,_,λV' H' z=>z,λx H3 hy=>?_⟩;obtain⟨F3,jl,s3,_,rp⟩:=g2 x H3 hy;refine⟨c,F3,Y2,items[i],jl,rp,?_⟩;cases eg:g items[i] Y2 with
  |none=>rw[eg] at h2;exact h2.elim
  |some Y3=>
   rw[eg] at h2;dsimp only at h2;intro V4 xE;refine⟨c,F3,Y3,xE,?_⟩;have SU:∀{Y4:Ĝ},Ź (kk X cm) E c F2 D (Ĩ g mb (items.drop (i+1)) Y4)->∀V' F' H',ļ (kk X cm) c F' H' V' Y4->Û F3 F'->∃m',m'<items.length-i/\∃F2 Y2,i+1<=items.length/\m'=items.length-(i+1)/\ļ (kk X cm) c F2 H' V' Y2/\Û F1 F2/\Ź (kk X cm) E c F2 D (Ĩ g mb (items.drop (i+1)) Y2):=
    fun{Y4} h3 V' F' H' aY s'=>⟨items.length-(i+1),by lia,F',Y4,gA,rfl,aY,(s2.trans s3).trans s',Ź.mono h3 (s3.trans s')⟩
   have SM:=Ź.mono h2 s3;cases e2:mb Y3 with
   |bad=>rw[e2] at h2;exact h2
   |exc x Y4=>rw[e2] at SM;exact SM
   |ok f Y4=>
    rw[e2] at h2 SM;cases f with
    |nx=>exact SU h2
    |ct=>exact SU h2
    |bk=>exact SM
    |rt r=>exact SM
 ·have e:i=items.length:=by lia
  refine .inl ⟨stop e,?_⟩;rw[Bk (by lia)] at h2;unfold Ĩ at h2;exact h2 V2 F2 H2 ħ Ę⟩
end
inductive FR where
 |ret (r:RV)|exc (x:PX)|bad
abbrev MF:=List Slot->FR
noncomputable def FR.of:Ŋ Fl->FR
 | .ok (.rt r) _=>.ret r
 | .ok .nx _=>.ret (.sh .non)
 | .exc x _=>.exc x
 |_=>.bad
def Ğ(n k:Nat)(mb:M Fl):MF:=λas=>if as.length=n then FR.of (mb (ş k as)) else .bad
def rF(K:KK)(H F' H':Hp):RV->Qqj->Prop
 | .sh p,v=>Đ K F' p v
 | .ow ps,v=>∃a vs,v=.ref a/\H' a=some (.lst vs)/\F' a=none/\H a=none/\ò K F' ps vs
 | .ot ps qs,v=>∃p a xs vs,v=.ref p/\F' p=some (.tup (xs ++ [.ref a]))/\ò K F' ps xs/\H' a=some (.lst vs)/\F' a=none/\H a=none/\ò K F' qs vs
def Qqq6(K:KK)(E:XK)(F H:Hp)(Q:VK):FR->Prop
 | .ret r=>∀v F' H',Gr F H F' H'->rF K H F' H' r v->Q v H'
 | .exc x=>∀C d F' H',Gr F H F' H'->DL K F' x C d->E C d H'
 | .bad=>False
def ſ(K:KK)(n:Nat)(mf:MF):Sp:=λvs H Q E=>∃F as,as.length=n/\Û F H/\Paired (cg K F H) as vs/\Qqq6 K E F H Q (mf as)
def ϴ(CX:nh)(X:Cx)(E:Ģ->XK):Prop:=∀(Ã:List (À×Obj)) (V:Ģ) (H:Hp) (s:Å) (e:Á) (s':Å),Inv X Ã V H s->CX X.stack H s (E V) e s'->X.xe e s'
section
variable{P:î}{w:ß}{K:Ñ}{cm:String->À}{mg:Str->Option Á}{base:Õ}{CX:nh}
def fnP{x qual:Str}{st:Ö}{f:À}{fd:ě}{N ps:List Str}{k:Nat}{mb:M Fl}(F:Ei K x qual st f fd)(S:à N ps (Ô st))
 (c_:∀(ű:Á) (A:ð) (outer:List Env) (s:Å) (H:Hp) (E:XK),Ϗ k (A.deeper (ġ qual (Ô st) s.heap.objs.size f ű))→
   fH (bE CX P w K mg base N qual (Ô st) f ű A outer s H E) (Į st) (tS ⟨K,cm⟩ (λ_=>E) mb)):Ĉ P w K mg base CX (k+1) f fd ps (ſ ⟨K,cm⟩ ps.length (Ğ ps.length N.length mb)):=by
 obtain⟨oc,od,kV,iu,pm,an,ű,ct,rN,rfl,lk,et⟩:=F.ex;refine xv lk et S (λvs H Q E ⟨F,zp,h1,_,h2,_⟩=>by rw[<-Paired.length h2];exact h1) λA outer s H vs Q E hr zo=>?_;obtain⟨F,zp,h1,h2,h3,h4⟩:=zo;refine⟨_,c_ ű A outer s H E hr,de F H,F,ş N.length zp,ļ.start h2 h3,?_⟩;unfold Ğ at h4;rw[if_pos h1] at h4;cases e:mb (ş N.length zp) with
 |bad=>rw[e] at h4;exact h4
 |exc x Y'=>rw[e] at h4;exact λV' C d F' H' rel s1 q=>h4 C d F' H' rel.gr q
 |ok fl Y'=>
  rw[e] at h4;cases fl with
  |nx=>exact λV' F' H' rel s1=>h4 .non F' H' rel.gr (Đ.non (K:=⟨K,cm⟩) (F:=F'))
  |bk=>exact h4.elim
  |ct=>exact h4.elim
  |rt r=>
   intro v V' F' H' rel s1 q;refine h4 v F' H' rel.gr ?_;cases r with
   |sh p=>exact q
   |ow qs=>obtain⟨a,lU,e1,e2,e3,e4,_,e5⟩:=q;exact⟨a,lU,e1,e2,e3,e4,e5⟩
   |ot qs ts=>obtain⟨p,a,xs,lU,e1,e0,ex,e2,e3,e4,_,e5⟩:=q;exact⟨p,a,xs,lU,e1,e0,ex,e2,e3,e4,e5⟩
def Qqq7{x qual:Str}{st:Ö}{f:À}{fd:ě}{N ps:List Str}{k n j:Nat}{mb:M Fl}{mf:MF}(F:Ei K x qual st f fd)(S:à N ps (Ô st))(hn:ps.length=n)(hj:N.length=j)(hf:mf=Ğ n j mb)
 (c_:∀(ű:Á) (A:ð) (outer:List Env) (s:Å) (H:Hp) (E:XK),Ϗ k (A.deeper (ġ qual (Ô st) s.heap.objs.size f ű))→
   fH (bE CX P w K mg base N qual (Ô st) f ű A outer s H E) (Į st) (tS ⟨K,cm⟩ (λ_=>E) mb)):Ĉ P w K mg base CX (k+1) f fd ps (ſ ⟨K,cm⟩ n mf):=by
 subst hn hj hf;exact fnP F S c_
end
@[simp] def ç(mf:MF)(mr:M (List Slot))(Y:Ĝ):Ŋ RV:= (mr Y).bind fun ps Y1=>match mf ps with
  | .ret r=>.ok r Y1
  | .exc x=>.exc x Y1
  | .bad=>.bad
section
variable{X:Cx}{cm:String->À}{E:Ģ->XK}{CX:nh}{k n:Nat}{f:À}{fd:ě}{ps:List Str}{mf:MF}{mr:M (List Slot)}{x:Str}{p pos:Pos}{e:Ð}{es:List Ð}
def Cs{sp:Sp}{Ã:List (À×Obj)}{V:Ģ}{H:Hp}{s:Å}{Q:VK}{us:List Á}{vs:List Qqj}(F:Ĉ X.prog X.w X.K X.mg X.base CX k f fd ps sp)(hr:Ϗ k X.A)(hb:Binds X.K fd ps [])(hx:ϴ CX X E)
 (I:Inv X Ã V H s)(r:Ĳ vs us)(h:sp vs H Q (E V)):Î (Ó X.prog X.w) X.A (call (.ref f) us) (EP X Ã V Q) X.xe s:=by
 have hl:(us ++ []).length=ps.length:=by rw[cx,<-r.length];exact F.len _ _ _ _ h
 have OE:=hb s us I.eY hl;rw[cx] at OE;refine cG (iL (F.run X.A X.stack s H ⟨us,[]⟩ us vs Q (E V) hr I.env0 OE r h) λr s' hq=>?_);cases r with
 |error e=>exact hx Ã V H s e s' I hq
 |ok fl=>
  cases fl with
  |ret u=>exact I.after hq
  |next=>exact Š hq
  |brk=>exact Š hq
  |cont=>exact Š hq
def qm{c:Ctx}{F1 H1:Hp}{V:Ģ}{Y1:Ĝ}{Q:VK}{ps:List Slot}{vs:List Qqj}(hlen:(∃r,mf ps=r/\∀z,r=z->z≠ .bad)->ps.length=n)(ë:ļ (kk X cm) c F1 H1 V Y1)(r1:Paired (cg (kk X cm) F1 H1) ps vs)
 (h:aM (kk X cm) E (rO (kk X cm)) c F1 H1 V Q (match mf ps with| .ret r=>.ok r Y1| .exc x=>.exc x Y1| .bad=>.bad)):ſ (kk X cm) n mf vs H1 Q (E V):=by
 refine⟨F1,ps,?_,ë.sub,r1,?_⟩
 ·refine hlen ⟨_,rfl,λz hz hb=>?_⟩;rw[hz,hb] at h;exact h
 ·cases em:mf ps with
  |bad=>rw[em] at h;exact h
  |exc x=>rw[em] at h;exact λC d F' H' g rx=>h C d F' H' (ë.call g) g.f rx
  |ret r=>
   rw[em] at h;intro v F' H' g rf;refine h v F' H' (ë.call g) g.f g.h ?_;cases r with
   |sh p=>exact rf
   |ow qs=>obtain⟨a,lU,e1,e2,e3,e4,e5⟩:=rf;exact⟨a,lU,e1,e2,e3,ë.base.free e4,ë.qk g.f (ë.fresh e4),e5⟩
   |ot qs ts=>obtain⟨p,a,xs,lU,e1,e0,ex,e2,e3,e4,e5⟩:=rf;exact⟨p,a,xs,lU,e1,e0,ex,e2,e3,ë.base.free e4,ë.qk g.f (ë.fresh e4),e5⟩
def aA{n k:Nat}{mb:M Fl}{ps:List Slot}(h:∃r,Ğ n k mb ps=r/\∀z,r=z->z≠ .bad):ps.length=n:=by
 obtain⟨r,h1,h2⟩:=h;unfold Ğ at h1;by_cases hl:ps.length=n
 ·exact hl
 ·rw[if_neg hl] at h1;exact absurd h1.symm (λz=>h2 .bad (by rw[<-h1]) rfl)
def zN(F:Ĉ X.prog X.w X.K X.mg X.base CX k f fd ps (ſ (kk X cm) n mf))(hlen:∀{ps:List Slot},(∃r,mf ps=r/\∀z,r=z->z≠ .bad)->ps.length=n)(hr:Ϗ k X.A)(hg:Gl X x)(hm:X.mg x=some (.ref f))(hk:Ť X.K (.ref f)=true)(hb:Binds X.K fd ps [])(hx:ϴ CX X E)
 (ha:PA X (e::es) (tA (kk X cm) E mr))(oi:(x== ("__debug__" :Str))=false:=by decide)(he:å (e::es) X.env=(false,Ý e X.env)::å es X.env:=by exact ϗ rfl)(gJ:(Ŭ pos (å es X.env)).any (·.1)=false:=by rfl) :
 PE X (.Call (.Name x p) (e::es) [] pos) (tO (kk X cm) E (ç mf mr)):=by
 intro Ã s V H Q I h;obtain⟨c,F,Y,rel,h⟩:=h;refine fk (fJ I hg hm ?_ oi);refine pN (h₀:= X.base) I.ok.mod.OU hk (Ų (ha pos Ã s V H (λvs H1=>ſ (kk X cm) n mf vs H1 Q (E V)) I ⟨c,F,Y,rel,h.bind λzp Y1 vs F1 H1 ë _ _ r1 h1=>qm hlen ë r1 h1⟩) λus s1 ⟨vs,H1,I1,r,q⟩=>⟨I1.eY,?_⟩) he gJ;exact Cs (by assumption) hr hb hx I1 r q
end
@[simp] def ϡ(m:M PV)(Y:Ĝ):Ŋ (List PV):= (m Y).bind fun p Y1=>match p with
  | .lst ps=>.ok ps Y1
  | .tup ps=>.ok ps Y1
  | .str z=>.ok (z.cps.toList.map λc=>.str ⟨#[c]⟩) Y1
  |_=>.bad
section
variable{X:Cx}{cm:String->À}{E:Ģ->XK}{tg:Ð}
def Qqq8(K:Ñ)(tl:TE):TI:=λV H R=>tl V H λx H1=>(∃a,x=.ref a/\(∃xs,Ϟ K H1 a xs)/\R (Ky K a) H1)\/(∃a,x=.ref a/\(∃xs,da K H1 a xs)/\R (T0 K a) H1)\/∃z,x=.str z/\R (Its z) H1
def Fp{l:Ð}{tl:TE}(hl:PE X l tl):PI X tg l (Qqq8 X.K tl):=by
 intro Ã s V H R I h;refine Ų (hl Ã s V H _ I h) λv s1 ⟨x,H1,I1,r1,q1⟩=>?_;rcases q1 with⟨a,e,⟨xs,hq⟩,q⟩|⟨a,e,⟨xs,hq⟩,q⟩|⟨z,e,q⟩
 ·subst e;cases r1;obtain⟨ċ,rv,p,hz⟩:=I1.list hq;refine kD p.isList ?_;refine⟨s1.heap.objs.size,[s1.heap.objs.size],_,_,H1,rfl,I1.kept (t':=s1.toks) λb o e=>ï _ e,Dw a _,⟨_,Ħ _ rfl,rfl,rfl⟩,λb hb=>?_,q⟩;have e:b=s1.heap.objs.size:=by simpa using hb
  subst e;exact I1.qc (õ _) (I1.hok.fresh (õ _))
 ·subst e;cases r1;obtain⟨ċ,rv,p,hz⟩:=I1.tuple hq;refine uF (show s1.heap.IsTuple a ċ.toArray from p) ?_;refine⟨s1.heap.objs.size,[s1.heap.objs.size],_,_,H1,rfl,I1.kept (t':=s1.toks) λb o e=>ï _ e,zq a _,⟨_,Ħ _ rfl,rfl,rfl⟩,λb hb=>?_,q⟩;have e:b=s1.heap.objs.size:=by simpa using hb
  subst e;exact I1.qc (õ _) (I1.hok.fresh (õ _))
 ·subst e;obtain⟨t,rfl⟩:=r1;have gz:∀ty,(∀A:ð,A.handled=none->Walks X.prog X.w A s1.heap.objs.size [s1.heap.objs.size] [s1.heap.objs.size] z.cps.size (SignAt z) (λi h=>h.IsStrIter s1.heap.objs.size ty z t i))->
   (∀(A:ð) (i:Nat) (s:Å) (Q:Á->Å->Prop) (E:Á->Å->Prop),s.heap.IsStrIter s1.heap.objs.size ty z t i->Q (.ref s1.heap.objs.size) s->Î (Ó X.prog X.w) A (cC (.ref s1.heap.objs.size)) Q E s)->
   (["enumerate","zip","dict_itemiterator","dict_reverseitemiterator","odict_iterator","itertools.zip_longest","itertools.pairwise"].contains ty=false)->
   Wi X Ã V tg R (.ref s1.heap.objs.size) {s1 with heap:=s1.heap.push {cls:=.type ty,data:=.fields #[.str z t,.int 0 0]}}:=λty hW hS jP=>by
   refine⟨s1.heap.objs.size,[s1.heap.objs.size],_,_,H1,rfl,I1.kept (t':=s1.toks) λb o e=>ï _ e,DG _ z t ty hW hS jP,⟨_,Ħ _ rfl,rfl,rfl⟩,λb hb=>?_,q⟩;have e:b=s1.heap.objs.size:=by simpa using hb
   subst e;exact I1.qc (õ _) (I1.hok.fresh (õ _))
  cases ha:z.cps.all (·< 128) with
  |true=>exact wpAny_pyIter_ascii ha (gz _ (λA hA=>Walks.strAscii hA _ z t) (λA i s Q E st q=>wpAny_pyIter_striter_ascii st q) (by decide))
  |false=>exact wpAny_pyIter_wide ha (gz _ (λA hA=>Walks.strWide hA _ z t) (λA i s Q E st q=>wpAny_pyIter_striter_wide st q) (by decide))
def eQ{l:Ð}{m:M PV}(hl:PE X l (tV (kk X cm) E m)):PI X tg l (tI (kk X cm) E (ϡ m)):=λÃ s V H R I h=>Fp hl Ã s V H R I (by
 obtain⟨c,F,Y,rel,h⟩:=h;refine⟨c,F,Y,rel,h.bind λp Y1 v F1 H1 ë s1 s2 q h1=>?_⟩;cases p with
 |lst ps=>have q':Đ (kk X cm) F1 (.lst ps) v:=q;unfold Đ at q';obtain⟨a,vs,rfl,e1,e2⟩:=q';refine .inl ⟨a,rfl,⟨vs,ë.sub.seq e1⟩,h1 _ F1 H1 ë Ę Ę ?_⟩;intro c' i F2 H2 V2 Y2 ħ sF _;have hq:Ϟ X.K H2 a vs:=(sF.trans ħ.sub).seq e1;refine⟨λp hp=>?_,λhi=>⟨vs,hq,by rw[hi,e2.length];exact õ _⟩⟩;obtain⟨u,hu,ru⟩:=bI e2.pr hp;refine⟨⟨vs,u,hq,hu⟩,λx H' ⟨hH,hx⟩=>?_⟩;subst hH;have:vs[i]?=some x:=hx vs hq;rw[hu] at this;cases this;exact⟨F2,ħ,Û.refl _,Û.refl _,Đ.same sF p u ru⟩
 |tup ps=>have q':Đ (kk X cm) F1 (.tup ps) v:=q;unfold Đ at q';obtain⟨a,vs,rfl,e1,e2⟩:=q';refine .inr (.inl ⟨a,rfl,⟨vs,Û.tup ë.sub e1⟩,h1 _ F1 H1 ë Ę Ę ?_⟩);intro c' i F2 H2 V2 Y2 ħ sF _;have hq:da X.K H2 a vs:=Û.tup (sF.trans ħ.sub) e1;refine⟨λp hp=>?_,λhi=>⟨vs,hq,by rw[hi,e2.length];exact õ _⟩⟩;obtain⟨u,hu,ru⟩:=bI e2.pr hp;refine⟨⟨vs,u,hq,hu⟩,λx H' ⟨hH,hx⟩=>?_⟩;subst hH;have:vs[i]?=some x:=hx vs hq;rw[hu] at this;cases this;exact⟨F2,ħ,Û.refl _,Û.refl _,Đ.same sF p u ru⟩
 |str z=>
  have q':v=.str z:=by have q':Đ (kk X cm) F1 (.str z) v:=q;unfold Đ at q';exact q'
  subst q';refine .inr (.inr ⟨z,rfl,h1 _ F1 H1 ë Ę Ę ?_⟩);intro c' i F2 H2 V2 Y2 ħ sF _;refine⟨λp hp=>?_,λhi=>by rw[hi,ř];show _=_;simp⟩;rw[Ϩ] at hp;cases ez:z.cps.toList[i]? with
  |none=>rw[ez] at hp;cases hp
  |some cc=>rw[ez] at hp;cases hp;refine⟨by have:=(Ϧ.mp ez).1;show i<z.cps.size;simpa using this,λx H' ⟨hH,c2,hc,hx⟩=>?_⟩;subst hH hx;rw[ez] at hc;cases hc;exact⟨F2,ħ,Û.refl _,Û.refl _,Đ.str⟩
 |_=>exact h1.elim)
noncomputable def ń(i:Nat):M (List PV):=λY=>match Y[i]? with
 |some (.bw ps)=>.ok ps Y
 |some (.sh (.lst ps))=>.ok ps Y
 |some (.sh (.tup ps))=>.ok ps Y
 |some (.sh (.str z))=>.ok (z.cps.toList.map λc=>.str ⟨#[c]⟩) Y
 |some (.ow ps)=>.ok ps (Y.set i (.sh (.lst ps)))
 |_=>.bad
def ϐ(i:Nat){x:Str}{px:Pos}(hN:X.N[i]?=some x:=by rfl)(hv:w_ X.env.scope x:=by first|exact Ġ rfl|exact Č (Ġ rfl)|exact Č (Č rfl))(hd:(x== ("__debug__" :Str))=false:=by decide)
 (et:(x== ("__classdict__" :Str))=false:=by decide):PI X tg (.Name x px) (tI (kk X cm) E (ń i)):=λÃ s V H R I h=>by
 obtain⟨c,F,Y,rel,h⟩:=h;cases e:Y[i]? with
 |none=>unfold ń at h;rw[e] at h;exact h.elim
 |some sl=>
  have Jx:aM (kk X cm) E (rIt (kk X cm)) c F H V R (ϡ (ê i) Y)->Î (Ó X.prog X.w) X.A (Ý (.Name x px) X.env) (λv s1=>Î (Ó X.prog X.w) X.A (cC v) (Wi X Ã V tg R) X.xe s1) X.xe s:=λh'=>
   eQ (v_var i hN hv hd et) Ã s V H R I ⟨c,F,Y,rel,h'⟩
  unfold ń at h;rw[e] at h;cases sl with
  |no=>exact h.elim
  |rc C ns ps=>exact h.elim
  |ot ps qs=>exact h.elim
  |ol Ck=>exact h.elim
  |ow ps=>exact Jx (by unfold ϡ ê;rw[e];exact h)
  |sh p=>
   cases p with
   |lst ps=>exact Jx (by unfold ϡ ê;rw[e];exact h)
   |tup ps=>exact Jx (by unfold ϡ ê;rw[e];exact h)
   |str z=>exact Jx (by unfold ϡ ê;rw[e];exact h)
   |_=>exact h.elim
  |bw ps=>obtain⟨a,vs,h1,h2,h3⟩:=rel.slot i _ e;refine Fp (cS hN hv hd et) Ã s V H R I ⟨.ref a,Ű h1,.inl ⟨a,rfl,⟨vs,Ϟ.of (rel.lent a _ h2).1⟩,h _ F H rel Ę Ę ?_⟩⟩;intro c' j F2 H2 V2 Y2 ħ sF sL;have hq:Ϟ X.K H2 a vs:=Ϟ.of (sL a _ h2);refine⟨λp hp=>?_,λhi=>⟨vs,hq,by rw[hi,h3.length];exact õ _⟩⟩;obtain⟨u,hu,ru⟩:=bI h3.pr hp;refine⟨⟨vs,u,hq,hu⟩,λx H' ⟨hH,hx⟩=>?_⟩;subst hH;have:vs[j]?=some x:=hx vs hq;rw[hu] at this;cases this;exact⟨F2,ħ,Û.refl _,Û.refl _,Đ.same sF p u ru⟩
noncomputable def bJ(lo:Int)(n:Nat)(c:Int):List PV:=(Ò n).map λ(i:Nat)=>.int (lo+i*c)
def ay(i:Int):Bool:=decide (i.natAbs<1152921504606846976)
def ϑ:List PV->Option (List PV)
 | [.int j]=>if ay j=true then some (bJ 0 j.toNat 1) else none
 |_=>none
def sR:List PV->Option (List PV)
 | [.int i,.int j]=>if ay i=true/\ay j=true then some (bJ i (j-i).toNat 1) else none
 |_=>none
@[simp] def Œ(f:List PV->Option (List PV))(mr:M (List PV))(Y:Ĝ):Ŋ (List PV):= (mr Y).bind λps Y1=>Ŋ.Cn (f ps) Y1
def qo{lo c:Int}{n i:Nat}{p:PV}(h:(bJ lo n c)[i]?=some p):i<n/\p=.int (lo+i*c):=by
 unfold bJ at h;by_cases hn:i<n
 ·rw[Ϩ,Bl hn] at h;exact⟨hn,(ŀ h).symm⟩
 ·rw[Bm (by simpa using hn)] at h;cases h
def qq{lo c:Int}{n:Nat}:(bJ lo n c).length=n:=by simp[bJ]
def Fq{K:KK}{Lh F:Hp}(lo:Int)(n:Nat):eh K Lh F (T1 lo n) (bJ lo n 1):=λc i F2 H V Y rel sF _=>
 ⟨fun p hp=>by obtain⟨h1,rfl⟩:=qo hp;refine⟨h1,λx H' ⟨e1,e2⟩=>?_⟩;subst e1 e2;exact⟨F2,rel,Û.refl _,Û.refl _,by rw[Int.mul_one];exact Đ.int⟩,λhi=>by rw[qq] at hi;subst hi;exact õ _⟩
def Qh{K:KK}{Lh F:Hp}(lo c':Int)(n:Nat):eh K Lh F (W1 lo c' n) (bJ lo n c'):=λc i F2 H V Y rel sF _=>
 ⟨fun p hp=>by obtain⟨h1,rfl⟩:=qo hp;refine⟨h1,λx H' ⟨e1,e2⟩=>?_⟩;subst e1 e2;exact⟨F2,rel,Û.refl _,Û.refl _,Đ.int⟩,λhi=>by rw[qq] at hi;subst hi;exact õ _⟩
def eR{i:Int}(h:ay i=true): -(2 ^ 60)<=i/\i<2 ^ 60:=by unfold ay at h;rw[decide_eq_true_eq] at h;lia
variable{a b:Ð}{p pos:Pos}{mr:M (List PV)}
def fR{K:KK}{F:Hp}{ps:List PV}{vs:List Qqj}(h:ò K F ps vs):(∀i r,ps=.int i::r->∃r',vs=.int i::r'/\ò K F r r')/\(ps=[]->vs=[]):=by
 refine⟨λi r e=>?_,λe=>?_⟩
 ·subst e;unfold ò at h;obtain⟨x,r',h1,h2,h3⟩:=h;unfold Đ at h2;exact⟨r',by rw[h1,h2],h3⟩
 ·subst e;unfold ò at h;exact h
def ŏ(hg:Gl X "range")(hm:X.mg "range" =none)(ha:PA X [a] (tL (kk X cm) E mr))(hs:å [a] X.env=[(false,Ý a X.env)]:=by exact ϗ rfl):PI X tg (.Call (.Name "range" p) [a] [] pos) (tI (kk X cm) E (Œ ϑ mr)):=
 λÃ s V H R I h=>Dx hg hm ha hs Ã s V H R I (by
  obtain⟨c,F,Y,rel,h⟩:=h;refine⟨c,F,Y,rel,h.bind λps Y1 vs F1 H1 ë s1 s2 q h1=>?_⟩;have q':ò (kk X cm) F1 ps vs:=q;unfold ϑ at h1;split at h1
  ·rename_i j;split at h1
   ·rename_i hj;obtain⟨r',e1,e2⟩:=(fR q').1 _ _ rfl;cases(fR e2).2 rfl;obtain⟨k1,k2⟩:=eR hj;exact⟨j,e1,by lia,by lia,h1 _ F1 H1 ë Ę Ę (Fq 0 j.toNat)⟩
   ·exact h1.elim
  ·exact h1.elim)
def xG(hg:Gl X "range")(hm:X.mg "range" =none)(ha:PA X [a,b] (tL (kk X cm) E mr))(hs:å [a,b] X.env=[(false,Ý a X.env),(false,Ý b X.env)]:=by exact vq rfl rfl)(gD:å [b] X.env=[(false,Ý b X.env)]:=by exact ϗ rfl) :
 PI X tg (.Call (.Name "range" p) [a,b] [] pos) (tI (kk X cm) E (Œ sR mr)):=
 λÃ s V H R I h=>Dz hg hm ha hs gD Ã s V H R I (by
  obtain⟨c,F,Y,rel,h⟩:=h;refine⟨c,F,Y,rel,h.bind λps Y1 vs F1 H1 ë s1 s2 q h1=>?_⟩;have q':ò (kk X cm) F1 ps vs:=q;unfold sR at h1;split at h1
  ·rename_i i j;split at h1
   ·rename_i hj;obtain⟨r',e1,e2⟩:=(fR q').1 _ _ rfl;obtain⟨r2,e3,e4⟩:=(fR e2).1 _ _ rfl;cases(fR e4).2 rfl;subst e3;obtain⟨k1,k2⟩:=eR hj.1;obtain⟨k3,k4⟩:=eR hj.2;exact⟨i,j,e1,⟨by lia,by lia,by lia,by lia⟩,h1 _ F1 H1 ë Ę Ę (Fq i (j-i).toNat)⟩
   ·exact h1.elim
  ·exact h1.elim)
end
noncomputable def av:Slot->Slot
 | .sh p=>.sh p
 | .ow ps=>.bw ps
 | .bw ps=>.bw ps
 |_=>.no
def bt(js:List Nat)(nl:Nat)(Y:Ĝ):Ĝ:=js.map (λ(j:Nat)=>av ((Y[j]?).getD .no))++Ï nl .no
noncomputable def Ķ(g:Tg)(mt:M Bool)(me:M PV):List PV->Ĝ->List PV->Option (List PV)
 | [],_,ď=>some ď
 |p::ps,Y,ď=>match g p Y with
  |none=>none
  |some Y1=>match mt Y1 with
   | .ok true Y2=>match me Y2 with
     | .ok q Y3=>if ď.length<16777216 then Ķ g mt me ps Y3 (ď ++ [q]) else none
     |_=>none
   | .ok false Y2=>Ķ g mt me ps Y2 ď
   |_=>none
@[simp] def ĳ(js:List Nat)(nl:Nat)(mi:M (List PV))(g:Tg)(mt:M Bool)(me:M PV)(Y:Ĝ):Ŋ RV:= (mi Y).bind fun items Y1=>match Ķ g mt me items (bt js nl Y1) [] with
  |some ps=>.ok (.ow ps) Y1
  |none=>.bad
abbrev EF:Ģ->XK:=λ_ _ _ _=>False
@[simp] def Ě(Y:Ĝ):Ŋ Bool:= .ok true Y
section
variable{K:KK}{c:Ctx}{F H:Hp}{V:Ģ}{Y:Ĝ}
def vw(F H H1:Hp):Ctx:=⟨H1,F,(de F H).L,λ_ _ _=>True⟩
def ļ.cap(js:List Nat)(nl:Nat)(rel:ļ K c F H V Y){D:À}{o:HO}(hD:H D=none):ļ K (vw F H (upd H D o)) F (upd H D o) (eL js nl V) (bt js nl Y) where
 sub:=rel.sub.trans (Û.upd hD)
 base:=Û.refl _
 f0:=Û.refl _
 dY:=λ_ _ z=>z
 lent:=λa u e=>⟨Û.upd hD a u (ef e).1,(ef e).2⟩
 lb:=fun a e=>by
   cases q:(vw F H (upd H D o)).L a with
   |none=>rfl
   |some u=>have e':upd H D o a=none:=e;rw[Û.upd hD a u (ef q).1] at e';cases e'
 len:=by simp[eL,bt]
 slot:= λi s e=>by
  unfold bt at e;by_cases hi:i<js.length
  ·rw[ϧ (by simpa using hi),Ϩ] at e;cases ej:js[i]? with
   |none=>rw[ej] at e;cases e
   |some j=>
    rw[ej] at e;have e':av ((Y[j]?).getD .no)=s:=ŀ e;subst e';have hx:((eL js nl V)[i]?).getD none=(V[j]?).getD none:=by unfold eL;rw[ϧ (by simpa using hi),Ϩ,ej];rfl
    rw[hx];cases er:Y[j]? with
    |none=>trivial
    |some sl=>
     have q:=rel.slot j sl er;cases sl with
     |no=>trivial
     |sh p=>exact q
     |ow ps=>obtain⟨a,vs,h1,h2,h3,h4,h5⟩:=q;refine⟨a,vs,h1,?_,h5⟩;show(match F a with|none=>H a|some _=>none)=_;rw[h3];exact h2
     |bw ps=>obtain⟨a,vs,h1,h2,h3⟩:=q;obtain⟨l1,l2⟩:=rel.lent a _ h2;refine⟨a,vs,h1,?_,h3⟩;show(match F a with|none=>H a|some _=>none)=_;rw[l2];exact l1
     |rc C ns ps=>trivial
     |ot ps qs=>trivial
     |ol Ck=>trivial
  ·rw[bc (by simpa using hi),fb] at e;split at e
   ·cases e;trivial
   ·cases e
 sep:=λi j a h1 _=>by
  exfalso;obtain⟨s,y,h1,_,h2⟩:=h1;have h2:=gP h2;unfold bt at h1;by_cases hi:i<js.length
  ·rw[ϧ (by simpa using hi),Ϩ] at h1;cases ej:js[i]? with
   |none=>rw[ej] at h1;cases h1
   |some j=>rw[ej] at h1;have e':av ((Y[j]?).getD .no)=s:=ŀ h1;subst e';cases q:(Y[j]?).getD .no<;>rw[q] at h2<;>cases h2
  ·rw[bc (by simpa using hi),fb] at h1;split at h1
   ·cases h1;cases h2
   ·cases h1
def ļ.rebase{H1 F1:Hp}{D:À}{ys zs:List Qqj}(hD:H1 D=none)(hF:F1 D=none)(rel:ļ K (vw F1 H1 (upd H1 D (.lst ys))) F H V Y):ļ K (vw F1 H1 (upd H1 D (.lst zs))) F (upd H D (.lst zs)) V Y:= by
 have fD:F D=none:=rel.dY D (by show upd H1 D _ D≠none;rw[þ];intro z;cases z) hF;have lD:∀b u,(vw F1 H1 (upd H1 D (.lst ys))).L b=some u->b≠D:=λb u e z=>by have q:=(ef (F:=F1) (H:=H1) (a:=b) (u:=u) e).1;rw[z,hD] at q;cases q
 have ne:∀b,(vw F1 H1 (upd H1 D (.lst ys))).B b=none->b≠D:=λb z q=>by subst q;have z':upd H1 b (.lst ys) b=none:=z;rw[þ] at z';cases z'
 have back:∀b,b≠D->(vw F1 H1 (upd H1 D (.lst ys))).B b=none->(vw F1 H1 (upd H1 D (.lst zs))).B b=none:=λb hb z=>by have z':upd H1 D (.lst ys) b=none:=z;show upd H1 D (.lst zs) b=none;rw[ì hb] at z' ⊢;exact z'
 refine⟨λb u e=>?_,λb u e=>?_,rel.f0,λb h1 h2=>?_,λb u e=>?_,λb e=>?_,rel.len,λi s e=>?_,rel.sep⟩
 ·have hb:b≠D:=λz=>by rw[z,fD] at e;cases e
  rw[ì hb];exact rel.sub b u e
 ·by_cases hb:b=D
  ·subst hb;have e':upd H1 b (.lst zs) b=some u:=e;rw[þ] at e' ⊢;exact e'
  ·have e':upd H1 D (.lst zs) b=some u:=e;rw[ì hb] at e' ⊢;exact rel.base b u (by show upd H1 D _ b=some u;rw[ì hb];exact e')
 ·refine rel.dY b (λz=>h1 ?_) h2;exact back b (ne b z) z
 ·rw[ì (lD b u e)];exact rel.lent b u e
 ·refine rel.lb b ?_;have z':upd H1 D (.lst zs) b=none:=e;have hb:b≠D:=λq=>by rw[q,þ] at z';cases z'
  show upd H1 D (.lst ys) b=none;rw[ì hb] at z' ⊢;exact z'
 ·have q:=rel.slot i s e;cases s with
  |no=>trivial
  |sh p=>exact q
  |bw ps=>exact q
  |ow ps=>obtain⟨a,vs,q1,q2,q3,q4,q5⟩:=q;have hb:=ne a q4;exact⟨a,vs,q1,by rw[ì hb];exact q2,q3,back a hb q4,q5⟩
  |rc C ns ps=>obtain⟨a,dx,fs,q1,q2,q3,q4,q5⟩:=q;have hb:=ne a q4;exact⟨a,dx,fs,q1,by rw[ì hb];exact q2,q3,back a hb q4,q5⟩
  |ot ps qs=>obtain⟨p,a,xs,vs,q1,q0,qx,q2,q3,q4,q5⟩:=q;have hb:=ne a q4;exact⟨p,a,xs,vs,q1,q0,qx,by rw[ì hb];exact q2,q3,back a hb q4,q5⟩
  |ol Ck=>obtain⟨p,as,q1,q0,qn,qp⟩:=q;refine⟨p,as,q1,q0,qn,Ff qp λa ps _ ⟨vs,q2,q3,q4,q5⟩=>?_⟩;have hb:=ne a q4;exact⟨vs,by rw[ì hb];exact q2,q3,back a hb q4,q5⟩
end
section
variable{X:Cx}{cm:String->À}{E:Ģ->XK}{elt tg iter:Ð}{ifs:List Ð}{scope:ą}{pos:Pos}{mi:M (List PV)}{g:Tg}{mt:M Bool}{me:M PV}
def ľ:Ej X [] (tB (kk X cm) E Ě):=λÃ s V H Q I h=>Jf Ã s V H Q I (by
 obtain⟨c,F,Y,rel,h⟩:=h;exact h true F H rel Ę Ę rfl)
def Fs{a:Ð}(h:PT X a (tB (kk X cm) E mt)):Ej X [a] (tB (kk X cm) E mt):=Jg h
def DM(K:KK):RR (List PV) It:=λ_ _ _ F H items J=>eh K (de F H).L F J items
def KH{K:KK}{c:Ctx}{F H:Hp}{V:Ģ}{Y:Ĝ}(rel:ļ K c F H V Y){b:À}{u:HO}(e:c.L b=some u):(de F H).L b=some u:=by obtain⟨l1,l2⟩:=rel.lent b u e;show(match F b with|none=>H b|some _=>none)=some u;rw[l2];exact l1
def KI(h:PI X tg iter (tI (kk X cm) E mi)):PI X tg iter (tG (kk X cm) E (DM (kk X cm)) mi):=λÃ s V H R I ⟨c,F,Y,rel,q⟩=>h Ã s V H R I ⟨c,F,Y,rel,aM.bind (R':=DM (kk X cm)) (f:=λp Y=>.ok p Y) (by revert q;cases mi Y <;> exact id) λp Y1 v F1 H1 ë s1 s2 q h1=>h1 v F1 H1 ë Ę Ę λc' i F2 H2 V2 Y2 ħ sF sL=>q c' i F2 H2 V2 Y2 ħ sF λb u e=>sL b u (KH ë e)⟩
def xH{js:List Nat}{nl:Nat}{V:Ģ}{H:Hp}{Q:VK}(h:tO (kk X cm) E (ĳ js nl mi g mt me) V H Q):E3 js nl (tG (kk X cm) E (DM (kk X cm)) mi) (tT (kk X cm) g) (tB (kk X cm) EF mt) (tV (kk X cm) EF me) V H Q:=by
 obtain⟨c,F,Y,rel,h⟩:=h;refine⟨c,F,Y,rel,h.bind λitems Y1 J F1 H1 ë s1 s2 ito h1=>?_⟩;intro D hD;have hF:F1 D=none:=ë.sub.free hD;cases ec:Ķ g mt me items (bt js nl Y1) [] with
 |none=>rw[ec] at h1;exact h1.elim
 |some res=>
  rw[ec] at h1;refine⟨λi m V' H'=>∃F' Y' ys ď,i<=items.length/\m=items.length-i/\ļ (kk X cm) (vw F1 H1 (upd H1 D (.lst ys))) F' H' V' Y'/\ò (kk X cm) F' ď ys/\Ķ g mt me (items.drop i) Y' ď=some res,
   ⟨_,F1,_,[],[],cA _,rfl,?_,ò.nil,ec⟩,?_⟩
  ·exact ë.cap js nl hD
  ·rintro i m V2 H2 ⟨F2,Y2,ys,ď,hle,rfl,ħ,ra,h2⟩;have s12:Û F1 F2:=ħ.f0;obtain⟨go,stop⟩:=ito _ i F2 H2 V2 Y2 ħ s12 λb u e=>(ħ.lent b u e).1;have hH2:H2 D=some (.lst ys):=ħ.base D _ (show upd H1 D _ D=_ from þ);have fD:F2 D=none:=ħ.dY D (by show upd H1 D _ D≠none;rw[þ];intro z;cases z) hF;by_cases gA:i<items.length
   ·obtain⟨g1,g2⟩:=go items[i] (Ō gA);rw[Bj gA] at h2;unfold Ķ at h2;refine .inr ⟨g1,_,λV' H' z=>z,λx H3 hy=>?_⟩;obtain⟨F3,jl,s3,sH3,rp⟩:=g2 x H3 hy;refine⟨_,F3,Y2,items[i],jl,rp,?_⟩;cases eg:g items[i] Y2 with
    |none=>rw[eg] at h2;cases h2
    |some Y3=>
     rw[eg] at h2;dsimp only at h2;intro V4 xE;refine⟨_,F3,Y3,xE,?_⟩;cases em:mt Y3 with
     |bad=>rw[em] at h2;cases h2
     |exc x Y4=>rw[em] at h2;cases h2
     |ok b Y4=>
      rw[em] at h2;intro b' F5 H5 UJ s5 Em eb;have eb':b=b':=eb;subst eb';cases b with
      |false=>rw[if_neg ϥ];dsimp only at h2;exact⟨items.length-(i+1),by lia,F5,Y4,ys,ď,gA,rfl,UJ,ò.same (s3.trans s5) ď ys ra,h2⟩
      |true=>
       rw[if_pos rfl];dsimp only at h2;refine⟨_,F5,Y4,UJ,?_⟩;cases ee:me Y4 with
       |bad=>rw[ee] at h2;cases h2
       |exc x Y5=>rw[ee] at h2;cases h2
       |ok q Y5=>
        rw[ee] at h2;dsimp only at h2;intro y F6 H6 UK s6 zO rq;split at h2
        ·rename_i hz;have ra6:=ò.same ((s3.trans s5).trans s6) ď ys ra;refine⟨ys,UK.base D _ (show upd H1 D _ D=_ from þ),by rw[<-ra6.length,ī];exact hz,?_⟩;exact⟨items.length-(i+1),by lia,F6,Y5,ys ++ [y],ď ++ [q],gA,rfl,UK.rebase hD hF,ò.append ra6 (ò.cons rq ò.nil),h2⟩
        ·cases h2
   ·have e:i=items.length:=by lia
    refine .inl ⟨stop e,?_⟩;rw[Bk (by lia)] at h2;unfold Ķ at h2;cases h2;have gr:Gr F1 H1 F2 H2:=⟨λb u e=>ħ.base b u (by show upd H1 D _ b=_;rw[ì (ø e hD)];exact e),s12,ħ.sub,λb hb hf=>ħ.dY b (by
     show upd H1 D _ b≠none;by_cases hbD:b=D
     ·rw[hbD,þ];intro z;cases z
     ·rw[ì hbD];exact hb) hf⟩
    have Qqq9:=ë.call gr;exact h1 _ F2 H2 Qqq9 s12 gr.h ⟨D,ys,rfl,hH2,fD,ë.base.free hD,ë.qk gr.f (ë.fresh hD),ra⟩
def Jy(N':List Str)(js:List Nat)(nl:Nat)(sc:ą)(rY:X.env.scope=sc)(hcalm:X.calm=true)
 (hi:PI X.ϖ tg iter (tG (kk X cm) E (DM (kk X cm)) mi))(hg:∀cl C s H fp,PG (d_ X.ϖ N' scope cl C s H fp) tg (tT (kk X cm) g))(ht:∀cl C s H fp,Ej (d_ X.ϖ N' scope cl C s H fp) ifs (tB (kk X cm) EF mt))(he:∀cl C s H fp,PE (d_ X.ϖ N' scope cl C s H fp) elt (tV (kk X cm) EF me))
 (hcap:eK X.ϖ sc scope N' js)(hlen:js.length+nl=N'.length:=by rfl)
 (hk:scope.kind=.function:=by rfl)(hcell:∀y∈scope.names,y.2=.cell->scope.names.lookup y.1=some .cell:=by decide +kernel)(hnames:∀y∈scope.names,y.2=.local->scope.names.lookup y.1=some .local:=by decide +kernel)
 (hfree:∀y∈scope.names,y.2=.free->(sc.names.lookup y.1=some .cell\/sc.names.lookup y.1=some .free):=by decide +kernel)
 (hs:∀x,dz iter X.env x=ö x:=by intro _;rfl) :
 PE X (.ListComp elt [⟨tg,iter,ifs,0⟩] scope pos) (tO (kk X cm) E (ĳ js nl mi g mt me)):=
 PE.wk (PE.ϖ (Jh N' js nl sc rY hcalm hi hg ht he hcap hlen hk hcell hnames hfree hs)) λ_ _ _ h=>xH h
end
open M4
noncomputable abbrev bits(x:Int):Nat:=pw x
section
variable{X:Cx}{cm:String->À}{K:KK}
def KJ(K:Ñ):R2:=λx y H Q=>∃l b xs zs,x=.ref l/\y=.ref b/\Ϟ K H l xs/\Ϟ K H b zs/\xs.length+zs.length<=sizeLine/\∀p,H p=none->Q (.ref p) (upd H p (.lst (xs++zs)))
def Jz:ϲ X (Ł .Add) (KJ X.K):=by
 intro Ã s V H x y v u Q I rx ry h;obtain⟨l,b,xs,zs,rfl,rfl,hH,hB,hz,q⟩:=h;cases rx;cases ry;obtain⟨ċ,r,pl,z⟩:=I.list hH;obtain⟨eV,r2,Z_,z2⟩:=I.list hB;obtain⟨⟨c1,d1,t1,sl1⟩,n,e,hc,hd,hs⟩:=pl;obtain⟨⟨c2,d2,t2,Du⟩,n2,e2,Ee,OF,gD⟩:=Z_;simp only at hc hd hs Ee OF gD;subst hc hd hs Ee OF gD;have hl:=r.length;have Es:=r2.length;have ea:ċ.toArray++eV.toArray=(ċ++eV).toArray:=by simp
 refine concat_meets ⟨_,e,rfl⟩ ⟨_,e2,rfl⟩ noFill_list_add seq_list_add PySem.F.slot_list_add PySem.F.entry_list_add (PySem.F.args_list_add_2 _ _) (list_addW l b ċ.toArray eV.toArray n n2 none none sl1 Du (by simp only[Ĥ];lia)) ⟨e,e2,?_⟩;rw[ea];exact⟨.ref _,_,I.Uh (t':=s.toks) (r.append r2) (by rw[ϩ];lia),rfl,q _ I.fresh⟩
def KL(K:Ñ):R2:=λx y H Q=>∃l b xs zs,x=.ref l/\y=.ref b/\da K H l xs/\da K H b zs/\xs≠[]/\zs≠[]/\xs.length+zs.length<=sizeLine/\∀p,H p=none->Q (.ref p) (upd H p (.tup (xs++zs)))
def JA:ϲ X (Ł .Add) (KL X.K):=by
 intro Ã s V H x y v u Q I rx ry h;obtain⟨l,b,xs,zs,rfl,rfl,hH,hB,nx,nz,hz,q⟩:=h;cases rx;cases ry;obtain⟨ċ,r,pl,z⟩:=I.tuple hH;obtain⟨eV,r2,Z_,z2⟩:=I.tuple hB;obtain⟨⟨c1,d1,t1,sl1⟩,e,hc,n,hd⟩:=pl;obtain⟨⟨c2,d2,t2,Du⟩,e2,Ee,n2,OF⟩:=Z_;simp only at hc hd Ee OF;subst hc hd Ee OF;have hl:=r.length;have Es:=r2.length;have Kl:ċ≠[]:=λz=>by rw[z] at hl;exact nx (Bn.mp hl)
 have TC:eV≠[]:=λz=>by rw[z] at Es;exact nz (Bn.mp Es)
 have ea:ċ.toArray++eV.toArray=(ċ++eV).toArray:=by simp
 refine concat_meets ⟨_,e,rfl⟩ ⟨_,e2,rfl⟩ noFill_tuple_add seq_tuple_add PySem.F.slot_tuple_add PySem.F.entry_tuple_add (PySem.F.args_tuple_add_2 _ _) (tuple_addW2 l b ċ.toArray eV.toArray n n2 d1 d2 sl1 Du (by simpa using Kl) (by simpa using TC) (by simp only[Ĥ];lia)) ⟨e,e2,?_⟩;rw[ea];exact⟨.ref _,_,I.laid (o:=.tup (xs++zs)) (t':=s.toks) (λ_ _ q=>ï _ q) (õ _) ⟨by rw[ϩ];lia,(ċ++eV),r.append r2,⟨_,Ħ _ rfl,rfl,_,rfl⟩⟩,rfl,q _ I.fresh⟩
noncomputable def Ą:PV->PV->Option RV
 | .int i,.int j=>some (~~~(i+j))
 | .str i,.str j=>if i.length+j.length<=16777216 then some (.sh (.str (i++j))) else none
 | .lst ps,.lst qs=>if ps.length+qs.length<=16777216 then some (.ow (ps++qs)) else none
 | .tup (p::ps),.tup (q::qs)=>if(p::ps).length+(q::qs).length<=16777216 then some (.sh (.tup ((p::ps)++(q::qs)))) else none
 |_,_=>none
def KN(K:Ñ):R2:=λx y H Q=>Ul x y H Q\/(KJ K x y H Q\/KL K x y H Q)
def Qi:ϲ X (Ł .Add) (KN X.K):=PK.or (Jz.or JA)
def Qj:YZ K (KN K.K) Ą:=by
 intro c F H V Y p q pv v u Q rel r1 r2 e k;unfold Ą at e;split at e
 ·cases e;cases r1.int;cases r2.int;exact .inl (k _ F H rel Ę Ę (Đ.int (K:=K) (F:=F)))
 ·split at e
  ·rename_i hz;cases e;cases r1.str;cases r2.str;exact .inl ⟨by rw[ī];exact hz,k _ F H rel Ę Ę (Đ.str (K:=K) (F:=F))⟩
  ·cases e
 ·split at e
  ·rename_i hz;cases e;obtain⟨a,xs,rfl,h1,h2⟩:=r1.lst rel.sub;obtain⟨b,ys,rfl,h3,h4⟩:=r2.lst rel.sub;refine .inr (.inl ⟨a,b,xs,ys,rfl,rfl,h1,h3,by rw[<-h2.length,<-h4.length,ī];exact hz,λd hd=>?_⟩);obtain⟨q1,q2⟩:=eP rel hd (ò.append h2 h4);exact k _ F _ q1 Ę (Û.upd hd) q2
  ·cases e
 ·split at e
  ·rename_i hz;cases e;obtain⟨a,xs,rfl,h1,h2⟩:=r1.tup rel.sub;obtain⟨b,ys,rfl,h3,h4⟩:=r2.tup rel.sub;have l1:=h2.length;have l2:=h4.length;refine .inr (.inr ⟨a,b,xs,ys,rfl,rfl,h1,h3,(λz=>by rw[z] at l1;cases l1),(λz=>by rw[z] at l2;cases l2),by rw[<-l1,<-l2,ī];exact hz,λl hl=>k _ _ _ (rel.alloc hl) (Û.upd (rel.sub.free hl)) (Û.upd hl) ?_⟩);show Đ K _ _ _;unfold Đ;exact⟨l,xs++ys,rfl,da.of þ,ò.same (Û.upd (rel.sub.free hl)) _ _ (ò.append h2 h4)⟩
  ·cases e
 ·cases e
noncomputable def xt(g:Int->Int->Int):PV->PV->Option PV
 | .int i,.int j=>some (.int (g i j))
 |_,_=>none
noncomputable def B8(C:Int->Int->Bool)(g:Int->Int->Int):PV->PV->Option PV
 | .int i,.int j=>if C i j=true then some (.int (g i j)) else none
 |_,_=>none
noncomputable def Ta(g:Int->Int->Bool):PV->PV->Option PV
 | .int i,.int j=>some (.bl (g i j))
 |_,_=>none
def KO{g:Int->Int->Int}:ju K (zI λi j=>.int (g i j)) (xt g):=by
 intro c F H V Y p q pv v u Q rel r1 r2 e k;unfold xt at e;split at e
 ·cases e;cases r1.int;cases r2.int;exact k _ F H rel Ę Ę Đ.int
 ·cases e
def JB{g:Int->Int->Bool}:ju K (zI λi j=>.bl (g i j)) (Ta g):=by
 intro c F H V Y p q pv v u Q rel r1 r2 e k;unfold Ta at e;split at e
 ·cases e;cases r1.int;cases r2.int;exact k _ F H rel Ę Ę Đ.bl
 ·cases e
def Ft{C:Int->Int->Bool}{C':Int->Int->Prop}{g:Int->Int->Int}(hC:∀i j,C i j=true->C' i j):ju K (mI C' λi j=>.int (g i j)) (B8 C g):=by
 intro c F H V Y p q pv v u Q rel r1 r2 e k;unfold B8 at e;split at e
 ·split at e
  ·rename_i hc;cases e;cases r1.int;cases r2.int;exact⟨hC _ _ hc,k _ F H rel Ę Ę Đ.int⟩
  ·cases e
 ·cases e
def Ő:=xt λi j=>i-j
def Qk:ju K (zI λi j=>.int (i-j)) Ő:=KO
def gZ(_ j:Int):Bool:=decide (j≠0) && decide (bits j<=8000)
def Ļ:=B8 gZ λi j=>i.fdiv j
def Ql:ju K (mI DF λi j=>.int (i.fdiv j)) Ļ:=Ft λi j h=>by unfold gZ at h;simpa[DF] using h
def xI(_ j:Int):Bool:=decide (j≠0)
def ć:=B8 xI λi j=>i.fmod j
def Qm:ju K (mI (λ_ j=>j≠0) λi j=>.int (i.fmod j)) ć:=Ft λi j h=>by unfold xI at h;simpa using h
def xJ(i j:Int):Bool:=decide (0<=j) && decide (j.natAbs<=1000000) && decide (i.natAbs<18446744073709551616)
def cU:=B8 xJ λi j=>i ^ j.toNat
def fT:ju K (mI DB λi j=>.int (i ^ j.toNat)) cU:=Ft λi j h=>by unfold xJ at h;simp only[Ė,decide_eq_true_eq] at h;exact⟨h.1.1,by lia,by have:=h.2;simpa using this⟩
def lg(i j:Int):Bool:=decide (0<=j) && decide (j.natAbs<=1000000) && decide (i.natAbs<18446744073709551616)
def xK:=B8 lg λi j=>i*2 ^ j.toNat
def zP:ju K (mI DB λi j=>.int (i*2 ^ j.toNat)) xK:=Ft λi j h=>by unfold lg at h;simp only[Ė,decide_eq_true_eq] at h;exact⟨h.1.1,by lia,by have:=h.2;simpa using this⟩
def qr(_ j:Int):Bool:=decide (0<=j)
def gf:=B8 qr λi j=>i / 2 ^ j.toNat
def vx:ju K (mI (λ_ j=>0<=j) λi j=>.int (i / 2 ^ j.toNat)) gf:=Ft λi j h=>by unfold qr at h;simpa using h
def mw:=xt λi j=>bT i j
def Ct:ju K (zI λi j=>.int (bT i j)) mw:=KO
def zQ:ϲ X (Ł .LShift) (mI DB λi j=>.int (i*2 ^ j.toNat)):=ϲ.wk Pk sM
def vy:ϲ X (Ł .RShift) (mI (λ_ j=>0<=j) λi j=>.int (i / 2 ^ j.toNat)):=ϲ.wk Pl sM
def Cu:ϲ X (Ł .BitAnd) (zI λi j=>.int (bT i j)):=ϲ.wk Pm md
def sj:=Ta λi j=>decide (i<j)
def lh:=Ta λi j=>decide (i<=j)
def Qn:=Ta λi j=>decide (j<i)
def Fu:=Ta λi j=>decide (j<=i)
def nq:ju K (zI λi j=>.bl (decide (i<j))) sj:=JB
def gh:ju K (zI λi j=>.bl (decide (i<=j))) lh:=JB
def UL:ju K (zI λi j=>.bl (decide (j<i))) Qn:=JB
def UM:ju K (zI λi j=>.bl (decide (j<=i))) Fu:=JB
def Ĵ(i j:Int):Bool:=decide (i.natAbs<18446744073709551616) || decide (j.natAbs<18446744073709551616) || (decide (bits i<=1048576) && decide (bits j<=1048576))
def Fv{i j:Int}(h:Ĵ i j=true):sN i j:=by
 unfold Ĵ at h;simp only[tY,Ė,decide_eq_true_eq] at h;rcases h with(h|h)|h
 ·exact .inl (.inl ⟨by lia,by lia⟩)
 ·exact .inl (.inr ⟨by lia,by lia⟩)
 ·exact .inr h
def û:PV->PV->Option PV
 | .int i,.int j=>if Ĵ i j=true then some (.int (i*j)) else none
 | .str z,.int n=>if 0<=n/\n<=1000/\z.length<=1000 then some (.str (S (Ï n.toNat z.cps.toList).flatten)) else none
 |_,_=>none
def Qo:ju K Fa û:=by
 intro c F H V Y p q pv v u Q rel r1 r2 e k;unfold û at e;split at e
 ·split at e
  ·rename_i hc;cases e;cases r1.int;cases r2.int;exact⟨Fv hc,k _ F H rel Ę Ę Đ.int⟩
  ·cases e
 ·split at e
  ·rename_i hc;cases e;cases r1.str;cases r2.int;exact⟨hc,k _ F H rel Ę Ę Đ.str⟩
  ·cases e
 ·cases e
@[simp] def Fw(mr:M (List PV))(mk:M PV)(Y:Ĝ):Ŋ RV:= (mr Y).bind fun ps Y1=>if ps.length≤16777216 then(mk Y1).bind fun q Y2=>match q with
  | .int k=>if -(2 ^ 60)<=k/\k<2 ^ 60/\ps.length*k.toNat<=16777216 then .ok (.ow (Ï k.toNat ps).flatten) Y2 else .bad
  |_=>.bad else .bad
theorem Cv{α β:Type}{G:α->β->Prop}{l:List α}{m:List β}(h:Paired G l m):∀k:Nat,Paired G (Ï k l).flatten (Ï k m).flatten
 |0=>.nil
 |k+1=>by rw[cy,cy,fc,fc];exact vt h (Cv h k)
variable{E:Ģ->XK}{a b e:Ð}{es:List Ð}{pos:Pos}{ma mb:M PV}{mr:M (List PV)}
def UN{p2:Pos}(ha:PA X es (tL (kk X cm) E mr))(hb:PE X b (tR (kk X cm) E mb)):PE X (.BinOp (.List es p2) .Mult b pos) (tO (kk X cm) E (Fw mr mb)):=PE.wk (EG Pz (EO ha) hb) λV H Q ⟨c,F,Y,rel,h⟩=>
 ⟨c,F,Y,rel,h.bind fun ps Y1 vs F1 H1 ë _ _ r1 h1=>by
   split at h1
   ·rename_i hz;refine⟨by rw[<-ò.length r1,ī];exact hz,λd hd=>?_⟩;refine⟨c,F1,Y1,ë.made hd,aM.bind (aM.mono h1 Ę (Û.upd hd)) λq Y2 u F2 H2 ħ sF sH r2 h2=>?_⟩;cases q with
    |int k=>
     dsimp only at h2;cases r2.int;split at h2
     ·rename_i hk;have hl:=ò.length r1;refine⟨d,k,vs,rfl,rfl,sH _ _ þ,by lia,by lia,by rw[<-hl,ī];exact hk.2.2,λd2 OF=>?_⟩;obtain⟨q1,q2⟩:=eP ħ OF (ò.of (Cv (ò.same sF ps vs r1).pr k.toNat));exact h2 _ F2 _ q1 Ę (Û.upd OF) q2
     ·exact h2.elim
    |_=>exact h2.elim
   ·exact h1.elim⟩
def aS:PV->Option PV
 | .int i=>some (.int (-i))
 |_=>none
def bu:UnV K (mU λi=>.int (-i)) aS:=by
 intro c F H V Y p pv v Q rel r1 e k;unfold aS at e;split at e
 ·cases e;cases r1.int;exact k _ F H rel Ę Ę Đ.int
 ·cases e
mutual
def eE:PV->Bool
 | .non| .bl _| .int _=>true
 | .str x=>Ϝ x
 | .lst xs=>db xs
 | .tup xs=>db xs
 |_=>false
def db:List PV->Bool
 | []=>true
 |x::xs=>eE x && db xs
end
mutual
def ze:PV->Nat
 | .lst xs=>qt xs+1
 | .tup xs=>qt xs+1
 |_=>0
def qt:List PV->Nat
 | []=>0
 |x::xs=>max (ze x) (qt xs)
end
mutual
def jT:PV->ϭ
 | .non=>.none
 | .bl b=>.bool b
 | .int i=>.int i
 | .str x=>.str x
 | .lst xs=>.list (jm xs)
 | .tup xs=>.tuple (jm xs)
 |_=>.none
def jm:List PV->List ϭ
 | []=>[]
 |x::xs=>jT x::jm xs
end
noncomputable def tQ(p q:PV):Bool:=ak (jT p) (jT q)
def UO(ps qs:List PV):Bool:=PyData.eqvAll (jm ps) (jm qs)
mutual
theorem fU:∀p:PV,eE p=true->(jT p).canLay0=true
 | .non,_=>rfl
 | .bl _,_=>rfl
 | .int _,_=>rfl
 | .str x,h=>by unfold eE at h;unfold jT uP;exact h
 | .lst xs,h=>by unfold eE at h;unfold jT uP;exact g_ xs h
 | .tup xs,h=>by unfold eE at h;unfold jT uP;exact g_ xs h
 | .ins _ _ _,h=>by simp[eE] at h
 | .xc _ _ _,h=>by simp[eE] at h
 | .ty _,h=>by simp[eE] at h
 | .cls _,h=>by simp[eE] at h
theorem g_:∀ps:List PV,db ps=true->fy (jm ps)=true
 | [],_=>rfl
 |p::ps,h=>by unfold db at h;rw[Ė] at h;unfold jm fy;rw[fU p h.1,g_ ps h.2];rfl
end
mutual
theorem fV:∀p:PV,(jT p).depth=ze p
 | .non=>rfl
 | .bl _=>rfl
 | .int _=>rfl
 | .str x=>rfl
 | .lst xs=>by unfold jT PyData.depth ze;rw[qu xs]
 | .tup xs=>by unfold jT PyData.depth ze;rw[qu xs]
 | .ins _ _ _=>rfl
 | .xc _ _ _=>rfl
 | .ty _=>rfl
 | .cls _=>rfl
theorem qu:∀ps:List PV,PyData.depthAll (jm ps)=qt ps
 | []=>rfl
 |p::ps=>by unfold jm PyData.depthAll qt;rw[fV p,qu ps]
end
mutual
theorem Fx{F:Hp}:∀(p:PV) (v:Qqj),eE p=true->Đ K F p v->Rp K.K F (jT p) v
 | .non,_,_,r=>by unfold Đ at r;unfold jT Rp;exact r
 | .bl _,_,_,r=>by unfold Đ at r;unfold jT Rp;exact r
 | .int _,_,_,r=>by unfold Đ at r;unfold jT Rp;exact r
 | .str _,_,_,r=>by unfold Đ at r;unfold jT Rp;exact r
 | .lst xs,_,h,r=>by unfold eE at h;unfold Đ at r;unfold jT Rp;obtain⟨a,vs,h1,h2,h3⟩:=r;exact⟨a,vs,h1,h2,jb xs vs h h3⟩
 | .tup xs,_,h,r=>by unfold eE at h;unfold Đ at r;unfold jT Rp;obtain⟨a,vs,h1,h2,h3⟩:=r;exact⟨a,vs,h1,h2,jb xs vs h h3⟩
 | .ins _ _ _,_,h,_=>by simp[eE] at h
 | .xc _ _ _,_,h,_=>by simp[eE] at h
 | .ty _,_,h,_=>by simp[eE] at h
 | .cls _,_,h,_=>by simp[eE] at h
theorem jb{F:Hp}:∀(ps:List PV) (vs:List Qqj),db ps=true->ò K F ps vs->kZ K.K F (jm ps) vs
 | [],_,_,r=>by unfold ò at r;unfold jm kZ;exact r
 |p::ps,_,h,r=>by unfold db at h;rw[Ė] at h;unfold ò at r;unfold jm kZ;obtain⟨x,t,h1,h2,h3⟩:=r;exact⟨x,t,h1,Fx p x h.1 h2,jb ps t h.2 h3⟩
end
def jc{c:Ctx}{F H:Hp}{V:Ģ}{Y:Ĝ}{p:PV}{v:Qqj}(s:Û F H)(h:eE p=true)(r:rR K c V Y F H p v):Rp K.K H (jT p) v:=by
 rcases r with r|r
 ·exact Rp.same s _ _ (Fx p v h r)
 ·cases p with
  |lst ps=>obtain⟨a,vs,rfl,h3,h4⟩:=r;unfold eE at h;unfold jT Rp;exact⟨a,vs,rfl,Ϟ.of h3,kZ.same s _ _ (jb ps vs h h4)⟩
  |ins C ns ps=>simp[eE] at h
  |_=>exact r.elim
def xL(p q:PV):Bool:=eE p && eE q && decide (min (ze p) (ze q)<=60)
def Ş(p q:PV):Option PV:=if xL p q=true then some (.bl (tQ p q)) else none
def bv(p q:PV):Option PV:=if xL p q=true then some (.bl (!tQ p q)) else none
def KP:ju K (Je K.K false) Ş:=by
 intro c F H V Y p q pv v u Q rel r1 r2 e k;unfold Ş at e;split at e
 ·rename_i hz;cases e;unfold xL at hz;simp only[Ė,decide_eq_true_eq] at hz;refine⟨jT p,jT q,jc rel.sub hz.1.1 r1,jc rel.sub hz.1.2 r2,fU p hz.1.1,fU q hz.1.2,by rw[fV,fV];exact hz.2,?_⟩;exact k _ F H rel Ę Ę Đ.bl
 ·cases e
def xM:ju K (Je K.K true) bv:=by
 intro c F H V Y p q pv v u Q rel r1 r2 e k;unfold bv at e;split at e
 ·rename_i hz;cases e;unfold xL at hz;simp only[Ė,decide_eq_true_eq] at hz;refine⟨jT p,jT q,jc rel.sub hz.1.1 r1,jc rel.sub hz.1.2 r2,fU p hz.1.1,fU q hz.1.2,by rw[fV,fV];exact hz.2,?_⟩;exact k _ F H rel Ę Ę Đ.bl
 ·cases e
noncomputable def jS:PV->Bool
 | .non=>true
 |_=>false
def my(p q:PV):Option PV:=match q with
 | .non=>some (.bl (jS p))
 |_=>none
def bX(p q:PV):Option PV:=match q with
 | .non=>some (.bl (!jS p))
 |_=>none
def Cw{c:Ctx}{F H:Hp}{V:Ģ}{Y:Ĝ}{p:PV}{v:Qqj}(r:rR K c V Y F H p v):decide (v=.non)=jS p:=by
 rcases r with r|r
 ·cases p<;>unfold Đ at r<;>first
   |(subst r;rfl)
   |(obtain⟨a,xs,rfl,_⟩:=r;rfl)
   |(obtain⟨a,xs,ys,rfl,_⟩:=r;rfl)
 ·cases p with
  |lst ps=>obtain⟨a,vs,rfl,_⟩:=r;rfl
  |ins C ns ps=>obtain⟨a,dx,fs,rfl,_⟩:=r;rfl
  |_=>exact r.elim
def li:ju K (λx y H Q=>y=.non/\Q (.bl (decide (x=.non))) H) my:=by
 intro c F H V Y p q pv v u Q rel r1 r2 e k;unfold my at e;split at e
 ·cases e;refine⟨r2.non,?_⟩;rw[Cw r1];exact k _ F H rel Ę Ę Đ.bl
 ·cases e
def lj:ju K (λx y H Q=>y=.non/\Q (.bl (!decide (x=.non))) H) bX:=by
 intro c F H V Y p q pv v u Q rel r1 r2 e k;unfold bX at e;split at e
 ·cases e;refine⟨r2.non,?_⟩;rw[Cw r1];exact k _ F H rel Ę Ę Đ.bl
 ·cases e
def ã:PV->PV->Option PV
 | .lst ps,.int i=>qe ps i
 | .tup ps,.int i=>qe ps i
 | .str z,.int i=>if z.length<=16777216 then(qe z.cps.toList i).map λc=>.str ⟨#[c]⟩ else none
 |_,_=>none
def Cy{F:Hp}{ps:List PV}{vs:List Qqj}{i:Int}{p:PV}(r:ò K F ps vs)(h:qe ps i=some p):∃v,qe vs i=some v/\Đ K F p v:=by
 unfold qe at h ⊢;rw[r.length] at h;cases e:zE vs.length i with
 |none=>rw[e] at h;cases h
 |some j=>rw[e] at h;obtain⟨v,h1,h2⟩:=bI r.pr h;exact⟨v,h1,h2⟩
def UP:ju K (mIx K.K) ã:=by
 intro c F H V Y p q pv v u Q rel r1 r2 e k;unfold ã at e;split at e
 ·obtain⟨a,vs,rfl,h1,h2⟩:=r1.lst rel.sub;cases r2.int;obtain⟨x,h3,h4⟩:=Cy h2 e;exact⟨vs,x,.inl h1,h3,k _ F H rel Ę Ę h4⟩
 ·obtain⟨a,vs,rfl,h1,h2⟩:=r1.tup rel.sub;cases r2.int;obtain⟨x,h3,h4⟩:=Cy h2 e;exact⟨vs,x,.inr h1,h3,k _ F H rel Ę Ę h4⟩
 ·split at e
  ·rename_i z i hz;cases r1.str;cases r2.int;cases ea:qe z.cps.toList i with
   |none=>rw[ea] at e;cases e
   |some cc=>rw[ea] at e;cases e;exact⟨cc,by rw[ī];exact hz,ea,k _ F H rel Ę Ę Đ.str⟩
  ·cases e
 ·cases e
@[simp] def qv(Y:Ĝ):Ŋ (Option Int):= .ok none Y
@[simp] def mP(m:M PV)(Y:Ĝ):Ŋ (Option Int):= (m Y).bind fun p Y1=>match p with
  | .int i=>.ok (some i) Y1
  |_=>.bad
abbrev tP(K:KK)(E:Ģ->XK)(m:M (Option Int)):TO:=tG K E rI m
def mz:PO X none (tP (kk X cm) E qv):=λÃ s V H Q I h=>IX Ã s V H Q I (by
 obtain⟨c,F,Y,rel,h⟩:=h;exact h none F H rel Ę Ę rfl)
def cn(ha:PE X e (tV (kk X cm) E ma)):PO X (some e) (tP (kk X cm) E (mP ma)):=λÃ s V H Q I h=>E0 ha Ã s V H Q I (by
 obtain⟨c,F,Y,rel,h⟩:=h;refine⟨c,F,Y,rel,h.bind λp Y1 v F1 H1 ë _ _ r1 h1=>?_⟩;cases p with
 |int i=>
  have e:v=.int i:=by have rQ:Đ (kk X cm) F1 (.int i) v:=r1;unfold Đ at rQ;exact rQ
  subst e;exact h1 (some i) F1 H1 ë Ę Ę rfl
 |_=>exact h1.elim)
def jn{α:Type}(xs:List α)(lo hi:Option Int):List α:= (xs.drop (HT.jR xs.length 0 lo)).take (HT.jR xs.length xs.length hi-HT.jR xs.length 0 lo)
def Qp(p:PV)(lo hi:Option Int):Option RV:=match p with
 | .lst ps=>some (.ow (jn ps lo hi))
 | .str z=>if z.length<=16777216 then some (.sh (.str (S (jn z.cps.toList lo hi)))) else none
 |_=>none
@[simp] def Cz(ma:M PV)(ml mh:M (Option Int))(Y:Ĝ):Ŋ RV:= (ma Y).bind λp Y1=>(ml Y1).bind λlo Y2=>(mh Y2).bind λhi Y3=>Ŋ.Cn (Qp p lo hi) Y3
def cL{ml mh:M (Option Int)}{lo hi:Option Ð}{p2:Pos}(ha:PE X a (tR (kk X cm) E ma))(hl:PO X lo (tP (kk X cm) E ml))(hh:PO X hi (tP (kk X cm) E mh)):PE X (.Subscript a (.Slice lo hi none p2) pos) (tO (kk X cm) E (Cz ma ml mh)):=
 PE.wk (ET slm ha hl hh) fun V H Q ⟨c,F,Y,rel,h⟩=>⟨c,F,Y,rel,h.bind fun p Y1 v F1 H1 ë _ _ r1 h1=>⟨c,F1,Y1,ë,h1.bind fun lo Y2 lo' F2 H2 ħ sF sH r2 h2=>⟨c,F2,Y2,ħ,h2.bind fun hi Y3 hi' F3 H3 jl sF3 sH3 r3 h3=>by
   have e2:lo=lo':=r2;have e3:hi=hi':=r3;subst e2 e3;have rQ:rR (kk X cm) c V Y3 F3 H3 p v:=r1.mono (sF.trans sF3) (sH.trans sH3);cases p with
   |lst ps=>
    obtain⟨a,vs,rfl,q1,q2⟩:=rQ.lst jl.sub;refine⟨vs,q1,λd hd=>?_⟩;have e:ò (kk X cm) F3 (jn ps lo hi) (xw vs lo hi):=by unfold jn xw;rw[q2.length];exact ò.of (Ci _ (Cj _ q2.pr))
    obtain⟨z1,z2⟩:=eP jl hd e;exact h3 _ F3 _ z1 Ę (Û.upd hd) z2
   |str z=>
    cases rQ.str;unfold Qp at h3;dsimp only at h3;split at h3
    ·rename_i hz;exact⟨by rw[ī];exact hz,h3 _ F3 H3 jl Ę Ę (Đ.str (K:=kk X cm) (F:=F3))⟩
    ·exact h3.elim
   |_=>exact h3.elim⟩⟩⟩
def CA{c:Ctx}{F H:Hp}{V:Ģ}{Y:Ĝ}{p:PV}{vs:List Qqj}(h:Uz K c V Y F H [p] vs):∃v,vs=[v]/\rR K c V Y F H p v:=by
 cases h with
 |cons r t=>cases t;exact⟨_,rfl,r⟩
def Tb{c:Ctx}{F H:Hp}{V:Ģ}{Y:Ĝ}{p q:PV}{vs:List Qqj}(h:Uz K c V Y F H [p,q] vs):∃v u,vs=[v,u]/\rR K c V Y F H p v/\rR K c V Y F H q u:=by
 cases h with
 |cons r t=>
  cases t with
  |cons r' t=>cases t;exact⟨_,_,rfl,r,r'⟩
noncomputable def aZ:List PV->Option PV
 | [.lst ps]=>some (.int ps.length)
 | [.tup ps]=>some (.int ps.length)
 | [.str z]=>if z.length<=16777216 then some (.int z.length) else none
 |_=>none
def Ż:dM K (PQ K.K) aZ:=by
 intro c F H V Y ps pv vs Q rel r e k;unfold aZ at e;split at e
 ·cases e;obtain⟨v,rfl,r1⟩:=CA r;obtain⟨a,xs,rfl,h1,h2⟩:=r1.lst rel.sub;refine⟨xs,.inl h1,?_⟩;rw[<-h2.length];exact k _ F H rel Ę Ę Đ.int
 ·cases e;obtain⟨v,rfl,r1⟩:=CA r;obtain⟨a,xs,rfl,h1,h2⟩:=r1.tup rel.sub;refine⟨xs,.inr h1,?_⟩;rw[<-h2.length];exact k _ F H rel Ę Ę Đ.int
 ·split at e
  ·rename_i hz;cases e;obtain⟨v,rfl,r1⟩:=CA r;cases r1.str;exact⟨by rw[ī];exact hz,k _ F H rel Ę Ę Đ.int⟩
  ·cases e
 ·cases e
noncomputable def JC:List PV->Option PV
 | [.int i]=>some (.int (if i<0 then -i else i))
 |_=>none
def Qq:dM K SK JC:=by
 intro c F H V Y ps pv vs Q rel r e k;unfold JC at e;split at e
 ·cases e;obtain⟨v,rfl,r1⟩:=CA r;cases r1.int;exact k _ F H rel Ę Ę Đ.int
 ·cases e
noncomputable def cj:List PV->Option RV
 | [.lst ps]=>some (.ow ps)
 | [.tup ps]=>some (.ow ps)
 |_=>none
def CB(K:Ñ):List Qqj->Hp->VK->Prop:=λxs H Q=>∃p ys,xs=[.ref p]/\(Ϟ K H p ys\/da K H p ys)/\∀l,H l=none->Q (.ref l) (upd H l (.lst ys))
def bY:ϔ X (.type "list") (CB X.K):=vn
def bZ:Fm K (CB K.K) cj:=by
 intro c F H V Y ps pv vs Q rel r e k;unfold cj at e;split at e
 ·cases e;obtain⟨v,rfl,r1⟩:=CA r;obtain⟨a,xs,rfl,h1,h2⟩:=r1.lst rel.sub;refine⟨a,xs,rfl,.inl h1,λl hl=>?_⟩;obtain⟨q1,q2⟩:=eP rel hl h2;exact k _ F _ q1 Ę (Û.upd hl) q2
 ·cases e;obtain⟨v,rfl,r1⟩:=CA r;obtain⟨a,xs,rfl,h1,h2⟩:=r1.tup rel.sub;refine⟨a,xs,rfl,.inr h1,λl hl=>?_⟩;obtain⟨q1,q2⟩:=eP rel hl h2;exact k _ F _ q1 Ę (Û.upd hl) q2
 ·cases e
noncomputable def zR:PV->List (String×Bool)
 | .int _=>[("int",true),("bool",false),("str",false),("tuple",false),("list",false)]
 | .bl _=>[("int",true),("bool",true)]
 | .lst _=>[("list",true),("tuple",false),("int",false),("str",false)]
 | .tup _=>[("tuple",true),("list",false),("int",false),("str",false)]
 | .str _=>[("str",true),("int",false),("list",false),("tuple",false)]
 | .non=>[("int",false),("str",false),("tuple",false),("list",false)]
 |_=>[]
def vz(p:PV)(n:String):Option Bool:=(zR p).lookup n
end
theorem xN{K:KK}{F:Hp}:∀ns:List Int,ò K F (ns.map .int) (ns.map Qqj.int)
 | []=>ò.nil
 |n::ns=>ò.cons Đ.int (xN ns)
def UQ(K:Ñ):Sp:=λvs H Q _=>∃(sa:À) (ns:List Int),vs=[.ref sa]/\Ϟ K H sa (ns.map Qqj.int)/\ns.length<=63/\∀v H',v=.bl true->Q v H'
section
variable{X:Cx}{K:KK}
def W8(K:Ñ)(H:Hp)(x:Qqj)(t:Á):Prop:=match x with
 | .non=>t=.type "NoneType"
 | .bl _=>t=.type "bool"
 | .int _=>t=.type "int"
 | .str _=>t=.type "str"
 | .ref a=>(t=.type "list" /\∃xs,Ϟ K H a xs)\/(t=.type "tuple" /\∃xs,da K H a xs)\/lZ K H (.ref a) t
 |_=>False
def CC(K:Ñ):List Qqj->Hp->VK->Prop:=λxs H Q=>match xs with
 | [x,.ty n]=>∃t b,W8 K H x t/\ō K t (.type n)=some b/\Q (.bl b) H
 | [x,.ref C]=>∃t b,W8 K H x t/\ō K t (.ref C)=some b/\Q (.bl b) H
 |_=>False
def CD{Ã:List (À×Obj)}{V:Ģ}{H:Hp}{s:Å}{A:ð}{E:Á->Å->Prop}{Q:Á->Å->Prop}{c:Á}{b:Bool}{x:Qqj}{u t:Á}(I:Inv X Ã V H s)(rx:RelV x u)(ty:W8 X.K H x t)(e:ō X.K t c=some b)(h:∀tk,Q (.bool b) {s with toks:=tk}) :
 Î (Ó X.prog X.w) A (call (.builtin "isinstance") [u,c]) Q E s:=by
 cases x with
 |non=>cases(show t=_ from ty);exact eJ I rx .non e h
 |bl y=>cases(show t=_ from ty);exact eJ I rx (.bl y) e h
 |int y=>cases(show t=_ from ty);exact eJ I rx (.int y) e h
 |str y=>cases(show t=_ from ty);exact eJ I rx (.str y) e h
 |ref a=>
  cases(show u=ē a from rx);rcases ty with⟨rfl,xs,hS⟩|⟨rfl,xs,hS⟩|ty
  ·obtain⟨ċ,r,⟨o,n,h1,h2,_⟩,_⟩:=I.list hS;exact ϱ vd I.eY ⟨o,h1,h2⟩ e (λz=>nomatch z) h
  ·obtain⟨ċ,r,⟨o,h1,h2,_⟩,_⟩:=I.tuple hS;exact ϱ BZ I.eY ⟨o,h1,h2⟩ e (λz=>nomatch z) h
  ·exact eJ I rx ty e h
 |_=>exact ty.elim
def Qr:ϔ X (.builtin "isinstance") (CC X.K):=by
 intro Ã s V H xs us Q I r h;unfold CC at h;split at h
 ·obtain⟨t,b,h1,h2,h3⟩:=h;obtain⟨u,w',rfl,r1,r2⟩:=vals2 r;cases r2;exact CD I r1 h1 h2 λtk=>⟨.bl b,H,I.tok _,rfl,h3⟩
 ·obtain⟨t,b,h1,h2,h3⟩:=h;obtain⟨u,w',rfl,r1,r2⟩:=vals2 r;cases r2;exact CD I r1 h1 h2 λtk=>⟨.bl b,H,I.tok _,rfl,h3⟩
 ·exact h.elim
noncomputable def tyN:PV->String
 | .non=> "NoneType"
 | .bl _=> "bool"
 | .int _=> "int"
 | .str _=> "str"
 | .lst _=> "list"
 | .tup _=> "tuple"
 |_=> ""
def Fy{F:Ñ}{p:PV}{n:String}{b:Bool}(h:vz p n=some b):ō F (.type (tyN p)) (.type n)=some b:=by
 have go:∀l:List (String×Bool),l.lookup n=some b->(n,b)∈l:=by
  intro l
  induction l with
  |nil=>intro z;cases z
  |cons x l ih=>
   obtain⟨s,c⟩:=x;rw[ś];split
   ·rename_i e;intro z;cases z;rw[eq_of_beq e];exact ĭ
   ·exact λz=>Ă _ (ih z)
 have key:∀x∈zR p,ō F (.type (tyN p)) (.type x.1)=some x.2:=by cases p<;>unfold zR<;>repeat' (first|refine List.forall_mem_cons.mpr ⟨?_,?_⟩|exact List.forall_mem_nil _|rfl|decide +kernel|kernel_rfl)
 exact key _ (go _ h)
def JD{c:Ctx}{F H:Hp}{V:Ģ}{Y:Ĝ}{p:PV}{v:Qqj}(s:Û F H)(r:rR K c V Y F H p v)(h:∃n b,vz p n=some b):W8 K.K H v (.type (tyN p)):=by
 obtain⟨n,b,h⟩:=h;cases p with
 |non=>cases r.non;rfl
 |bl _=>cases r.bl;rfl
 |int _=>cases r.int;rfl
 |str _=>cases r.str;rfl
 |lst ps=>obtain⟨a,vs,rfl,h1,h2⟩:=r.lst s;exact .inl ⟨rfl,vs,h1⟩
 |tup ps=>obtain⟨a,vs,rfl,h1,h2⟩:=r.tup s;exact .inr (.inl ⟨rfl,vs,h1⟩)
 |ins _ _ _=>simp[vz,zR] at h
 |xc _ _ _=>simp[vz,zR] at h
 |ty _=>simp[vz,zR] at h
 |cls _=>simp[vz,zR] at h
def Fz:List PV->Option PV
 | [p,.ty n]=>(vz p n).map .bl
 |_=>none
def FA:dM K (CC K.K) Fz:=by
 intro c F H V Y ps pv vs Q rel r e k;unfold Fz at e;split at e
 ·rename_i p n;obtain⟨v,u,rfl,r1,r2⟩:=Tb r;cases r2.ty;cases eb:vz p n with
  |none=>rw[eb] at e;cases e
  |some b=>rw[eb] at e;cases e;exact⟨_,b,JD rel.sub r1 ⟨n,b,eb⟩,Fy eb,k _ F H rel Ę Ę Đ.bl⟩
 ·cases e
noncomputable def qw:List PV->Option PV
 | [.lst ps]=>some (.tup ps)
 | [.tup ps]=>some (.tup ps)
 |_=>none
def FC(K:Ñ):List Qqj->Hp->VK->Prop:=λxs H Q=>∃p ys,xs=[.ref p]/\((Ϟ K H p ys/\∀l,H l=none->Q (.ref l) (upd H l (.tup ys)))\/(da K H p ys/\Q (.ref p) H))
def FD:ϔ X (.type "tuple") (FC X.K):=sg
def FE:dM K (FC K.K) qw:=by
 intro c F H V Y ps pv vs Q rel r e k;unfold qw at e;split at e
 ·cases e;obtain⟨v,rfl,r1⟩:=CA r;obtain⟨a,xs,rfl,h1,h2⟩:=r1.lst rel.sub;refine⟨a,xs,rfl,.inl ⟨h1,λl hl=>k _ _ _ (rel.alloc hl) (Û.upd (rel.sub.free hl)) (Û.upd hl) ?_⟩⟩;unfold Đ;exact⟨l,xs,rfl,da.of þ,ò.same (Û.upd (rel.sub.free hl)) _ _ h2⟩
 ·cases e;obtain⟨v,rfl,r1⟩:=CA r;have rQ:=r1;obtain⟨a,xs,rfl,h1,h2⟩:=r1.tup rel.sub;refine⟨a,xs,rfl,.inr ⟨h1,k _ F H rel Ę Ę ?_⟩⟩;rcases rQ with q|q
  ·exact q
  ·exact q.elim
 ·cases e
noncomputable def ϵ:List PV->Option (List Bool)
 | []=>some []
 | .bl b::ps=>(ϵ ps).map (b:: ·)
 |_::_=>none
theorem mB{F:Hp}:∀{ps:List PV} {vs:List Qqj} {bs:List Bool},ò K F ps vs->ϵ ps=some bs->vs=bs.map Qqj.bl
 | [],vs,bs,r,h=>by cases h;have r':=r.pr;cases r';rfl
 |p::ps,vs,bs,r,h=>by
  cases p with
  |bl b=>
   unfold ϵ at h;cases eb:ϵ ps with
   |none=>rw[eb] at h;cases h
   |some cs=>
    rw[eb] at h;cases h;have r':=r.pr;cases r' with
    |cons r1 t=>rw[vv r1,mB (ò.of t) eb];rfl
  |_=>simp[ϵ] at h
def mD:List PV->Option PV
 | [.lst ps]=>(ϵ ps).map λbs=>.bl (bs.all id)
 |_=>none
def zS:List PV->Option PV
 | [.lst ps]=>(ϵ ps).map λbs=>.bl (bs.any id)
 |_=>none
def qy:dM K (P5 K.K) mD:=by
 intro c F H V Y ps pv vs Q rel r e k;unfold mD at e;split at e
 ·rename_i ps;obtain⟨v,rfl,r1⟩:=CA r;obtain⟨a,xs,rfl,h1,h2⟩:=r1.lst rel.sub;cases eb:ϵ ps with
  |none=>rw[eb] at e;cases e
  |some bs=>rw[eb] at e;cases e;refine⟨bs,by rw[<-mB h2 eb];exact h1,k _ F H rel Ę Ę Đ.bl⟩
 ·cases e
def FF:dM K (P6 K.K) zS:=by
 intro c F H V Y ps pv vs Q rel r e k;unfold zS at e;split at e
 ·rename_i ps;obtain⟨v,rfl,r1⟩:=CA r;obtain⟨a,xs,rfl,h1,h2⟩:=r1.lst rel.sub;cases eb:ϵ ps with
  |none=>rw[eb] at e;cases e
  |some bs=>rw[eb] at e;cases e;refine⟨bs,by rw[<-mB h2 eb];exact h1,k _ F H rel Ę Ę Đ.bl⟩
 ·cases e
noncomputable def CG(_ j:Int):Bool:=decide (0<j) && decide (j.natAbs<1073741824)
def ll:List PV->Option PV
 | [.int i,.int j]=>if CG i j=true then some (.tup [.int (i / j),.int (i % j)]) else none
 |_=>none
def CI:List Qqj->Hp->VK->Prop:=λxs H Q=>∃i j,xs=[.int i,.int j]/\T5 i j/\∀p,H p=none->Q (.ref p) (upd H p (.tup [.int (i / j),.int (i % j)]))
def DN:ϔ X (.builtin "divmod") CI:=xu
def DO:dM K CI ll:=by
 intro c F H V Y ps pv vs Q rel r e k;unfold ll at e;split at e
 ·split at e
  ·rename_i i j hd;cases e;obtain⟨v,u,rfl,r1,r2⟩:=Tb r;cases r1.int;cases r2.int;unfold CG at hd;simp only[Ė,decide_eq_true_eq] at hd;refine⟨i,j,rfl,⟨hd.1,by lia⟩,λl hl=>k _ _ _ (rel.alloc hl) (Û.upd (rel.sub.free hl)) (Û.upd hl) ?_⟩;unfold Đ;exact⟨l,_,rfl,da.of þ,ò.cons Đ.int (ò.cons Đ.int ò.nil)⟩
  ·cases e
 ·cases e
end
section
variable{α:Type}{Y:Ĝ}{i j n k:Nat}{p:PV}{ps:List PV}{ma mb:M PV}{b:M Fl}{g:Tg}{gs:El}
@[simp] theorem Zaa:(Qg:M α) Y=.bad:=rfl
@[simp] theorem Zab:(RV.sh p).val=p:=rfl
@[simp] theorem Zac:(RV.ow ps).val=.lst ps:=rfl
@[simp] theorem Zad:(RV.sh p).slot=.sh p:=rfl
@[simp] theorem Zae:(RV.ow ps).slot=.ow ps:=rfl
@[simp] theorem Zaf:ci ma mb Y=(ma Y).bind fun p Y1=>match p with| .bl b=>if b=true then mb Y1 else .ok (.bl false) Y1|_=>.bad:=by
  unfold ci;congr
  funext p Y1
  cases p with
  |bl b=>cases b<;>rfl
  |_=>rfl
@[simp] theorem Zbv:ê i Y=(match Y[i]? with|some (.sh p)=>.ok p Y|some (.ow ps)=>.ok (.lst ps) (Y.set i (.sh (.lst ps)))|_=>.bad):=rfl
@[simp] theorem Zbw:Â i Y=(match Y[i]? with|some (.sh p)=>.ok p Y|some (.ow ps)=>.ok (.lst ps) Y|some (.bw ps)=>.ok (.lst ps) Y|some (.rc C ns ps)=>.ok (.ins C ns ps) Y|_=>.bad):=rfl
@[simp] theorem Zbx:bp i Y=(match Y[i]? with|some (.sh p)=>.ok (.sh p) Y|some (.ow ps)=>.ok (.ow ps) (Y.set i .no)|_=>.bad):=rfl
@[simp] theorem FG:gN i p Y=some (Y.set i (.sh p)):=rfl
@[simp] theorem UR:ň [] Y=some Y:= rfl
@[simp] theorem Tc:è g gs (p::ps) Y=(g p Y).bind λY1=>gs ps Y1:=rfl
@[simp] theorem Zby:gT n gs (.tup ps) Y=if ps.length=n then gs ps Y else none:=rfl
@[simp] theorem Zag{lo hi:Option Int}:Qp (.lst ps) lo hi=some (.ow (jn ps lo hi)):=rfl
@[simp] theorem Qs{mi:M (List PV)}:br mi g b Y=(mi Y).bind λitems Y1=>Ĩ g b items Y1:=rfl
@[simp] theorem Zah{mbd:M Fl}{as:List Slot}:Ğ n k mbd as=if as.length=n then FR.of (mbd (ş k as)) else .bad:=rfl
@[simp] theorem Zai{r:RV}:FR.of (.ok (.rt r) Y)=.ret r:=rfl
@[simp] theorem Zaj:FR.of (.ok .nx Y)=.ret (.sh .non):=rfl
@[simp] theorem Zak{x:PX}:FR.of (.exc x Y)=.exc x:=rfl
@[simp] theorem Zal:FR.of .bad=.bad:=rfl
@[simp] theorem US{as:List Slot}:ş k as=as++Ï (k-as.length) .no:=rfl
@[simp] theorem Zam:gW (.sh p)=some (.sh p):=rfl
@[simp] theorem Zan:gW (.ow ps)=some (.bw ps):=rfl
@[simp] theorem Zao:gW (.bw ps)=some (.bw ps):=rfl
@[simp] theorem Zap:av (.sh p)=.sh p:=rfl
@[simp] theorem Zaq:av (.ow ps)=.bw ps:=rfl
@[simp] theorem Zar:av (.bw ps)=.bw ps:=rfl
@[simp] theorem Zas{js:List Nat}{nl:Nat}:bt js nl Y=js.map (λ(j:Nat)=>av ((Y[j]?).getD .no))++Ï nl .no:=rfl
@[simp] theorem zT:ń i Y=(match Y[i]? with
  |some (.bw ps)=>.ok ps Y
  |some (.sh (.lst ps))=>.ok ps Y
  |some (.sh (.tup ps))=>.ok ps Y
  |some (.sh (.str z))=>.ok (z.cps.toList.map λc=>.str ⟨#[c]⟩) Y
  |some (.ow ps)=>.ok ps (Y.set i (.sh (.lst ps)))
  |_=>.bad):=rfl
@[simp] theorem W9{x y:Int}:Ą (.int x) (.int y)=some (~~~(x+y)):=rfl
@[simp] theorem Xa{x y:Int}:Ő (.int x) (.int y)=some (.int (x-y)):=rfl
@[simp] theorem Xb{x y:Int}:û (.int x) (.int y)=if Ĵ x y=true then some (.int (x*y)) else none:=rfl
@[simp] theorem JE{x y:Int}:Ļ (.int x) (.int y)=if gZ x y=true then some (.int (x.fdiv y)) else none:=rfl
@[simp] theorem cM{x y:Int}:ć (.int x) (.int y)=if xI x y=true then some (.int (x.fmod y)) else none:=rfl
@[simp] theorem JF{x y:Int}:cU (.int x) (.int y)=if xJ x y=true then some (.int (x ^ y.toNat)) else none:=rfl
@[simp] theorem Xc{x y:Int}:xK (.int x) (.int y)=if lg x y=true then some (.int (x*2 ^ y.toNat)) else none:=rfl
@[simp] theorem Xd{x y:Int}:gf (.int x) (.int y)=if qr x y=true then some (.int (x / 2 ^ y.toNat)) else none:=rfl
@[simp] theorem Xe{x:Int}:aS (.int x)=some (.int (-x)):=rfl
@[simp] theorem Zat{x y:Int}:sj (.int x) (.int y)=some (.bl (decide (x<y))):=rfl
@[simp] theorem Zau{x y:Int}:lh (.int x) (.int y)=some (.bl (decide (x<=y))):=rfl
@[simp] theorem Zav{x y:Int}:Qn (.int x) (.int y)=some (.bl (decide (y<x))):=rfl
@[simp] theorem Zaw{x y:Int}:Fu (.int x) (.int y)=some (.bl (decide (y<=x))):=rfl
@[simp] theorem Zax{x y:Int}:Ş (.int x) (.int y)=some (.bl (decide (x=y))):=by have h:tQ (.int x) (.int y)=decide (x=y):=rfl;rw[<-h];rfl
@[simp] theorem Zay{x y:Int}:bv (.int x) (.int y)=some (.bl (!decide (x=y))):=by have h:tQ (.int x) (.int y)=decide (x=y):=rfl;rw[<-h];rfl
@[simp] theorem Zaz{x y:Bool}:Ş (.bl x) (.bl y)=some (.bl (x== y)):=rfl
@[simp] theorem ZaA{x y:Bool}:bv (.bl x) (.bl y)=some (.bl (!(x== y))):=rfl
@[simp] theorem ZaB{p:PV}:my p .non=some (.bl (jS p)):=rfl
@[simp] theorem Xf{p:PV}:bX p .non=some (.bl (!jS p)):=rfl
@[simp] theorem ZaC{x:Int}:ã (.lst ps) (.int x)=qe ps x:=rfl
@[simp] theorem ZaD{x:Int}:ã (.tup ps) (.int x)=qe ps x:=rfl
@[simp] theorem vA:aZ [.lst ps]=some (.int ps.length):=rfl
@[simp] theorem Xg:aZ [.tup ps]=some (.int ps.length):=rfl
@[simp] theorem ZaE{x:Int}:JC [.int x]=some (.int (if x<0 then -x else x)):=rfl
@[simp] theorem UT:cj [.lst ps]=some (.ow ps):=rfl
@[simp] theorem UV:cj [.tup ps]=some (.ow ps):=rfl
@[simp] theorem Xh:qw [.lst ps]=some (.tup ps):=rfl
@[simp] theorem Xi:qw [.tup ps]=some (.tup ps):=rfl
@[simp] theorem ZaF{t:String}:Fz [p,.ty t]=(vz p t).map .bl:=rfl
@[simp] theorem Xj{x:Bool}:S9 (.bl x)=some x:=rfl
@[simp] theorem Xk{x:Int}:S9 (.int x)=some (x != 0):=rfl
@[simp] theorem Xl:S9 (.lst ps)=some (!ps.isEmpty):=rfl
@[simp] theorem FH(xs:List α)(n:Nat):qe xs (n:Int)=xs[n]?:= by
  unfold qe zE;rw[if_pos (by lia)];by_cases h:n<xs.length
  ·rw[if_pos (by lia)];simp
  ·rw[if_neg (by lia)];simp;lia
@[simp] theorem Xm(xs:List α)(n:Nat):qe xs (no_index (Ū n):Int)=xs[(no_index (Ū n):Nat)]?:= FH xs n
@[simp] theorem Td{x y:Int}:xI x y=decide (y≠0):=rfl
end
def ϙ{x y:Int}(h1: -(2 ^ 64)<x)(h2:x<2 ^ 64):Ĵ x y=true:=by unfold Ĵ;rw[decide_eq_true (by lia:x.natAbs<18446744073709551616)];rfl
def WC{x y:Int}(h1: -(2 ^ 64)<y)(h2:y<2 ^ 64):Ĵ x y=true:=by unfold Ĵ;rw[decide_eq_true (by lia:y.natAbs<18446744073709551616)];simp
def UW{x y:Int}(h1:bits x<=1048576)(h2:bits y<=1048576):Ĵ x y=true:=by unfold Ĵ;simp[h1,h2]
def xO{x y:Int}(h1:y≠0)(h2:bits y<=8000):gZ x y=true:=by unfold gZ;simp[h1,h2]
section
variable{g:Tg}{mb:M Fl}{mc mt:M Bool}{me:M PV}{Y:Ĝ}
theorem Ĕ{α:Type}(c f:α->PV)(I:Ĝ->Prop):∀(xs:List α) (Y:Ĝ) (ď:List PV),I Y->ď.length+xs.length<=16777216->
 (∀x∈xs,∀Y,I Y->∃Y1 Y2 Y3,g (c x) Y=some Y1/\mt Y1=.ok true Y2/\me Y2=.ok (f x) Y3/\I Y3)->Ķ g mt me (xs.map c) Y ď=some (ď++xs.map f)
 | [],Y,ď,_,_,_=>by simp[Ķ]
 |x::xs,Y,ď,h,hz,hs=>by obtain⟨Y1,Y2,Y3,h1,h2,h3,h4⟩:=hs x ĭ Y h;rw[ý,Ķ,h1];dsimp only;rw[h2];dsimp only;rw[h3];dsimp only;rw[if_pos (by simp at hz;lia),Ĕ c f I xs Y3 (ď ++ [f x]) h4 (by simp at hz ⊢;lia) λy hy=>hs y (Ă _ hy)];simp
def zU{β:Type}(st:β->Ĝ)(I:β->Prop)(μ:β->Nat)(hs:∀b,I b->mc (st b)=.ok false (st b)\/(mc (st b)=.ok true (st b)/\∃b',mb (st b)=.ok .nx (st b')/\I b'/\μ b' < μ b)){b:β}(h0:I b) :
 ∃b',ϻ mc mb (st b)=.ok .nx (st b')/\I b'/\mc (st b')=.ok false (st b'):=by
 have go:∀n b,μ b<=n->I b->∃b',ϻ mc mb (st b)=.ok .nx (st b')/\I b'/\mc (st b')=.ok false (st b'):=by
  intro n
  induction n with
  |zero=>
   intro b hn hi;rcases hs b hi with e|⟨e,b',_,_,hl⟩
   ·exact⟨b,by rw[gY,e];rfl,hi,e⟩
   ·lia
  |succ n ih=>
   intro b hn hi;rcases hs b hi with e|⟨e,b',e2,hi',hl⟩
   ·exact⟨b,by rw[gY,e];rfl,hi,e⟩
   ·obtain⟨b2,q1,q2⟩:=ih b' (by lia) hi';refine⟨b2,?_,q2⟩;rw[gY,e];simp only[Ŋ.aq,if_true,e2];exact q1
 exact go (μ b) b (õ _) h0
end
def cV(Q:String->Prop):List String->Prop
 | []=>True
 |c::cs=>Q c/\cV Q cs
theorem cV.get{Q:String->Prop}:∀{cs:List String} {C:String},cV Q cs->cs.contains C=true->Q C
 | [],_,_,h=>by simp at h
 |c::cs,C,⟨h1,h2⟩,h=>by
  by_cases e:C=c
  ·rw[e];exact h1
  ·refine h2.get ?_;rw[ke] at h;have:(C== c)=false:=by simpa using e
   rw[this,tZ] at h;exact h
section
variable{X:Cx}{cm:String->À}{K:KK}{E:Ģ->XK}{a b e o:Ð}{pos sy:Pos}{m mb:M PV}{f:Str}
theorem jH{F:Hp}:∀{fs:List (Str×Qqj)} {ps:List PV} {p:PV},ò K F ps (fs.map (·.2))->((fs.map (·.1)).zip ps).lookup f=some p->∃v,fs.lookup f=some v/\Đ K F p v
 | [],ps,p,_,h=>by simp at h
 |(g,v)::fs,ps,p,r,h=>by
  have r':=r.pr;rw[ý] at r';cases r' with
  |cons r1 t=>
   rename_i q qs;rw[ý,List.zip_cons_cons,ś] at h;rw[ś];cases hg:f== g with
   |true=>simp only[hg] at h;cases h;exact⟨v,rfl,r1⟩
   |false=>simp only[hg] at h;exact jH (ò.of t) h
theorem rR.ins{c:Ctx}{F H:Hp}{V:Ģ}{Y:Ĝ}{C:String}{ns:List Str}{ps:List PV}{v:Qqj}(s:Û F H)(h:rR K c V Y F H (.ins C ns ps) v):∃a dx fs,v=.ref a/\H a=some (.ins (K.cm C) dx fs)/\fs.map (·.1)=ns/\ò K F ps (fs.map (·.2)):=by
 rcases h with h|h
 ·unfold Đ at h;obtain⟨a,dx,fs,h1,h2,h3,h4⟩:=h;exact⟨a,dx,fs,h1,s _ _ h2,h3,h4⟩
 ·exact h
noncomputable def bK(cs:List String)(f:Str):PV->Option PV
 | .ins C ns ps=>if cs.contains C=true then(ns.zip ps).lookup f else none
 |_=>none
def dN(cs:List String)(WD:cV (λC=>nL X.K (cm C)/\ė X.K (cm C) f) cs)(he:PE X e (tR (kk X cm) E m))(hb:kB e f X.env (Ý e X.env)=Ý e X.env:=by rfl):PE X (.Attribute e f pos) (tV (kk X cm) E (gB (bK cs f) m)):=
 PE.wk (Pq he hb) fun V H Q ⟨c,F,Y,rel,h⟩=>⟨c,F,Y,rel,h.bind fun p Y1 v F1 H1 ë _ _ r1 h1=>by
   cases p with
   |ins C ns ps=>
    unfold bK at h1;dsimp only at h1;split at h1
    ·rename_i hc;obtain⟨a,dx,fs,rfl,q2,q3,q4⟩:=r1.ins ë.sub;cases el:(ns.zip ps).lookup f with
     |none=>rw[el] at h1;exact h1.elim
     |some q=>rw[el] at h1;subst q3;obtain⟨v,e1,e2⟩:=jH q4 el;obtain⟨k1,k2⟩:=WD.get hc;exact⟨a,_,dx,fs,v,rfl,q2,k1,k2,e1,h1 v F1 H1 ë Ę Ę e2⟩
    ·exact h1.elim
   |_=>exact h1.elim⟩
def FI(X:Cx)(cm:String->À)(CX:nh)(k n:Nat)(m:Str)(C:String)(mf:MF):Prop:=nL X.K (cm C)/\∃f fd ps,wU X.K (cm C) m f/\Ĉ X.prog X.w X.K X.mg X.base CX k f fd ps (ſ (kk X cm) n mf)/\Binds X.K fd ps []/\
 ∀{ps:List Slot},(∃r,mf ps=r/\∀z,r=z->z≠ .bad)->ps.length=n
def FJ(Q:String->MF->Prop):List (String×MF)->Prop
 | []=>True
 |(c,mf)::cs=>Q c mf/\FJ Q cs
theorem FJ.get{Q:String->MF->Prop}:∀{cs:List (String×MF)} {C:String} {mf:MF},FJ Q cs->cs.lookup C=some mf->Q C mf
 | [],_,_,_,h=>by simp at h
 |(c,g)::cs,C,mf,⟨h1,h2⟩,h=>by
  rw[ś] at h;cases hc:C== c with
  |true=>
   rw[hc] at h;cases h;have:C=c:=by simpa using hc
   rw[this];exact h1
  |false=>rw[hc] at h;exact h2.get h
def qz(m:Str)(gK:List (String×MF))(mo:M PV)(ms:M (List Slot)):M RV:=λY=>(mo Y).bind λp Y1=>match p with
 | .ins C ns ps=>match gK.lookup C with
   |some mf=>if ns.contains m=true then .bad else(ms Y1).bind λas Y2=>match mf (.sh (.ins C ns ps)::as) with
    | .ret r=>.ok r Y2
    | .exc x=>.exc x Y2
    | .bad=>.bad
   |none=>.bad
 |_=>.bad
theorem mE{m:Str}:∀{fs:List (Str×Qqj)},(fs.map (·.1)).contains m=false->fs.lookup m=none
 | [],_=>rfl
 |(g,v)::fs,h=>by rw[ý,ke,Bool.or_eq_false_iff] at h;rw[ś,h.1];exact mE h.2
variable{CX:nh}{k n:Nat}{Iq:Str}{gK:List (String×MF)}{ms:M (List Slot)}
def FK{c:Ctx}{F H:Hp}{V:Ģ}{Y:Ĝ}{Q:VK}(rel:ļ (kk X cm) c F H V Y)(h:aM (kk X cm) E (rO (kk X cm)) c F H V Q (qz Iq gK m ms Y))(Qt:FJ (λC mf=>FI X cm CX k n Iq C mf) gK) :
 aM (kk X cm) E (rV (kk X cm)) c F H V (λx H1=>∃a C dx fs g fd ps mf,x=.ref a/\H1 a=some (.ins C dx fs)/\nL X.K C/\wU X.K C Iq g/\fs.lookup Iq=none/\Ĉ X.prog X.w X.K X.mg X.base CX k g fd ps (ſ (kk X cm) n mf)/\Binds X.K fd ps []/\
  tA (kk X cm) E ms V H1 λvs H2=>ſ (kk X cm) n mf (.ref a::vs) H2 Q (E V)) (m Y):=
 aM.bind h λp Y1 v F1 H1 ë _ _ r1 h1=>by
  cases p with
  |ins C ns ps=>
   dsimp only at h1;cases el:gK.lookup C with
   |none=>rw[el] at h1;exact h1.elim
   |some mf=>
    rw[el] at h1;dsimp only at h1;split at h1
    ·exact h1.elim
    ·rename_i hn;obtain⟨k1,f,fd,qs,k2,k3,k4,k5⟩:=Qt.get el;have rQ:Đ (kk X cm) F1 (.ins C ns ps) v:=r1;have r2:=rQ;unfold Đ at r2;obtain⟨a,dx,fs,rfl,q2,q3,q4⟩:=r2;refine⟨a,_,dx,fs,f,fd,qs,mf,rfl,ë.sub _ _ q2,k1,k2,mE (by rw[q3];simpa using hn),k3,k4,c,F1,Y1,ë,aM.bind h1 λas Y2 vs F2 H2 ħ sF sH r3 h3=>?_⟩;exact qm (vs:=.ref a::vs) k5 ħ (.cons (show cg _ _ _ (.sh _) _ from Đ.same sF _ _ rQ) r3) h3
  |_=>exact h1.elim
def JG{pl:Sem Bool}(Qt:FJ (λC mf=>FI X cm CX k n Iq C mf) gK)(hr:Ϗ k X.A)(hx:ϴ CX X E)(he:PE X o (tV (kk X cm) E m))
 (ht:Ý (.Call (.Attribute o Iq sy) [] [] pos) X.env=(do
   let ov <-Ý o X.env
   fh sy.atName
   let (f,first) <-aG [ov] (getMethod ov Iq pl)
   callWith pos f first (Ŭ pos (å [] X.env)) (backToKw pos (keywordEach [] X.env))):=by rfl) :
 PE X (.Call (.Attribute o Iq sy) [] [] pos) (tO (kk X cm) E (qz Iq gK m Þ)):=by
 intro Ã s V H Q I ⟨c,F,Y,rel,h⟩;refine PySem.W.methodCall_KW (pl:=pl) (Ų (he Ã s V H _ I ⟨c,F,Y,rel,FK rel h Qt⟩) λu s1 ⟨x,H1,I1,rx,a,C,dx,fs,g,fd,ps,mf,ex,ea,cl,k2,l,k3,k4,q⟩=>?_) ht;subst ex;obtain rfl:u=ē a:=rx;refine zz I1 ea cl k2 l ?_;obtain⟨c1,F1,Y1,ë,q⟩:=q;exact PySem.W.callWith_K0 (first:=[.ref a]) I1.eY k2.kp (Cs (us:=[.ref a]) (vs:=[.ref a]) k3 hr k4 hx I1 (.cons rfl .nil) (q [] F1 H1 ë Ę Ę .nil))
noncomputable def putN(f:Str):List Str->List Str
 | []=>[f]
 |g::r=>if g=f then g::r else g::putN f r
noncomputable def vB(f:Str)(p:PV):List Str->List PV->List PV
 | [],_=>[p]
 |g::r,q::qs=>if g=f then p::qs else q::vB f p r qs
 |_::_,[]=>[]
theorem vC{F:Hp}{p:PV}{y:Qqj}(ry:Đ K F p y):∀{fs:List (Str×Qqj)} {ps:List PV},ò K F ps (fs.map (·.2))->(aX f y fs).map (·.1)=putN f (fs.map (·.1))/\ò K F (vB f p (fs.map (·.1)) ps) ((aX f y fs).map (·.2))
 | [],ps,r=>⟨rfl,ò.cons ry ò.nil⟩
 |(g,v)::fs,ps,r=>by
  have r':=r.pr;rw[ý] at r';cases r' with
  |cons r1 t=>
   rename_i q qs;unfold aX;rw[ý];unfold putN vB;by_cases hg:g=f
   ·rw[if_pos hg,if_pos hg,if_pos hg];exact⟨rfl,ò.cons ry (ò.of t)⟩
   ·rw[if_neg hg,if_neg hg,if_neg hg];obtain⟨h1,h2⟩:=vC ry (ò.of t);exact⟨by rw[ý,h1],ò.cons r1 h2⟩
@[simp] def lm(i:Nat)(cs:List String)(f:Str)(mv:M PV)(Y:Ĝ):Ŋ Fl:= (mv Y).bind fun p Y1=>match Y1[i]? with
  |some (.rc C ns ps)=>if cs.contains C=true/\ns.length<1000 then .ok .nx (Y1.set i (.rc C (putN f ns) (vB f p ns ps))) else .bad
  |_=>.bad
def bz{i:Nat}{x:Str}{px ck:Pos}(cs:List String)(WD:cV (λC=>nL X.K (cm C)/\ė X.K (cm C) f) cs)(ho:PE X (.Name x px) (se i))(he:PE X e (tV (kk X cm) E m))(hs:ai e (some (.Attribute (.Name x px) f ck)) pos.line X.env=ö false:=by rfl) :
 PS X (.Assign [.Attribute (.Name x px) f ck] e pos) (tS (kk X cm) E (lm i cs f m)):=PS.wk (Pr ho he hs) λD V H ⟨c,F,Y,rel,h⟩=>⟨c,F,Y,rel,Ź.bind h λp Y1 y F1 H1 ë s1 ry h1=>by
 cases e1:Y1[i]? with
 |none=>rw[e1] at h1;exact h1.elim
 |some sl=>
  rw[e1] at h1;cases sl with
  |rc C ns ps=>
   dsimp only at h1;split at h1
   ·rename_i hc;obtain⟨a,dx,fs,q1,q2,q3,q4,q5,q6,q7⟩:=ë.slot i _ e1;subst q5;obtain⟨k1,k2⟩:=WD.get hc.1;refine⟨.ref a,Ű q1,a,_,dx,fs,rfl,q2,k1,k2,by simpa using hc.2,?_⟩;obtain⟨z1,z2⟩:=vC (f:=f) (p:=p) ry q6;exact h1 V F1 _ (ë.write ⟨_,_,e1,Ű q1,rfl⟩ (Ű q1) ⟨a,dx,_,rfl,þ,q3,q4,z1,z2,q7⟩ λ_ z=>(Qqj.ref.inj z).symm) Ę
   ·exact h1.elim
  |_=>exact h1.elim⟩
inductive IR where
 |ok (ns:List Str) (ps:List PV)|exc (x:PX)|bad
abbrev MI:=List Slot->IR
noncomputable def IR.of:Ŋ Fl->IR
 | .ok .nx (.rc _ ns ps::_)=>.ok ns ps
 | .exc x _=>.exc x
 |_=>.bad
def dP(n k:Nat)(C:String)(mb:M Fl):MI:=λas=>if as.length+1=n then IR.of (mb (.rc C [] []::ş (k-1) as)) else .bad
structure Xn(a:À)(F H F' H':Hp):Prop where
 h:∀b u,b≠a->H b=some u->H' b=some u
 f:Û F F'
 sub:Û F' H'
 out:∀b,b≠a->H b≠none->F b=none->F' b=none
def ZaG(K:KK)(E:XK)(F H:Hp)(Q:VK)(a dx:À)(C:String):IR->Prop
 | .ok ns ps=>∀F' H' fs,Xn a F H F' H'->H' a=some (.ins (K.cm C) dx fs)->F' a=none->fs.map (·.1)=ns->ò K F' ps (fs.map (·.2))->Q .non H'
 | .exc x=>∀C' d F' H',Xn a F H F' H'->DL K F' x C' d->E C' d H'
 | .bad=>False
def Ir(K:KK)(n:Nat)(C:String)(mi:MI):Sp:=λvs H Q E=>∃F a dx lU as,vs=.ref a::lU/\as.length+1=n/\H a=some (.ins (K.cm C) dx [])/\F a=none/\Û F H/\Paired (cg K F H) as lU/\ZaG K E F H Q a dx C (mi as)
def JH(a dx:À)(C:String)(F H:Hp):Ctx:=⟨λb=>if b=a then none else H b,F,λb=>if b=a then none else(de F H).L b,λa' dx' C'=>a'=a/\dx'=dx/\C'=C⟩
def ļ.gri{V:Ģ}{Y:Ĝ}{a dx:À}{C:String}{F H F' H':Hp}(r:ļ K (JH a dx C F H) F' H' V Y):Xn a F H F' H':=
 ⟨λb u hb e=>r.base b u (by show(if b=a then none else H b)=_;rw[if_neg hb];exact e),r.f0,r.sub,λb hb h1 h2=>r.dY b (by show(if b=a then none else H b)≠none;rw[if_neg hb];exact h1) h2⟩
def ļ.Qu{F H:Hp}{N:List Str}{as:List Slot}{vs:List Qqj}{a dx:À}{C:String}(s:Û F H)(ha:H a=some (.ins (K.cm C) dx []))(hF:F a=none)(h:Paired (cg K F H) as vs) :
 ļ K (JH a dx C F H) F H (L2.start N (.ref a::vs)) (.rc C [] []::ş (N.length-1) as):=by
 have r0:=ļ.start (N:=N) (K:=K) s (as:= ~~~0::as) (vs:=.int 0::vs) (.cons (Đ.int (K:=K) (F:=F) (i:=0)) h);have est:L2.start N (.ref a::vs)=some (.ref a)::(L2.start N (.int 0::vs)).tail:=by unfold L2.start;simp
 have ZaH:(L2.start N (Qqj.int 0::vs)).tail.length=(ş (N.length-1) as).length:=by unfold L2.start ş;simp[Paired.length h];lia
 have tl:∀i:Nat,(L2.start N (.int 0::vs)).tail[i]?=(L2.start N (.int 0::vs))[i+1]?:= λi=>by simp
 have sp:∀i:Nat,(ş (N.length-1) as)[i]?=(ş N.length (~~~0::as))[i+1]?:= λi=>by unfold ş;simp only[kc,iF,ŋ];rw[show N.length-1-as.length=N.length-(as.length+1) by lia]
 have xP:∀(i:Nat) (s':Slot),(ş (N.length-1) as)[i]?=some s'->s'.own=false:=λi s' e=>by
  unfold ş at e;by_cases hi:i<as.length
  ·rw[ϧ hi] at e;obtain⟨v,_,h3⟩:=bI h e;exact(cg.slot h3).2
  ·rw[bc (by lia),fb] at e;split at e
   ·cases e;rfl
   ·cases e
 rw[est];refine⟨s,λb u e=>?_,Û.refl _,λ_ _ z=>z,λb u e=>?_,λb e=>?_,?_,λi s' e=>?_,λi j b h1 h2=>?_⟩
 ·have e':(if b=a then none else H b)=some u:=e;split at e'
  ·cases e'
  ·exact e'
 ·have e':(if b=a then none else(de F H).L b)=some u:=e;split at e'
  ·cases e'
  ·exact ef e'
 ·show(if b=a then none else(de F H).L b)=none;have e':(if b=a then none else H b)=none:=e;split
  ·rfl
  ·rename_i hb;rw[if_neg hb] at e';exact r0.lb b e'
 ·simp[ZaH]
 ·cases i with
  |zero=>cases e;exact⟨a,dx,[],rfl,ha,hF,by show(if a=a then none else H a)=none;rw[if_pos rfl],rfl,ò.nil,rfl,rfl,rfl⟩
  |succ i=>
   have e':(ş (N.length-1) as)[i]?=some s':=by simpa using e
   have q:=r0.slot (i+1) s' (by rw[<-sp];exact e');rw[<-tl] at q;show Ϲ K (JH a dx C F H) F H (((some (Qqj.ref a)::(L2.start N (.int 0::vs)).tail)[i+1]?).getD none) s';rw[iF];cases s' with
   |no=>trivial
   |sh p=>exact q
   |bw ps=>obtain⟨b,ws,q1,q2,q3⟩:=q;refine⟨b,ws,q1,?_,q3⟩;show(if b=a then none else(de F H).L b)=_;rw[if_neg (λz=>by have:=(ef q2).1;rw[z,ha] at this;cases this)];exact q2
   |ow ps=>have:=xP i _ e';cases this
   |rc C ns ps=>have:=xP i _ e';cases this
   |ot ps qs=>have:=xP i _ e';cases this
   |ol Ck=>have:=xP i _ e';cases this
 ·have at0:∀{i},ŧ F (some (.ref a)::(L2.start N (.int 0::vs)).tail) (Slot.rc C [] []::ş (N.length-1) as) i b→i=0:=fun{i} ⟨s',y,q1,_,q2⟩=>by
   have q2:=gP q2;cases i with
   |zero=>rfl
   |succ i=>have:=xP i s' (by simpa using q1);rw[this] at q2;cases q2
  rw[at0 h1,at0 h2]
end
section
variable{P:î}{w:ß}{K:Ñ}{cm:String->À}{mg:Str->Option Á}{base:Õ}{CX:nh}
def Te{x qual:Str}{st:Ö}{f:À}{fd:ě}{N ps:List Str}{k n j:Nat}{C:String}{mb:M Fl}{mi:MI}(F:Ei K x qual st f fd)(S:à N ps (Ô st))(hn:ps.length=n)(hj:N.length=j)(hf:mi=dP n j C mb)
 (c_:∀(ű:Á) (A:ð) (outer:List Env) (s:Å) (H:Hp) (E:XK),Ϗ k (A.deeper (ġ qual (Ô st) s.heap.objs.size f ű))→
   fH (bE CX P w K mg base N qual (Ô st) f ű A outer s H E) (Į st) (tS ⟨K,cm⟩ (λ_=>E) mb)):Ĉ P w K mg base CX (k+1) f fd ps (Ir ⟨K,cm⟩ n C mi):=by
 subst hn hj hf;obtain⟨oc,od,kV,iu,pm,an,ű,ct,rN,rfl,lk,et⟩:=F.ex;refine xv lk et S (λvs H Q E ⟨F,a,dx,lU,as,h1,h2,_,_,_,h3,_⟩=>by rw[h1,ŋ,<-Paired.length h3];exact h2) λA outer s H vs Q E hr zo=>?_;obtain⟨F,a,dx,lU,as,rfl,h2,h3,h4,h5,h6,h7⟩:=zo;refine⟨_,c_ ű A outer s H E hr,JH a dx C F H,F,_,ļ.Qu h5 h3 h4 h6,?_⟩;unfold dP at h7;rw[if_pos h2] at h7;cases e:mb (.rc C [] []::ş (N.length-1) as) with
 |bad=>rw[e] at h7;exact h7
 |exc x Y'=>rw[e] at h7;exact λV' C' d F' H' rel s1 q=>h7 C' d F' H' rel.gri q
 |ok fl Y'=>
  rw[e] at h7;cases fl with
  |nx=>
   cases Y' with
   |nil=>exact h7.elim
   |cons sl Y'=>
    cases sl with
    |rc C' ns qs=>intro V' F' H' rel s1;obtain⟨b,dy,fs,q1,q2,q3,q4,q5,q6,rfl,rfl,rfl⟩:=rel.slot 0 _ rfl;exact h7 F' H' fs rel.gri q2 q3 q5 q6
    |_=>exact h7.elim
  |bk=>exact h7.elim
  |ct=>exact h7.elim
  |rt r=>exact h7.elim
end
@[simp] def dQ(C:String)(mi:MI)(ms:M (List Slot))(Y:Ĝ):Ŋ PV:= (ms Y).bind fun as Y1=>match mi as with
  | .ok ns ps=>.ok (.ins C ns ps) Y1
  | .exc x=>.exc x Y1
  | .bad=>.bad
section
variable{X:Cx}{cm:String->À}{E:Ģ->XK}{e:Ð}{es:List Ð}{pos p:Pos}{CX:nh}{k n:Nat}{f:À}{fd:ě}{ps:List Str}{C:String}{mi:MI}{ms:M (List Slot)}{x:Str}
def FL{c:Ctx}{F1 H1:Hp}{V:Ģ}{Y1:Ĝ}{Q:VK}{as:List Slot}{vs:List Qqj}(hlen:(∃r,mi as=r/\∀z,r=z->z≠ .bad)->as.length+1=n)(ë:ļ (kk X cm) c F1 H1 V Y1)(r1:Paired (cg (kk X cm) F1 H1) as vs)
 (h:aM (kk X cm) E (rV (kk X cm)) c F1 H1 V Q (match mi as with| .ok ns ps=>.ok (.ins C ns ps) Y1| .exc x=>.exc x Y1| .bad=>.bad)) :
 ∀x dx,H1 x=none->H1 dx=none->dx≠x->Ir (kk X cm) n C mi (.ref x::vs) (upd (upd H1 dx (.own x)) x (.ins (cm C) dx [])) (λv H2=>v=.non/\Q (.ref x) H2) (E V):=by
 intro x dx hx hdx eW;have up:∀b u,H1 b=some u->upd (upd H1 dx (.own x)) x (.ins (cm C) dx []) b=some u:=λb u e=>by rw[ì (ø e hx),ì (ø e hdx)];exact e
 have JI:∀{F' H':Hp},Xn x F1 (upd (upd H1 dx (.own x)) x (.ins (cm C) dx [])) F' H'->Gr F1 H1 F' H':=fun{F' H'} g=>
  ⟨fun b u e=>g.h b u (ø e hx) (up b u e),g.f,g.sub,fun b hb hf=>by
    obtain⟨u,hu⟩:∃u,H1 b=some u:=by
     cases q:H1 b with
     |none=>exact absurd q hb
     |some u=>exact⟨u,rfl⟩
    exact g.out b (ø hu hx) (by rw[up b u hu];intro z;cases z) hf⟩
 refine⟨F1,x,dx,vs,as,rfl,?_,þ,ë.sub.free hx,λb u e=>up b u (ë.sub b u e),?_,?_⟩
 ·refine hlen ⟨_,rfl,λz hz hb=>?_⟩;rw[hz,hb] at h;exact h
 ·refine Paired.mono (λs v hs=>?_) r1;cases s with
  |sh p=>exact hs
  |bw qs=>obtain⟨b,ws,q1,q2,q3,q4⟩:=hs;exact⟨b,ws,q1,up b _ q2,q3,q4⟩
  |_=>exact hs.elim
 ·cases em:mi as with
  |bad=>rw[em] at h;exact h
  |exc y=>rw[em] at h;exact λC' d F' H' g rx=>h C' d F' H' (ë.call (JI g)) g.f rx
  |ok ns qs=>rw[em] at h;intro F' H' fs g OB hF' hn hr;have r2:=ë.call (JI g);have r3:=r2.freeze OB (ë.base.free hx) hF' (ë.qk (JI g).f (ë.fresh hx));refine⟨rfl,h _ _ H' r3 (g.f.trans (Û.upd hF')) (JI g).h ?_⟩;show Đ _ _ _ _;unfold Đ;exact⟨x,dx,fs,rfl,þ,hn,ò.same (Û.upd hF') qs _ hr⟩
def DP{Ã:List (À×Obj)}{V:Ģ}{H:Hp}{s:Å}{Q:VK}{us:List Á}{vs:List Qqj}{sp:Sp}{C:À}(M:Mk X.K C f)(F:Ĉ X.prog X.w X.K X.mg X.base CX k f fd ps sp)(hr:Ϗ (k+1) X.A)(hb:Binds X.K fd ps [])
 (hx:ϴ CX X E)(I:Inv X Ã V H s)(r:Ĳ vs us)
 (h:∀x dx,H x=none->H dx=none->dx≠x->sp (.ref x::vs) (upd (upd H dx (.own x)) x (.ins C dx [])) (λv H2=>v=.non/\Q (.ref x) H2) (E V)) :
 Î (Ó X.prog X.w) X.A (call (.ref C) us) (EP X Ã V Q) X.xe s:=by
 have hq:=h (s.heap.objs.size+1) s.heap.objs.size (I.hok.fresh (uu _)) (I.hok.fresh (õ _)) (ę (oR _));have I2:=Inv.made (C:=C) I;have r2:Ĳ (Qqj.ref (s.heap.objs.size+1)::vs) (ē (s.heap.objs.size+1)::us):=.cons rfl r;have hl:(ē (s.heap.objs.size+1)::us ++ []).length=ps.length:=by have e:=r2.length;rw[F.len _ _ _ _ hq] at e;rw[cx];exact e.symm
 have OE:=hb {s with heap:=(s.heap.push bW).push (cI C s.heap.objs.size)} (ē (s.heap.objs.size+1)::us) I2.eY hl;rw[cx] at OE;refine cG (EM (f:=f) I.eY M.makes M.init (beq_iff_eq.mp M.fn) (iL (F.run _ X.stack _ _ ⟨ē (s.heap.objs.size+1)::us,[]⟩ _ _ _ (E V) (hr.make C us []) (I2.env0.make C us []) OE r2 hq) λr s' Ig=>?_));cases r with
 |error e=>exact hx Ã V _ _ e s' I2 Ig
 |ok fl=>
  cases fl with
  |ret u=>obtain⟨v,H',I3,rv,ev,q3⟩:=I2.after Ig;subst ev;exact⟨rv,⟨Qqj.ref (s.heap.objs.size+1),H',I3,rfl,q3⟩⟩
  |next=>exact Š Ig
  |brk=>exact Š Ig
  |cont=>exact Š Ig
def cO{n k:Nat}{C:String}{mb:M Fl}{as:List Slot}(h:∃r,dP n k C mb as=r/\∀z,r=z->z≠ .bad):as.length+1=n:=by
 obtain⟨r,h1,h2⟩:=h;unfold dP at h1;by_cases hl:as.length+1=n
 ·exact hl
 ·rw[if_neg hl] at h1;exact absurd h1.symm (λz=>h2 .bad (by rw[<-h1]) rfl)
def mF(M:Mk X.K (cm C) f)(F:Ĉ X.prog X.w X.K X.mg X.base CX k f fd ps (Ir (kk X cm) n C mi))(hlen:∀{as:List Slot},(∃r,mi as=r/\∀z,r=z->z≠ .bad)->as.length+1=n)(hr:Ϗ (k+1) X.A)(hg:Gl X x)(hm:X.mg x=some (.ref (cm C)))(hb:Binds X.K fd ps [])(hx:ϴ CX X E)
 (ha:PA X (e::es) (tA (kk X cm) E ms))(oi:(x== ("__debug__" :Str))=false:=by decide)(he:å (e::es) X.env=(false,Ý e X.env)::å es X.env:=by exact ϗ rfl)(gJ:(Ŭ pos (å es X.env)).any (·.1)=false:=by rfl) :
 PE X (.Call (.Name x p) (e::es) [] pos) (tV (kk X cm) E (dQ C mi ms)):=by
 intro Ã s V H Q I ⟨c,F',Y,rel,h⟩;refine fk (fJ I hg hm ?_ oi);refine pN (h₀:= X.base) I.ok.mod.OU M.kp (Ų (ha pos Ã s V H (λvs H1=>∀x dx,H1 x=none->H1 dx=none->dx≠x->Ir (kk X cm) n C mi (.ref x::vs) (upd (upd H1 dx (.own x)) x (.ins (cm C) dx [])) (λv H2=>v=.non/\Q (.ref x) H2) (E V)) I
  ⟨c,F',Y,rel,aM.bind h λas Y1 vs F1 H1 ë _ _ r1 h1=>FL hlen ë r1 h1⟩) λus s1 ⟨vs,H1,I1,r,q⟩=>⟨I1.eY,?_⟩) he gJ
 exact DP M F hr hb hx I1 r q
end
def KQ(B:Õ)(e:À)(C:Á)(d:Option À)(fl:Á)(h:Õ):Prop:=
 ∃oe vs T oT ts,h.get? e=some oe/\(oe.cls=C/\oe.dict=d)/\oe.data=.fields vs/\vs[1]?=some (.ref T)/\B.get? T=none/\T≠e/\h.get? T=some oT/\oT.data=.fields ts/\ts[3]?=some fl
structure Moved(h h':Õ):Prop where
 up:h.UpToSlots h'
 there:∀b o,h.get? b=some o->∃o',h'.get? b=some o'
theorem Moved.trans{h h1 h2:Õ}(a:Moved h h1)(b:Moved h1 h2):Moved h h2:=⟨a.up.trans b.up,λc o e=>let ⟨o1,e1⟩:=a.there c o e;b.there c o1 e1⟩
def DQ(o:Obj)(f:Array Á->Array Á):(o.mapFields f).dict=o.dict:=by obtain⟨c,d,dt,sl⟩:=o;cases dt<;>rfl
section
variable{M:Model}{A:ð}{E:Á->Å->Prop}{s:Å}{B:Õ}{env:Env}{outer:List Env}{L e:À}{Q:Unit->Å->Prop}
def UX{oe:Obj}{vs:Array Á}{WE:Á}{SU:Bool}(Ef:A.frames=some (env::outer))(hl:s.heap.FunFrames B (env::outer))(hf:env.frame=some L)
 (he:s.heap.get? e=some oe)(SV:B.StaysIn s.heap)(WF:B.get? e=none)(hd:oe.data=.fields vs)(jO:1<vs.size)
 (k:∀h',B.StaysIn h'->h'.FunFrames B (env::outer)->KQ B e oe.cls oe.dict (Ŵ L) h'->Moved s.heap h'->Q () {s with heap:=h'}) :
 Î M A (do
  let a <-frameOf env
  let pl <-entryPlaceOf L SU
  let b <-BL WE a .none (Ŵ L) .none pl
  setField (.ref e) 1 b) Q E s:=by
 have out:e∉(env::outer).filterMap (·.frame):=λz=>by obtain⟨_,o,ho,hn⟩:=hl.mem z;rw[he] at ho;cases ho;exact hn vs hd
 refine Ê (wpAny_frameOf_fun Ef hl hf λg1 so=>?_);refine Ê (wpAny_entryPlaceOf λpl gJ=>?_);unfold BL newFields;refine Ê (iJ ?_ (gJ.sizeOk5 _ _ _ _ _));have e1:g1.get? e=some oe:=(so.2.1 e out).trans he;have b1:B.StaysIn g1:=λb o q=>(so.2.1 b λz=>by rw[(hl.mem z).1] at q;cases q).trans (SV b o q);generalize hnw:([WE,ē L,.none,Ŵ L,.none]++(if pl.isEmpty then Ï 6 ϝ else pl))=nw;have n3:nw.toArray[3]?=some (Ŵ L):=by rw[<-hnw];simp
 dsimp only;have e2:=ï (h:=g1) {cls:=.type "traceback",dict:=none,data:=.fields nw.toArray} e1;refine kE e2 hd jO ?_;have ne:g1.objs.size≠e:=bf (ó e1);have d3:=fw hd (·.setIfInBounds 1 (ē g1.objs.size));have e3:=fv (kN (·.setIfInBounds 1 (ē g1.objs.size))) e2 (kO d3);have kp:∀b o,b≠e->g1.get? b=some o->((g1.push {cls:=.type "traceback",dict:=none,data:=.fields nw.toArray}).update e (kN (·.setIfInBounds 1 (ē g1.objs.size)))).get? b=some o:=λb o hb q=>by rw[iV _ _ (ĥ hb)];exact ï _ q
 have t3:((g1.push {cls:=.type "traceback",dict:=none,data:=.fields nw.toArray}).update e (kN (·.setIfInBounds 1 (ē g1.objs.size)))).get? g1.objs.size=some {cls:=.type "traceback",dict:=none,data:=.fields nw.toArray}:=by rw[iV _ _ (ĥ ne)];exact Ħ g1 rfl
 have nr:∀b o,s.heap.get? b=some o->(∀ws,o.data≠ .fields ws)->b≠e:=λb o q hn z=>by rw[z,he] at q;cases q;exact hn vs hd
 refine k _ (λb o q=>kp b o (λz=>by rw[z,WF] at q;cases q) (b1 b o q)) (hl.of_keeps λb o q hn=>?_) ?_ ⟨λb o q hn=>?_,λb o q=>?_⟩
 ·obtain⟨sl,z⟩:=so.2.2 b o q;exact⟨_,kp b _ (nr b o q hn) z,rfl⟩
 ·exact⟨_,_,g1.objs.size,_,_,e3,⟨Obj.cls_mapFields _ _,DQ _ _⟩,d3,by simp[jO],b1.fresh,ne,t3,rfl,n3⟩
 ·obtain⟨sl,z⟩:=so.2.2 b o q;exact⟨sl,kp b _ (nr b o q hn) z⟩
 ·obtain⟨sl,z⟩:=so.2.2 b o q;by_cases hb:b=e
  ·rw[hb];exact⟨_,e3⟩
  ·exact⟨_,kp b _ hb z⟩
def JJ{oe:Obj}{vs:Array Á}(Ef:A.frames=some (env::outer))(hl:s.heap.FunFrames B (env::outer))(hf:env.frame=some L)(he:s.heap.get? e=some oe)(SV:B.StaysIn s.heap)(WF:B.get? e=none)
 (hd:oe.data=.fields vs)(h1:vs[1]?=some .none)(k:∀h',B.StaysIn h'->h'.FunFrames B (env::outer)->KQ B e oe.cls oe.dict (Ŵ L) h'->Moved s.heap h'->Q () {s with heap:=h'}) :
 Î M A (fq (.ref e) env) Q E s:=by
 unfold fq;simp only[hf];refine Ê (ό he hd h1 ?_);rw[if_neg (by decide)];exact UX Ef hl hf he SV WF hd (om.mp h1).1 k
def FM{C:Á}{d:Option À}(Ef:A.frames=some (env::outer))(hl:s.heap.FunFrames B (env::outer))(hf:env.frame=some L)(ht:KQ B e C d .none s.heap)(SV:B.StaysIn s.heap)(WF:B.get? e=none)
 (k:∀h',B.StaysIn h'->h'.FunFrames B (env::outer)->KQ B e C d (Ŵ L) h'->Moved s.heap h'->Q () {s with heap:=h'}):Î M A (fq (.ref e) env) Q E s:=by
 obtain⟨oe,vs,T,oT,ts,he,⟨rfl,rfl⟩,hd,h1,hT,Yb,Km,ID,h3⟩:=ht;unfold fq;simp only[hf];refine Ê (ό he hd h1 ?_);rw[if_pos (show(ē T != ϝ)=true by simp)];refine Ê (ό Km ID h3 ?_);rw[if_neg (show ¬((ϝ== Ŵ L)=true) by simp[Ŵ])];refine Ê (kE Km ID (om.mp h3).1 ?_);have Ih:∀b,b≠T->(s.heap.update T (kN (·.setIfInBounds 3 ϝ))).get? b=s.heap.get? b:=λb hb=>iV _ _ (ĥ hb);have nr:∀b o,s.heap.get? b=some o->(∀ws,o.data≠ .fields ws)->b≠T:=λb o q hn z=>by rw[z,Km] at q;cases q;exact hn ts ID
 refine UX Ef (hl.of_keeps λb o q hn=>⟨o,(Ih b (nr b o q hn)).trans q,rfl⟩) hf ((Ih e (ĥ Yb)).trans he) (λb o q=>(Ih b λz=>by rw[z,hT] at q;cases q).trans (SV b o q)) WF hd (om.mp h1).1
  λh' x1 x2 x3 x4=>k h' x1 x2 x3 (Moved.trans ⟨λb o q hn=>⟨o.slots,(Ih b (nr b o q hn)).trans q⟩,λb o q=>?_⟩ x4)
 by_cases hb:b=T
 ·rw[hb];exact⟨_,fv _ Km (kO (fw ID _))⟩
 ·exact⟨o,(Ih b hb).trans q⟩
def pU{C fl:Á}{d:Option À}{l:List Env}(SV:B.StaysIn s.heap)(hl:s.heap.FunFrames B l)(ht:KQ B e C d fl s.heap)
 (k:∀h',B.StaysIn h'->h'.FunFrames B l->KQ B e C d .none h'->Moved s.heap h'->Q () {s with heap:=h'}):Î M A (setFlight (.ref e) none) Q E s:=by
 obtain⟨oe,vs,T,oT,ts,he,hc,hd,h1,hT,Yb,Km,ID,h3⟩:=ht;have z3:3<ts.size:=(om.mp h3).1;have Ih:∀b,b≠T->(s.heap.update T (kN (·.setIfInBounds 3 ((none:Option À).elim ϝ λf=>Ŵ f)))).get? b=s.heap.get? b:=λb hb=>iV _ _ (ĥ hb);have nr:∀b o,s.heap.get? b=some o->(∀ws,o.data≠ .fields ws)->b≠T:=λb o q hn z=>by rw[z,Km] at q;cases q;exact hn ts ID
 unfold setFlight;refine Ê (ό he hd h1 ?_);rw[if_pos (show(ē T != ϝ)=true by simp)];refine kE Km ID z3 (k _ (λb o q=>(Ih b λz=>by rw[z,hT] at q;cases q).trans (SV b o q)) (hl.of_keeps λb o q hn=>⟨o,(Ih b (nr b o q hn)).trans q,rfl⟩) ?_ ⟨λb o q hn=>⟨o.slots,(Ih b (nr b o q hn)).trans q⟩,λb o q=>?_⟩)
 rotate_left
 ·by_cases hb:b=T
  ·rw[hb];exact⟨_,fv _ Km (kO (fw ID _))⟩
  ·exact⟨o,(Ih b hb).trans q⟩
 exact⟨oe,vs,T,_,_,(Ih e (ĥ Yb)).trans he,hc,hd,h1,hT,Yb,fv _ Km (kO (fw ID _)),fw ID _,by simp[z3]⟩
end
def xQ{P:î}{w:ß}{H:Hp}{h:Õ}{a:À}{o:HO}(x:ϓ P w H h a o):∃ob,h.get? a=some ob:=by
 cases o with
 |lst xs=>obtain⟨_,_,_,_,e⟩:=x;exact⟨_,e⟩
 |tup xs=>obtain⟨_,_,_,ob,e,_⟩:=x;exact⟨_,e⟩
 |dK eZ=>obtain⟨_,_,_,_,ob,_,_,e,_⟩:=x;exact⟨_,e⟩
 |dT eZ=>obtain⟨_,_,_,_,ob,_,_,e,_⟩:=x;exact⟨_,e⟩
 |set S n=>obtain⟨ob,_,_,_,e,_⟩:=x;exact⟨_,e⟩
 |ins C dx fs=>obtain⟨_,_,_,e,_⟩:=x;exact⟨_,e⟩
 |own y=>exact x
 |xd fs=>obtain⟨_,⟨ob,_,_,e,_⟩,_⟩:=x;exact⟨_,e⟩
 |rng lo hi=>obtain⟨_,_,_,e⟩:=x;exact⟨_,e⟩
 |dY ob u=>obtain⟨e,_⟩:=x;exact⟨_,e⟩
 |gK q=>obtain⟨_,e,_⟩:=x;exact⟨_,e⟩
 |B3 q=>obtain⟨c,o,_,_,z,e,_⟩:=x;cases z;exact⟨_,e⟩
 |met f y=>exact⟨_,(show h.get? a=some _ from x)⟩
 |ext φ=>obtain⟨_,e,_⟩:=x;exact e
def eD.sub{P:î}{w:ß}{H:Hp}{h B:Õ}(x:eD P w H h)(k:∀b o u,H b=some u->h.get? b=some o->B.get? b=some o):eD P w H B:=λa o e=>
 (x a o e).stay (fun b u hb q=>by
   rcases hb with rfl|hb
   ·exact k _ _ _ e q
   ·exact k _ _ _ hb q) (λ_ q=>q) λ_ _ q=>q
structure UnX(fs:List À)(H H':Hp)(h B h':Õ):Prop where
 keep:∀b o,h.get? b=some o->H b=none->b∉fs->B.get? b=some o
 slot:∀b o,h.get? b=some o->H b=none->b∈fs->∃sl,h'.get? b=some {o with slots:=sl}
 free:∀b o,h.get? b=some o->H b=none->H' b=none
 there:∀b o,h.get? b=some o->∃o',h'.get? b=some o'
 tups:∀b xs,H b=some (.tup xs)->H' b=some (.tup xs)
 fG:∀b o u,H b=some (.dY o u)->H' b=some (.dY o u)
 dZ:∀b q,H b=some (.gK q)->H' b=some (.gK q)
def UnX.un{fs:List À}{H H':Hp}{h B h':Õ}(u:UnX fs H H' h B h')(k:B.StaysIn h'):Un fs [] H H' h h':=
 ⟨λb o e n hb _=>k b o (u.keep b o e n hb),λb o e n hb _=>u.slot b o e n hb,λb o e n _=>u.free b o e n,λb o e _=>u.there b o e,u.tups,u.fG,u.dZ⟩
structure zf(P:î)(w:ß)(outer:List Env)(H:Hp)(s:Å)(ea:À)(C:Á)(d:Option À)(fl:Á)(H':Hp)(B:Õ)(s':Å):Prop where
 os:s'.os=s.os
 bare:bQ s'.gens
 st:B.StaysIn s'.heap
 en:B.get? ea=none
 fr:s'.heap.FunFrames B outer
 tr:KQ B ea C d fl s'.heap
 hok:eD P w H' B
 un:UnX (ng outer) H H' s.heap B s'.heap
 no:H' ea=none
 new:s.heap.get? ea=none
def zf.move{P:î}{w:ß}{outer:List Env}{H:Hp}{s s':Å}{ea:À}{C fl fl':Á}{d:Option À}{H':Hp}{B h':Õ}(l:zf P w outer H s ea C d fl H' B s')(st:B.StaysIn h')(fr:h'.FunFrames B outer)(tr:KQ B ea C d fl' h')(mv:Moved s'.heap h') :
 zf P w outer H s ea C d fl' H' B {s' with heap:=h'}:=
 ⟨l.os,l.bare,st,l.en,fr,tr,l.hok,⟨l.un.keep,fun b o q n hb=>by
   obtain⟨sl,q2⟩:=l.un.slot b o q n hb;obtain⟨_,o',q3,hn⟩:=l.fr.mem hb;rw[q2] at q3;cases q3;obtain⟨UY,q3⟩:=mv.up b _ q2 hn;exact⟨UY,q3⟩,l.un.free,λb o q=>by
   obtain⟨o2,q2⟩:=l.un.there b o q;exact mv.there b o2 q2,l.un.tups,l.un.fG,l.un.dZ⟩,l.no,l.new⟩
def ż(P:î)(w:ß):nh:=λouter H s E e s'=>∃ea C d H' B,e=.ref ea/\zf P w outer H s ea C d .none H' B s'/\E C d H'
def sS{P:î}{w:ß}{outer:List Env}{H:Hp}{s s':Å}{e:Á}(h:ż P w outer H s (λ_ _ _=>False) e s'):False:=by obtain⟨_,_,_,_,_,_,_,h⟩:=h;exact h
def Ϣ{P:î}{w:ß}{X:Cx}:ϴ (ż P w) X EF:=λ_ _ _ _ _ _ _ h=>(sS h).elim
section
variable{P:î}{w:ß}{K:Ñ}{mg:Str->Option Á}{base:Õ}{N:List Str}{qual:Str}{scope:ą}{f:À}{ű:Á}{A:ð}{outer:List Env}{s₀:Å}{H₀:Hp}{E:XK}
def ā:ϴ (ż P w) (bE (ż P w) P w K mg base N qual scope f ű A outer s₀ H₀ E) (λ_=>E):=by
 intro Ã V H s e s' I h;obtain⟨ea,C,d,H',B,rfl,l,hE⟩:=h;have Ef:(A.deeper (ġ qual scope s₀.heap.objs.size f ű)).frames=some (ġ qual scope s₀.heap.objs.size f ű::outer):=I.ok.frames;show Î _ _ (leaving _ _) _ _ s';unfold leaving;refine Ê (FM Ef l.fr rfl l.tr l.st l.en λh1 x1 x2 x3 x4=>?_);refine pU (s:={s' with heap:=h1}) x1 x2 x3 λh2 y1 y2 y3 y4=>?_;obtain⟨_,_,y2'⟩:=y2;have mv:=x4.trans y4;have Io:∀b o,s₀.heap.get? b=some o->b∉ng outer->b∉ng (ġ qual scope s₀.heap.objs.size f ű::outer):=λb o q hb z=>by
  rcases Ā.mp (show b∈s₀.heap.objs.size::ng outer from z) with z|z
  ·exact absurd (ó q) (by rw[z];exact ų _)
  ·exact hb z
 have inL:∀b,b∈ng outer->b∈ng (ġ qual scope s₀.heap.objs.size f ű::outer):=λb z=>Ă _ z;refine⟨ea,C,d,H',B,rfl,⟨l.os.trans I.os,l.bare,y1,l.en,y2',y3,l.hok,⟨λb o q n hb=>?_,λb o q n hb=>?_,λb o q n=>?_,λb o q=>?_,λb xs q=>l.un.tups b xs (I.base.tups b xs q),λb o u q=>l.un.fG b o u (I.base.fG b o u q),λb ps q=>?_⟩,l.no,?_⟩,hE⟩
 ·exact l.un.keep b o (I.base.keep b o q n hb (by simp[bE])) (I.base.free b o q n (by simp[bE])) (Io b o q hb)
 ·obtain⟨sl,q1⟩:=I.base.slot b o q n hb (by simp[bE]);obtain⟨Du,q2⟩:=l.un.slot b _ q1 (I.base.free b o q n (by simp[bE])) (inL b hb);have nf:∀vs,o.data≠ .fields vs:=by
   obtain⟨_,o',q3,hn⟩:=l.fr.mem (inL b hb);rw[q2] at q3;cases q3;exact hn
  obtain⟨UY,q3⟩:=mv.up b _ q2 nf;exact⟨UY,q3⟩
 ·obtain⟨o1,q1⟩:=I.base.there b o q (by simp[bE]);exact l.un.free b o1 q1 (I.base.free b o q n (by simp[bE]))
 ·obtain⟨o1,q1⟩:=I.base.there b o q (by simp[bE]);obtain⟨o2,q2⟩:=l.un.there b o1 q1;exact mv.there b o2 q2
 ·exact l.un.dZ b ps (I.base.dZ b ps q)
 ·cases q:s₀.heap.get? ea with
  |none=>rfl
  |some o=>obtain⟨o1,q1⟩:=I.base.there ea o q (by simp[bE]);rw[l.new] at q1;cases q1
def Qw{Ã:List (À×Obj)}{V:Ģ}{H:Hp}{s:Å}{e:À}{oe:Obj}{vs:Array Á}(I:Inv (bE (ż P w) P w K mg base N qual scope f ű A outer s₀ H₀ E) Ã V H s)
 (he:s.heap.get? e=some oe)(hd:oe.data=.fields vs)(h1:vs[1]?=some .none)(hn:H e=none)(zb:s₀.heap.get? e=none)(hE:E oe.cls oe.dict H) :
 (bE (ż P w) P w K mg base N qual scope f ű A outer s₀ H₀ E).xe (.ref e) s:=by
 have Ef:(A.deeper (ġ qual scope s₀.heap.objs.size f ű)).frames=some (ġ qual scope s₀.heap.objs.size f ű::outer):=I.ok.frames;have st:s.heap.FunFrames base (ġ qual scope s₀.heap.objs.size f ű::outer):=I.stack;have nof:e∉ng (ġ qual scope s₀.heap.objs.size f ű::outer):=λz=>by obtain⟨_,o,q,hn⟩:=st.mem z;rw[he] at q;cases q;exact hn vs hd
 have Tz:∀env∈(ġ qual scope s₀.heap.objs.size f ű::outer),∀a,env.frame=some a->a∈e::ng (ġ qual scope s₀.heap.objs.size f ű::outer):=λenv h1 a h2=>Ă _ (oH.mpr ⟨env,h1,h2⟩);have hl:s.heap.FunFrames (kR s.heap (e::ng (ġ qual scope s₀.heap.objs.size f ű::outer))) (ġ qual scope s₀.heap.objs.size f ű::outer):=PySem.W.funFrames_hide st Tz;have hB:∀b o,s.heap.get? b=some o->b≠e->b∉ng (ġ qual scope s₀.heap.objs.size f ű::outer)->(kR s.heap (e::ng (ġ qual scope s₀.heap.objs.size f ű::outer))).get? b=some o:=λb o q h1 h2=>
  BW _ q λz=>(Ā.mp z).elim h1 h2
 have Io:∀b o,s₀.heap.get? b=some o->b∉ng outer->b∉ng (ġ qual scope s₀.heap.objs.size f ű::outer):=λb o q hb z=>by
  rcases Ā.mp (show b∈s₀.heap.objs.size::ng outer from z) with z|z
  ·exact absurd (ó q) (by rw[z];exact ų _)
  ·exact hb z
 have ne0:∀b o,s₀.heap.get? b=some o->b≠e:=λb o q z=>by rw[z,zb] at q;cases q
 have kb:(kR s.heap (e::ng (ġ qual scope s₀.heap.objs.size f ű::outer))).StaysIn s.heap:=λb o q=>BX _ q;have en:(kR s.heap (e::ng (ġ qual scope s₀.heap.objs.size f ű::outer))).get? e=none:=BY _ ĭ;show Î _ _ (leaving _ _) _ _ s;unfold leaving;refine Ê (JJ Ef hl rfl he kb en hd h1 λg1 x1 x2 x3 x4=>?_);refine pU (s:={s with heap:=g1}) x1 x2 x3 λg2 y1 y2 y3 y4=>?_;obtain⟨_,_,y2'⟩:=y2;have mv:=x4.trans y4;refine⟨e,oe.cls,oe.dict,H,_,rfl,⟨I.os,I.bare,y1,en,y2',y3,?_,⟨λb o q n hb=>?_,λb o q n hb=>?_,λb o q n=>?_,λb o q=>?_,I.base.tups,I.base.fG,I.base.dZ⟩,hn,zb⟩,hE⟩
 ·refine eD.sub I.hok λb o u hu q=>hB b o q (λz=>by rw[z,hn] at hu;cases hu) λz=>?_;have:=I.pP b z;rw[hu] at this;cases this
 ·exact hB b o (I.base.keep b o q n hb (by simp[bE])) (ne0 b o q) (Io b o q hb)
 ·obtain⟨sl,q1⟩:=I.base.slot b o q n hb (by simp[bE]);have nf:∀vs,o.data≠ .fields vs:=by
   obtain⟨_,o',q3,hn⟩:=st.mem (Ă _ hb);rw[q1] at q3;cases q3;exact hn
  obtain⟨UY,q3⟩:=mv.up b _ q1 nf;exact⟨UY,q3⟩
 ·exact I.base.free b o q n (by simp[bE])
 ·obtain⟨o1,q1⟩:=I.base.there b o q (by simp[bE]);exact mv.there b o1 q1
end
noncomputable abbrev CJ:List Á:=[.type "ValueError",.type "Exception",.type "BaseException",.type "object"]
abbrev Qx:String:= "ValueError.__new__"
section
variable{K:Ñ}{h:Õ}{C:À}{SW:List Á}{rS:String}
def Qy(X:K.In h)(q:fB K C SW rS=true) :
 ∃bm N nm qn bs hd sn sub ab col dd k0 k1 k2 k3 k5 mN,h.get? C=some (excClassObj nm qn C N bs bm hd sn sub ab col dd k0 k1 k2 k3 k5 rS)/\h.Ns N mN/\mN "__init__" =none/\OwnTail h SW bm:=by
 unfold fB at q;split at q
 case h_2=>cases q
 rename_i dd cd sl ho;split at q
 case h_2=>cases q
 rename_i C1 bm k0 k1 k2 k3 n1 k5 e1 e2;simp only[Ė,beq_iff_eq,Bool.not_eq_true'] at q;obtain⟨⟨⟨⟨⟨z1,z2⟩,z3⟩,z4⟩,z5⟩,z6⟩:=q;subst z1 z2;obtain⟨nm,bs,mro,ns,qn,hd,sn,sub,ab,col,del⟩:=cd;dsimp only at e1 z3 z5 z6;subst e1 z3;obtain⟨sll⟩:=sl;dsimp only at e2;subst e2;exact⟨bm,ns,nm,qn,bs,hd,sn,sub,ab,col,dd,k0,k1,k2,k3,k5,_,X _ _ ho,.of_isNs (PySem.W.isNs_of_in X z5),PySem.W.nsMap_none_of_in X z5 z6,B1 X z4⟩
end
def vD(X:Cx)(E:Ģ->XK):Prop:=∀(Ã:List (À×Obj)) (V:Ģ) (H:Hp) (s:Å) (e:À) (oe:Obj) (vs:Array Á),Inv X Ã V H s->s.heap.get? e=some oe->oe.data=.fields vs->vs[1]?=some .none->H e=none->
 X.s₀.heap.get? e=none->E V oe.cls oe.dict H->X.xe (.ref e) s
def vE{P:î}{w:ß}{K:Ñ}{mg:Str->Option Á}{base:Õ}{N:List Str}{qual:Str}{scope:ą}{f:À}{ű:Á}{A:ð}{outer:List Env}{s₀:Å}{H₀:Hp}{E:XK} :
 vD (bE (ż P w) P w K mg base N qual scope f ű A outer s₀ H₀ E) (λ_=>E):=λ_ _ _ _ _ _ _ I he hd h1 hn zb hE=>Qw I he hd h1 hn zb hE
@[simp] def zV(C:String)(Y:Ĝ):Ŋ Fl:= .exc ⟨C,[],[]⟩ Y
section
variable{X:Cx}{cm:String->À}{E:Ģ->XK}{x:Str}{C:String}{np jp pos:Pos}
def vF{P:î}{w:ß}{H:Hp}{h:Õ}{e:À}(k:eD P w H h)(q:h.get? e=none):H e=none:=by
 cases z:H e with
 |none=>rfl
 |some u=>obtain⟨o,ho⟩:=xQ (k e u z);rw[q] at ho;cases ho
def Inv.UZ{Ã:List (À×Obj)}{V:Ģ}{H:Hp}{s:Å}{e:À}(I:Inv X Ã V H s)(OG:X.ex=[])(q:s.heap.get? e=none):X.s₀.heap.get? e=none:=by
 cases z:X.s₀.heap.get? e with
 |none=>rfl
 |some o=>obtain⟨o1,q1⟩:=I.base.there e o z (by rw[OG];simp);rw[q] at q1;cases q1
def xR(hc:X.calm=true)(OG:X.ex=[])(hr:vD X E)(hg:Gl X x)(hm:X.mg x=some (.ref (cm C)))(q:fB X.K (cm C) CJ Qx=true)(oi:(x== ("__debug__" :Str))=false:=by decide) :
 PS X (.Raise (some (.Call (.Name x np) [] [] jp)) none pos) (tS (kk X cm) E (zV C)):=by
 intro Ã s V H D I ⟨c,F,Y,rel,h⟩;obtain⟨bm,N,nm,qn,bs,hd,sn,sub,ab,col,dd,k0,k1,k2,k3,k5,mN,hC,hN,hni,T⟩:=Qy I.eY q;refine wpAny_Raise_call_subT (C:=cm C) (nm:=nm) (q:=qn) (N:=N) (bs:=bs) (bm:=bm) (hdct:=hd) (sn:=sn) (sub:=sub) (ab:=ab) (col:=col) (dd:=dd) (k0:=k0) (k1:=k1) (k2:=k2) (k3:=k3) (k5:=k5)
  BM (mN:=mN) (T.hasType (by decide)) (I.ok.hd hc) rfl hni (fJ I hg hm ⟨rfl,?_⟩ oi)
 refine evalArgs_empty ⟨rfl,cA _,hC,hN,T,λh' e hx=>?_⟩;obtain⟨t,he,_,_⟩:=hx.there;have I2:Inv X Ã V H {s with heap:=h'}:=I.kept (t':=s.toks) hx.keeps;exact hr Ã V H _ e _ _ I2 he rfl rfl (vF I.hok hx.new) (Inv.UZ I OG hx.new) (h V _ _ F H rel Ę ⟨rfl,[],.inl ⟨rfl,rfl⟩,rfl,ò.nil⟩)
end
section
variable{M:Model}{A:ð}{E:Á->Å->Prop}{s:Å}{K:Ñ}{e C D:À}{oe:Obj}{b:Bool}{Q:Bool->Å->Prop}
def sT(X:K.In s.heap)(hk:fC K (.ref C) (.ref D)=some b)(hx:dG K D (.type "BaseException")=some true)(he:s.heap.get? e=some oe)(hc:oe.cls=.ref C)(hq:Q b s):Î M A (excMatches (.ref e) (.ref D)) Q E s:=by
 obtain⟨l1,l2,l3⟩:=PySem.W.kit_cls (M:=M) X hk;have l4:=iY (M:=M) X hx;have f:=tc_notTuple;unfold excMatches iP;refine Ê (Ê (l1.here ?_));rw[f];refine é ?_;simp only[iw,if_false];refine Ê (é ?_);simp only[j_,oM];unfold isExcClass;refine Ê (Ê (Ê (Ê (l2.here ?_))));rw[if_pos rfl];refine l4.here ?_;rw[if_neg (by decide)];refine é (é ?_);refine Ê (wpAny_typeOf_ref he ?_);rw[hc];refine Ê (Ê (Ê (l3.here ?_)));cases b with
 |true=>exact é (é (é hq))
 |false=>exact é (é (é hq))
end
noncomputable def xS(X:Cx)(xe:Á->Å->Prop)(Ã:List (À×Obj)):Cx:={X with xe:=xe,pn:=X.pn++Ã}
noncomputable def markX(X:Cx)(e:Á):Cx:={X with A:=X.A.mark (some e),calm:=false,xe:=λ_ _=>False}
section
variable{X:Cx}{Ã:List (À×Obj)}{V:Ģ}{H:Hp}{s:Å}{xe:Á->Å->Prop}
def Inv.U_(I:Inv X Ã V H s):Inv (xS X xe Ã) [] V H s:=
 ⟨⟨I.ok.mod,I.ok.kind,I.ok.glob,I.ok.blt,I.ok.above,I.ok.inj,I.ok.has,I.ok.cab,I.ok.hd,I.ok.frames,I.ok.stk,I.ok.S7,I.ok.bs,I.ok.B4,I.ok.sd,I.ok.xm,I.ok.jk,I.ok.Ex,I.ok.tb⟩,
   I.os,I.bare,I.base,I.loc,I.cell,I.free,I.b_,λp hp=>I.pin p (by simpa[xS] using hp),I.hok,I.len⟩
def Inv.qA{cR:List (À×Obj)}(I:Inv (xS X xe Ã) cR V H s):Inv X Ã V H s:=
 ⟨⟨I.ok.mod,I.ok.kind,I.ok.glob,I.ok.blt,I.ok.above,I.ok.inj,I.ok.has,I.ok.cab,I.ok.hd,I.ok.frames,I.ok.stk,I.ok.S7,I.ok.bs,I.ok.B4,I.ok.sd,I.ok.xm,I.ok.jk,I.ok.Ex,I.ok.tb⟩,
   I.os,I.bare,I.base,I.loc,I.cell,I.free,I.b_,λp hp=>I.pin p (oE _ hp),I.hok,I.len⟩
theorem SP.qA{cR:List (À×Obj)}{D:Ends}{f:Flow}(h:SP (xS X xe Ã) cR D f s):SP X Ã D f s:=by
 cases f with
 |next=>obtain⟨V',H',I,q⟩:=h;exact⟨V',H',Inv.qA I,q⟩
 |brk=>obtain⟨V',H',I,q⟩:=h;exact⟨V',H',Inv.qA I,q⟩
 |cont=>obtain⟨V',H',I,q⟩:=h;exact⟨V',H',Inv.qA I,q⟩
 |ret u=>obtain⟨v,V',H',I,r,q⟩:=h;exact⟨v,V',H',Inv.qA I,r,q⟩
def Inv.mark(I:Inv X Ã V H s)(e:Á):Inv (markX X e) Ã V H s:=
 ⟨⟨I.ok.mod,I.ok.kind,I.ok.glob,I.ok.blt,I.ok.above,I.ok.inj,I.ok.has,I.ok.cab,(fun z=>nomatch z),I.ok.frames,I.ok.stk,I.ok.S7,I.ok.bs,I.ok.B4,I.ok.sd,I.ok.xm,I.ok.jk,I.ok.Ex,I.ok.tb⟩,
   I.os,I.bare,I.base,I.loc,I.cell,I.free,I.b_,I.pin,I.hok,I.len⟩
def Inv.unmark{e:Á}(I:Inv (markX X e) Ã V H s)(hd:X.calm=true->X.A.handled=none):Inv X Ã V H s:=
 ⟨⟨I.ok.mod,I.ok.kind,I.ok.glob,I.ok.blt,I.ok.above,I.ok.inj,I.ok.has,I.ok.cab,hd,I.ok.frames,I.ok.stk,I.ok.S7,I.ok.bs,I.ok.B4,I.ok.sd,I.ok.xm,I.ok.jk,I.ok.Ex,I.ok.tb⟩,
   I.os,I.bare,I.base,I.loc,I.cell,I.free,I.b_,I.pin,I.hok,I.len⟩
def Inv.gone{i:Nat}{n:Str}{m:Str->Option Á}{v:Option Á}{h':Õ}{tk:Nat}(I:Inv X Ã V H s)(hN:X.N.Nodup)(hi:X.N[i]?=some n)(hx:X.env.scope.names.lookup n=some .local)
 (hn:s.heap.Ns X.env.locals m)(hm:∀(j:Nat) (x:Str) (v:Qqj),X.N[j]?=some x->V[j]?=some (some v)->w_ X.env.scope x->∃u,RelV v u/\Look X.env s.heap m x u)
 (OA:h'.Ns X.env.locals (λx=>if x=n then v else m x))(hs:ϯ X.env.locals s.heap h'):Inv X Ã (V.set i none) H {s with heap:=h',toks:=tk}:=by
 have Io:∀b o,X.s₀.heap.get? b=some o->b≠X.env.locals:=λb o q=>ę (Ţ (ó q) I.ok.above);refine⟨I.ok,I.os,I.bare,⟨λb o q z hb hx=>(hs.2 b (Io b o q)).trans (I.base.keep b o q z hb hx),λb o q z hb hx=>?_,I.base.free,λb o q hx=>?_,I.base.tups,I.base.fG,I.base.dZ⟩,⟨_,OA,λj x v e1 e2 e3=>?_⟩,λx c e=>?_,I.free,I.b_,λp hp=>?_,λb o e=>?_,by simpa using I.len⟩
 ·obtain⟨sl,q1⟩:=I.base.slot b o q z hb hx;exact⟨sl,(hs.2 b (Io b o q)).trans q1⟩
 ·obtain⟨o1,q1⟩:=I.base.there b o q hx;exact⟨o1,(hs.2 b (Io b o q)).trans q1⟩
 ·have hj:j≠i:=fun z=>by
   subst z;rcases ap e2 with⟨_,q,_⟩|⟨q,_⟩
   ·cases q
   ·exact q rfl
  rw[iB (ĥ hj)] at e2;obtain⟨u,r,q⟩:=hm j x v e1 e2 e3;refine⟨u,r,?_⟩;have hxn:x≠n:=λz=>hj (qa hN e1 (z▸hi));rcases q with⟨k,e⟩|⟨k,c,e,z⟩
  ·exact .inl ⟨k,by simp[hxn,e]⟩
  ·exact .inr ⟨k,c,e,z.sameBut hs (I.IH x c e)⟩
 ·obtain⟨w',z⟩:=I.cell x c e;exact⟨w',z.sameBut hs (I.IH x c e)⟩
 ·obtain⟨e,z,ne,nf,d⟩:=I.pin p hp;exact⟨(hs.2 p.1 ne).trans e,z,ne,nf,d⟩
 ·refine(I.hok b o e).stay (λc u hc q=>(hs.2 c ?_).trans q) (λ_ q=>q) λ_ _ q=>q;rintro rfl;rcases hc with hc|hc
  ·rw[<-hc,I.free] at e;cases e
  ·rw[I.free] at hc;cases hc
end
abbrev MH:=PX->Ĝ->Ŋ Fl
def qB:MH:=λ_ _=>.bad
noncomputable def jd(i:Nat)(OH no:List String)(mh:M Fl)(rest:MH):MH:=λx Y=>if OH.contains x.C=true then(match mh (Y.set i (.sh (.xc x.C x.ns x.ps))) with
 | .ok f Y2=>.ok f (Y2.set i .no)
 |_=>.bad) else if no.contains x.C=true then rest x Y else .bad
@[simp] def zW(mb:M Fl)(mh:MH)(Y:Ĝ):Ŋ Fl:= match mb Y with
  | .exc x Y1=>mh x Y1
  |r=>r
def PH(X:Cx)(cm:String->À)(E:Ģ->XK)(hs:List kF)(mh:MH):Prop:=∀(Ã:List (À×Obj)) (V:Ģ) (H Hc:Hp) (s sc:Å) (ea:À) (C:Á) (d:Option À) (B:Õ) (D:Ends) (c:Ctx) (F:Hp) (Y:Ĝ) (x:PX),
 Inv X Ã V Hc sc->zf X.prog X.w X.stack Hc sc ea C d .none H B s->ļ (kk X cm) c F H V Y->DL (kk X cm) F x C d->Ź (kk X cm) E c F D (mh x Y)->Î (Ó X.prog X.w) X.A (handleBy (.ref ea) X.env hs) (SP X Ã D) X.xe s
section
variable{X:Cx}{cm:String->À}{E:Ģ->XK}{Ã:List (À×Obj)}{V:Ģ}{H Hc:Hp}{s sc:Å}{ea:À}{C:Á}{d:Option À}{B:Õ}
def JK(I:Inv X Ã V Hc sc){fl:Á}(l:zf X.prog X.w X.stack Hc sc ea C d fl H B s):Inv X Ã V H s:=I.call' l.os (l.un.un l.st) (l.hok.kept l.st) l.bare λb z=>absurd z (by simp)
def eD.exc{P:î}{w:ß}{H:Hp}{h:Õ}{ea Ca:À}{d:Option À}{oe:Obj}{vs:Array Á}(k:eD P w H h)(hn:H ea=none)(he:h.get? ea=some oe)(hc:oe.cls=.ref Ca)(wW:oe.dict=d)(hd:oe.data=.fields vs):eD P w (upd H ea (xo ea Ca d)) h:=λb u e=>by
 by_cases hb:b=ea
 ·subst hb;rw[þ] at e;cases e;refine⟨⟨oe,vs,he,hc,wW,hd⟩,⟨oe,he⟩,?_⟩;rintro h1 h2 ⟨o,ws,q1,q2⟩ kk;exact⟨o,ws,kk o q1,q2⟩
 ·rw[ì hb] at e;exact(k b u e).stay (λ_ _ _ q=>q) (λc q=>by rw[ì (ø q hn)];exact q) (λc xs q=>by rw[ì (ø q hn)];exact q) λc xs q=>by rw[ì (ø q hn)];exact q
def JL(I:Inv X Ã V Hc sc){fl:Á}{Ca:À}(l:zf X.prog X.w X.stack Hc sc ea (.ref Ca) d fl H B s):Inv X Ã V (upd H ea (xo ea Ca d)) s:=by
 obtain⟨oe,vs,T,oT,ts,he,⟨hc,wW⟩,hd,_⟩:=l.tr;have hw:eD X.prog X.w (upd H ea (xo ea Ca d)) s.heap:=eD.exc (l.hok.kept l.st) l.no he hc wW hd;have u:=l.un.un l.st;refine I.call' l.os ⟨u.keep,u.slot,λb o q n hx=>?_,u.there,λb xs q=>?_,λb o v q=>?_,λb ps q=>?_⟩ hw l.bare λb z=>absurd z (by simp)
 ·have hb:b≠ea:=λz=>by rw[z,l.new] at q;cases q
  rw[ì hb];exact u.free b o q n hx
 ·have q':=u.tups b xs q;rw[ì (ø q' l.no)];exact q'
 ·have q':=u.fG b o v q;rw[ì (ø q' l.no)];exact q'
 ·have q':=u.dZ b ps q;rw[ì (ø q' l.no)];exact q'
def U0:PH X cm E [] qB:=λ_ _ _ _ _ _ _ _ _ _ _ _ _ _ _ _ _ _ _ h=>h.elim
variable{y n:Str}{Dn:String}{i:Nat}{yp SX:Pos}{b₀:Ö}{Ii:List Ö}{rest:List kF}{OH no:List String}{mh:M Fl}{mr:MH}
def JM{K:KK}{c:Ctx}{F' H':Hp}{V':Ģ}{Y2:Ĝ}{r:RV}{v:Qqj}(h:rO K c V' Y2 F' H' r v):rO K c (V'.set i none) (Y2.set i .no) F' H' r v:=by
 cases r with
 |sh p=>exact h
 |ow ps=>
  obtain⟨a,vs,h1,h2,h3,h4,h5,h6⟩:=h;refine⟨a,vs,h1,h2,h3,h4,λj q=>?_,h6⟩;have hj:j≠i:=λz=>by
   subst z;obtain⟨s',y,q1,_,q2⟩:=q;have q2:=gP q2;rcases ap q1 with⟨_,rfl,_⟩|⟨q,_⟩
   ·cases q2
   ·exact q rfl
  exact h5 j (q.off hj)
 |ot ps qs=>
  obtain⟨p,a,xs,vs,h1,h0,hx,h2,h3,h4,h5,h6⟩:=h;refine⟨p,a,xs,vs,h1,h0,hx,h2,h3,h4,λj q=>?_,h6⟩;have hj:j≠i:=λz=>by
   subst z;obtain⟨s',y,q1,_,q2⟩:=q;have q2:=gP q2;rcases ap q1 with⟨_,rfl,_⟩|⟨q,_⟩
   ·cases q2
   ·exact q rfl
  exact h5 j (q.off hj)
def ZaI(hN:X.N.Nodup)(hi:X.N[i]?=some n)(hx:X.env.scope.names.lookup n=some .local)(hg:Gl X y)(hm:X.mg y=some (.ref (cm Dn)))(OG:dG X.K (cm Dn) (.type "BaseException")=some true)
 (Zbi:cV (λc=>fC X.K (.ref (cm c)) (.ref (cm Dn))=some true) OH)(hno:cV (λc=>fC X.K (.ref (cm c)) (.ref (cm Dn))=some false) no)
 (hb:∀e:Á,fH (markX X e) (b₀::Ii) (tS (kk X cm) EF mh))(hr:PH X cm E rest mr)(oi:(y== ("__debug__" :Str))=false:=by decide) :
 PH X cm E (.ExceptHandler (some (.Name y yp)) (some n) (b₀::Ii) SX::rest) (jd i OH no mh mr):=by
 intro Ã V H Hc s sc ea C d B D c F Y x I l rel rx h;have I1:=JK I l;obtain⟨oe,vs,T,oT,ts,he,⟨hc,wW⟩,hd,_⟩:=id l.tr;obtain⟨eC,fs,hfd,lR,hps⟩:=rx;have hcx:oe.cls=.ref (cm x.C):=hc.trans eC;refine wpAny_handleBy_cons (codeAny_handlers_test (fJ (X:=markX X (.ref ea)) (Inv.mark I1 (.ref ea)) hg hm ?_ oi)) (by intro q;cases q);unfold jd at h;split at h
 ·rename_i hy;refine sT I1.eY (Zbi.get hy) OG he hcx (codeAny_handlers_suite_as ?_);refine pU l.st l.fr l.tr λh1 x1 x2 x3 x4=>?_;have l2:=l.move x1 x2 x3 x4;subst eC;have I2:=Inv.mark (JL I l2) (.ref ea);have ħ:=rel.alloc (o:=xo ea (cm x.C) d) l.no;have hF:F ea=none:=rel.sub.free l.no;have rp:Đ (kk X cm) (upd F ea (xo ea (cm x.C) d)) (.xc x.C x.ns x.ps) (.ref ea):=by
   unfold Đ;exact⟨ea,d,fs,rfl,þ,hfd.same (Û.upd hF),lR,ò.same (Û.upd hF) _ _ hps⟩
  refine eG (X:=markX X (.ref ea)) I2 hN hi (.inl hx) (v:=.ref ea) rfl (λs6 I6=>?_) (.inr hx);have jl:=ħ.put (i:=i) (x:=some (.ref ea)) (s:=.sh (.xc x.C x.ns x.ps)) rfl ⟨_,rfl,rp⟩;refine ŭ (hb (.ref ea) Ã s6 _ _ {nx:=λV' H'=>D.nx (V'.set i none) H',rt:=D.rt,bk:=λV' H'=>D.bk (V'.set i none) H',ct:=λV' H'=>D.ct (V'.set i none) H'} I6 ⟨c,_,_,jl,?_⟩) (λf s7 q=>?_) λ_ _ z=>z.elim
  ·have sF:Û F (upd F ea (xo ea (cm x.C) d)):=Û.upd hF;cases em:mh (Y.set i (.sh (.xc x.C x.ns x.ps))) with
   |bad=>rw[em] at h;exact h
   |exc z Y2=>rw[em] at h;exact h.elim
   |ok f Y2=>
    rw[em] at h;cases f with
    |nx=>exact λV' F' H' r s1=>h _ F' H' (r.put (s:=.no) rfl trivial) (sF.trans s1)
    |bk=>exact λV' F' H' r s1=>h _ F' H' (r.put (s:=.no) rfl trivial) (sF.trans s1)
    |ct=>exact λV' F' H' r s1=>h _ F' H' (r.put (s:=.no) rfl trivial) (sF.trans s1)
    |rt r0=>exact λv V' F' H' r s1 q=>h v _ F' H' (r.put (s:=.no) rfl trivial) (sF.trans s1) (JM q)
  ·have gz:∀{V7:Ģ} {H7:Hp},Inv (markX X (.ref ea)) Ã V7 H7 s7→(∀s8,Inv X Ã (V7.set i none) H7 s8→SP X Ã D f s8)→
    Î (Ó X.prog X.w) X.A (do kA X.env n .none;unbindBehindTheSuite X.env n SX) (λ_ s8=>SP X Ã D f s8) X.xe s7:=fun{V7 H7} I7 k=>by
    have I8:=Inv.unmark I7 I.ok.hd;obtain⟨m,hn,hl⟩:=id I8.loc;refine wpAny_nameGoes_keeps hx hn (by rw[I.ok.kind];rfl) λh' v OA hs=>k _ ?_;exact Inv.gone I8 hN hi hx hn hl OA hs
   cases f with
   |next=>obtain⟨V7,H7,I7,q7⟩:=q;exact gz I7 λs8 I8=>⟨_,_,I8,q7⟩
   |brk=>obtain⟨V7,H7,I7,q7⟩:=q;exact gz I7 λs8 I8=>⟨_,_,I8,q7⟩
   |cont=>obtain⟨V7,H7,I7,q7⟩:=q;exact gz I7 λs8 I8=>⟨_,_,I8,q7⟩
   |ret u=>obtain⟨v,V7,H7,I7,rv,q7⟩:=q;exact gz I7 λs8 I8=>⟨_,_,_,I8,rv,q7⟩
 ·split at h
  ·rename_i hn;refine sT I1.eY (hno.get hn) OG he hcx ?_;exact hr Ã V H Hc s sc ea C d B D c F Y x I l rel ⟨eC,fs,hfd,lR,hps⟩ h
  ·exact h.elim
def U1{body:List Ö}{h0:kF}{hs:List kF}{pos:Pos}{mb:M Fl}{mh:MH}(Dr:∃env outer,X.stack=env::outer/\X.env=env/\env.frame=some env.locals)
 (hb:∀(xe:Á->Å->Prop) (Ã:List (À×Obj)) (Et:Ģ->XK),ϴ (ż X.prog X.w) (xS X xe Ã) Et->fH (xS X xe Ã) body (tS (kk X cm) Et mb))
 (hh:PH X cm E (h0::hs) mh):PS X (.Try body (h0::hs) [] [] pos) (tS (kk X cm) E (zW mb mh)):=by
 intro Ã s V H D I ⟨c,F,Y,rel,h⟩;refine wpAny_Try_except ?_;obtain⟨env,outer,Qz,rfl,Ef⟩:=Dr;have Kn:X.A.frames=some (X.env::outer):=by rw[<-Qz];exact I.ok.frames
 have J:Inv (xS X (λe s₁=>Î (Ó X.prog X.w) X.A (fq e X.env) (λ_ s₂=>Î (Ó X.prog X.w) X.A (setFlight e none) (λ_ s₃=>Î (Ó X.prog X.w) X.A (handleBy e X.env (h0::hs)) (SP X Ã D) X.xe s₃) X.xe s₂) X.xe s₁) Ã) [] V H s:=Inv.U_ I;refine Ų (hb _ Ã (λV1 C d H'=>∃c F Y x,ļ (kk X cm) c F H' V1 Y/\DL (kk X cm) F x C d/\Ź (kk X cm) E c F D (mh x Y)) ?_ [] s V H D J ⟨c,F,Y,rel,?_⟩) λf s1 q=>?_
 ·intro cR V1 H1 s1 e s2 I1 hx;obtain⟨ea,C,d,H',B,rfl,l,c1,F1,Y1,x,ë,rx,h1⟩:=hx;have I2:=Inv.qA I1;have lfr:s2.heap.FunFrames B (X.env::outer):=by
   have:=l.fr;rw[show(xS X _ Ã).stack=X.env::outer from Qz] at this;exact this
  show Î (Ó X.prog X.w) X.A (fq (.ref ea) X.env) _ X.xe s2;refine FM Kn lfr Ef l.tr l.st l.en λg1 x1 x2 x3 x4=>?_;refine pU (s:={s2 with heap:=g1}) x1 x2 x3 λg2 y1 y2 y3 y4=>?_;have l':zf X.prog X.w X.stack H1 s1 ea C d .none H' B s2:=l;have l2:=l'.move y1 (by rw[Qz];exact y2) y3 (x4.trans y4);exact hh Ã V1 H' H1 _ s1 ea C d B D c1 F1 Y1 x I2 l2 ë rx h1
 ·unfold zW at h;cases em:mb Y with
  |bad=>rw[em] at h;exact h
  |ok f Y1=>rw[em] at h;cases f<;>exact h
  |exc x Y1=>rw[em] at h;exact λV' C d F' H' r s1 rx=>⟨c,F',Y1,x,r,rx,Ź.mono h s1⟩
 ·have q':=SP.qA q;cases f with
  |next=>exact ky q'
  |brk=>exact q'
  |cont=>exact q'
  |ret u=>exact q'
end
open Builtin Builtin.ObjectAttr
def aa(K:Ñ)(C:À):Bool:=match K.lookup C with
 |some ⟨.type "type",_,.cls cd,sl⟩=>(match cd.mro,sl.toList with
  | .ref C'::bm,[_,_,_,_,some (.builtin n),_]=>C'== C && n== Qx && !cd.hasDel && cd.hasDict && iZ K CJ bm && ł K (.ref C) "__setattr__" == some (some (.builtin "object.__setattr__")) &&
      ł K (.ref C) "__getattribute__" == some (some (.builtin "BaseException.__getattribute__")) && ł K (.ref C) "__getattr__" == some none
  |_,_=>false)
 |_=>false
structure jo(K:Ñ)(C:À)(cd:ClassData)(bm:List Á):Prop where
 at_:∃dd k0 k1 k2 k3 k5,K.lookup C=some ⟨.type "type",dd,.cls cd,#[k0,k1,k2,k3,some (.builtin Qx),k5]⟩
 mro:cd.mro=.ref C::bm
 del:cd.hasDel=false
 dict:cd.hasDict=true
 tail:iZ K CJ bm=true
 sa:ł K (.ref C) "__setattr__" =some (some (.builtin "object.__setattr__"))
 ga:ł K (.ref C) "__getattribute__" =some (some (.builtin "BaseException.__getattribute__"))
 gg:ł K (.ref C) "__getattr__" =some none
def fW{K:Ñ}{C:À}(q:aa K C=true):∃cd bm,jo K C cd bm:=by
 unfold aa at q;split at q
 case h_2=>cases q
 rename_i dd cd sl ho;split at q
 case h_2=>cases q
 rename_i C1 bm k0 k1 k2 k3 n1 k5 e1 e2;simp only[Ė,beq_iff_eq,Bool.not_eq_true'] at q;obtain⟨⟨⟨⟨⟨⟨⟨z1,z2⟩,z3⟩,z4⟩,z5⟩,z6⟩,z7⟩,z8⟩:=q;subst z1 z2;obtain⟨sll⟩:=sl;dsimp only at e2;subst e2;exact⟨cd,bm,⟨dd,k0,k1,k2,k3,k5,ho⟩,e1,z3,z4,z5,z6,z7,z8⟩
section
variable{K:Ñ}{h:Õ}{C:À}{cd:ClassData}{bm:List Á}
def jo.own(x:jo K C cd bm)(X:K.In h):OwnTail h CJ bm:=B1 X x.tail
def jo.cls(x:jo K C cd bm):PySem.W.clsIn K C=some cd:=by obtain⟨_,_,_,_,_,_,e⟩:=x.at_;unfold PySem.W.clsIn;rw[e]
theorem xT{T:String}(hT:CJ.contains (.type T)=true):∀{l:List Á},iZ K CJ l=true->l.contains (.type T)=true
 | [],e=>by cases(show(CJ== [])=true from e)
 |v::r,e=>by
  unfold iZ at e;rcases Bc.mp e with q|q
  ·rw[beq_iff_eq.mp q];exact hT
  ·split at q
   ·split at q
    ·simp only[Ė,beq_iff_eq] at q;rw[ke,xT hT q.2,Bool.or_true]
    ·cases q
   ·cases q
theorem nu(self:Á):∀{l:List Á},iZ K CJ l=true->refuseLoop self "__setattr__" l=ö ()
 | [],e=>by cases(show(CJ== [])=true from e)
 |v::r,e=>by
  unfold iZ at e;rcases Bc.mp e with q|q
  ·rw[beq_iff_eq.mp q];exact PySem.F.store_ValueError.passes self
  ·split at q
   ·split at q
    ·simp only[Ė,beq_iff_eq] at q;rw[refuseLoop_ref];exact nu self q.2
    ·cases q
   ·cases q
def jo.mroIs(x:jo K C cd bm){T:String}(hT:CJ.contains (.type T)=true):dG K C (.type T)=some true:=by unfold dG;rw[x.cls,uy,if_neg (by rw[x.mro];simp),x.mro,ke,xT hT x.tail,Bool.or_true]
def jo.U2(x:jo K C cd bm):iX K C=true:=by unfold iX;rw[x.cls];exact x.dict
end
section
variable{prog:î}{w:ß}{A:ð}{E:Á->Å->Prop}{h:Õ}{g:Array GenState}{d:Drawn}{t:Nat}{os:OsState}
variable{nm q:Str}{C N:À}{bs bm SW:List Á}{hdct:Bool}{sn:List Str}{sub:List Á}{ab:Bool}{col:Option Bool}{dd:Option À}{k0 k1 k2 k3 k5:Option Á}{B rS Ij:String}
def nN(F:ExcBaseFacts B rS Ij SW)(T:OwnTail h SW bm){rest:List Á}{fI:À}{oI:Obj}{Q:Fin->Å->Prop}
 (hC:h.get? C=some (excClassObj nm q C N bs bm hdct sn sub ab col dd k0 k1 k2 k3 k5 rS))(hi:dI (Ó prog w) h (kC (.ref C) "__init__") (some (.ref fI)))
 (hfI:h.get? fI=some oI)(WG:oI.cls=.type "function")
 (hq:∀h' e,uN h h' e (.ref C) rest→
   Î (Ó prog w) A (call (.ref fI) (.ref e::rest)) (λr s'=>r=.none/\Q (.done (.ret (.ref e))) s') E ⟨h',g,d,t,os⟩)(hrest:rest.length<=sizeLine) :
 Î (Ó prog w) A (iQ.«type.__call__» ⟨.ref C::rest,[]⟩) Q E ⟨h,g,d,t,os⟩:=by
 repeat (first|with_reducible refine kG hC ?_|with_reducible refine wpAny_madeBy_exc hC ?_|wp_step)
 refine codeAny_call_builtin_code (Code.quiet_builtin _ F.quiet) (wpAny_check_new_subT F T hC ?_);refine codeAny_exc_new_subT F T hC ?_ hrest;show Î _ _ _ _ _ _;have ZbK:= ï {cls:=.ref C,data:=.fields #[.ref h.objs.size,.none,.none,.none,.bool false,.none]}
  (ï {cls:=.type "tuple",data:=.seq rest.toArray} hC)
 have Zbj:= ï {cls:=.ref C,data:=.fields #[.ref h.objs.size,.none,.none,.none,.bool false,.none]}
  (ï {cls:=.type "tuple",data:=.seq rest.toArray} hfI)
 have ZbL:= hi.keeps (h':=(h.push {cls:=.type "tuple",data:=.seq rest.toArray}).push {cls:=.ref C,data:=.fields #[.ref h.objs.size,.none,.none,.none,.bool false,.none]}) λb o e=>ï _ (ï _ e);have WH:((h.push {cls:=.type "tuple",data:=.seq rest.toArray}).push
  {cls:=.ref C,data:=.fields #[.ref h.objs.size,.none,.none,.none,.bool false,.none]}).get? (h.objs.size+1)=some
  {cls:=.ref C,data:=.fields #[.ref h.objs.size,.none,.none,.none,.bool false,.none]}:=by heap_get
 have Yc:(ē C::bm).contains (.ref C)=true:=by simp
 unfold iP
 repeat (first|with_reducible refine kG WH ?_|(with_reducible refine wpAny_isSubtype_exc ZbK ?_;rw[Yc])|wp_step)
 show Î _ _ (kC (.ref C) _) _ _ _;refine ZbL.at ?_;refine ϫ (Ê ?_);unfold bindSpecial;refine Ê (wpAny_typeOf (T:= "function") ⟨_,Zbj,WG⟩ ?_);rw[if_pos (by decide)];refine é (Ê (ŭ (hq _ (h.objs.size+1) ⟨λb o hb=>ï _ (ï _ hb),uM (uu _),h.objs.size,WH,uM (õ _),?_⟩) (λr s' hr=>?_) λ_ _ x=>x))
 ·exact ï _ (uO rfl rfl)
 ·obtain⟨rfl,hQ⟩:=hr
  wp_walk
  exact hQ
def zX(F:ExcBaseFacts B rS Ij SW)(T:OwnTail h SW bm){rest:List Á}{fI:À}{oI:Obj}{Q:Á->Å->Prop}
 (hC:h.get? C=some (excClassObj nm q C N bs bm hdct sn sub ab col dd k0 k1 k2 k3 k5 rS))(hi:dI (Ó prog w) h (kC (.ref C) "__init__") (some (.ref fI)))
 (hfI:h.get? fI=some oI)(WG:oI.cls=.type "function")
 (hq:∀h' e,uN h h' e (.ref C) rest→
   Î (Ó prog w) (A.under (.builtin "type.__call__" ⟨.ref C::rest,[]⟩)) (call (.ref fI) (.ref e::rest)) (λr s'=>r=.none/\Q (.ref e) s') E ⟨h',g,d,t,os⟩)(hrest:rest.length<=sizeLine) :
 Î (Ó prog w) A (call (.ref C) rest) Q E ⟨h,g,d,t,os⟩:=by
 have f1:=tc_lookup;have f2:=tc_bind (.ref C);have hT:(⟨h,g,d,t,os⟩:Å).TypeIs (.ref C) "type" := ⟨_,hC,rfl⟩;refine cG (codeAny_of_tree ?_);show Î _ _ (callAny (.ref C) _) _ _ _
 repeat (any_goals (first|assumption|with_reducible refine kG hC ?_|wp_step))
 refine⟨rfl,?_⟩;refine codeAny_call_builtin_at (Code.quiet_builtin _ (by decide +kernel)) entry_typeCall (wpAny_check_type_call_sub hC (nN (hrest:=hrest) F T hC hi hfI WG λh' e hm=>?_));exact hq h' e hm
end
section
variable{prog:î}{w:ß}{A:ð}{E:Á->Å->Prop}{s:Å}{K:Ñ}{x C:À}{cd:ClassData}{bm:List Á}{ox:Obj}{od:Option Obj}{name:Str}{v:Á}
def U3{rest:List Á}{fI:À}{Q:Á->Å->Prop}(X:K.In s.heap)(c:jo K C cd bm)(hi:ł K (.ref C) "__init__" =some (some (.ref fI)))(hf:pJ K (.ref fI)=some (.type "function"))(hrest:rest.length<=sizeLine)
 (hq:∀h' e,uN s.heap h' e (.ref C) rest->Î (Ó prog w) (A.under (.builtin "type.__call__" ⟨.ref C::rest,[]⟩)) (call (.ref fI) (.ref e::rest)) (λr s'=>r=.none/\Q (.ref e) s') E {s with heap:=h'}) :
 Î (Ó prog w) A (call (.ref C) rest) Q E s:=by
 obtain⟨dd,k0,k1,k2,k3,k5,e⟩:=c.at_;obtain⟨oI,hoI,WG⟩:=ko.mp hf;have hC:=X _ _ e;have T:=c.own X;obtain⟨nm,bs,mro,ns,qn,hd,sn,sub,ab,col,del⟩:=cd;obtain rfl:mro=.ref C::bm:=c.mro;obtain rfl:del=false:=c.del;obtain⟨hh,g,d,t,os⟩:=s;exact zX (C:=C) (nm:=nm) (q:=qn) (N:=ns) (bs:=bs) (bm:=bm) (hdct:=hd) (sn:=sn) (sub:=sub) (ab:=ab) (col:=col) (dd:=dd) (k0:=k0) (k1:=k1) (k2:=k2) (k3:=k3) (k5:=k5) BM T hC (fz X hi) (X _ _ hoI) WG hq hrest
def xU{tk:Tok}{R:dA->Å->Prop}(X:K.In s.heap)(I:bV s.heap x ox C od)(c:jo K C cd bm)(ht:ė K C name)
 (h:∀b,Î (Ó prog w) A.in1 (storeInOwnDict (.ref x) (.ref C) (.str name tk) name v b)
   (λgz s'=>match gz with| .done f=>R (.ok f) s'| .again c'=>c'.quiet=true/\Ϛ (Ó prog w) A c' R s') (λe s'=>R (.error e) s') s) :
 Ϛ (Ó prog w) A (.call (.builtin "object.__setattr__") ⟨[.ref x,.str name tk,v],[]⟩) R s:=by
 have SF:=PySem.F.store_object;have sub:dI (Ó prog w) s.heap (iP (.ref x) (.type "object")) true:=I.type.andThen (iY X (c.mroIs (by decide)));refine uG SF.slot.plain SF.entry (@vf (Ó prog w) _ _ s "object.__setattr__" "object" "__setattr__" (.ref x) [.str name tk,v] [] _ SF.kind SF.split sub (SF.args (.ref x) (.str name tk) v) ?_);have hm:dI (Ó prog w) s.heap (mroOf (.ref C)) cd.mro:=(pI X c.cls).andThen .now;have L3:dI (Ó prog w) s.heap (kC (.ref C) name) none:=fz X ht;rw[PySem.W.osa_eq,refuse_eq];refine Ê (Ê (I.type.here (Ê (hm.here ?_))));rw[c.mro,refuseLoop_ref,nu _ c.tail];refine é (Ê (I.type.here (Ê (L3.here (Ê (é ?_))))));exact h _
def FN{sl:Array (Option Á)}{vs:Array Á}{Q:Unit->Å->Prop}(X:K.In s.heap)(hx:s.heap.get? x=some ⟨.ref C,none,.fields vs,sl⟩)(c:jo K C cd bm)(ht:ė K C name)
 (h:∀h',h'.get? x=some ⟨.ref C,some s.heap.objs.size,.fields vs,sl⟩->h'.Ns1 s.heap.objs.size (λy=>if y=name then some v else none)->(∀b o,b≠x->s.heap.get? b=some o->h'.get? b=some o)->Q () {s with heap:=h',toks:=s.toks+2}) :
 Î (Ó prog w) A (setAttr (.ref x) name v) Q E s:=by
 have J:bV s.heap x ⟨.ref C,none,.fields vs,sl⟩ C none:=⟨hx,rfl,rfl,trivial⟩;refine uY X J c.sa (xU (s:={s with toks:=s.toks+1}) X J c ht λb=>?_);refine Ê (é (Ê (Ê (pd hx (Ê (vh (s:={s with toks:=s.toks+1}) (pI X c.cls) ?_))))));rw[c.dict];have hxs:x≠s.heap.objs.size:=ę (ó hx);have ZbA:(s.heap.push {cls:=.type "dict",data:=.dict #[]}).get? x=some ⟨.ref C,none,.fields vs,sl⟩:=ï _ hx;refine Ê (wpAny_alloc ?_);refine Ê (wpAny_update ZbA ?_);refine é (a:=some s.heap.objs.size) (Ê (é (Ê ?_)));have hgd:((s.heap.push {cls:=.type "dict",data:=.dict #[]}).update x λo=> {cls:=o.cls,dict:=some s.heap.objs.size,data:=o.data,slots:=o.slots}).get? s.heap.objs.size
  = some {cls:=.type "dict",data:=.dict #[]}:=(BS _ _ _ _ hxs.symm).trans (uO rfl rfl)
 have hnd:((s.heap.push {cls:=.type "dict",data:=.dict #[]}).update x λo=> {cls:=o.cls,dict:=some s.heap.objs.size,data:=o.data,slots:=o.slots}).Ns s.heap.objs.size (λ_=>none):=
  ⟨_,#[],_,hgd,rfl,λe he=>absurd he (by simp),λ_=>rfl⟩
 refine wpAny_nsSet1 (BV hnd) λh' OA hs=>?_;obtain⟨oD,esD,epD,Wj,Wk,Wl⟩:=OA.count (vi name v PySem.Within.nil);refine Ê (uB Wj (by rw[Wk];exact uC (Ĺ Wl (by rw[ŋ,oJ,cE];lia))) ?_);refine é (h h' ?_ OA λb o hb q=>?_)
 ·exact(hs.2 x hxs).trans (fv _ ZbA rfl)
 ·exact(hs.2 b (ę (ó q))).trans ((BS _ _ _ _ hb).trans (ï _ q))
def DR{sl:Array (Option Á)}{vs:Array Á}{dx:À}{mA:Str->Option Á}{ns:List Str}{Q:Unit->Å->Prop}(X:K.In s.heap)(hx:s.heap.get? x=some ⟨.ref C,some dx,.fields vs,sl⟩)(hn:s.heap.Ns1 dx mA)(hw:kx mA ns)(jO:ns.length<sizeLine)(c:jo K C cd bm)(ht:ė K C name)
 (h:∀h',h'.Ns1 dx (λy=>if y=name then some v else mA y)->ϯ dx s.heap h'->Q () {s with heap:=h',toks:=s.toks+2}) :
 Î (Ó prog w) A (setAttr (.ref x) name v) Q E s:=by
 obtain⟨od,IB,_⟩:=lX hn;have J:bV s.heap x ⟨.ref C,some dx,.fields vs,sl⟩ C (some od):=⟨hx,rfl,rfl,IB⟩;refine uY X J c.sa (xU (s:={s with toks:=s.toks+1}) X J c ht λb=>?_);refine Ê (é (Ê (Ê (pd hx (Ê (vh (s:={s with toks:=s.toks+1}) (pI X c.cls) ?_))))));rw[c.dict];refine é (a:=some dx) (Ê (é (Ê ?_)));refine wpAny_nsSet1 (s:={s with toks:=s.toks+1}) hn λh' Iy gD=>?_;obtain⟨oD,esD,epD,Wj,Wk,Wl⟩:=Iy.count (vi name v hw);refine Ê (uB Wj (by rw[Wk];exact uC (Ĺ Wl (by rw[ŋ];lia))) ?_);exact é (h _ Iy gD)
def xga{R:dA->Å->Prop}{u:Á}{od:Obj}{tk:Tok}(X:K.In s.heap)(I:bV s.heap x ox C (some od))(c:jo K C cd bm)(ht:ė K C name)(hl:iW name od=some (some u))
 (h:R (.ok (.ret u)) s):Ϛ (Ó prog w) A (.call (.builtin "BaseException.__getattribute__") ⟨[.ref x,.str name tk],[]⟩) R s:=by
 have hk:builtinKind "BaseException.__getattribute__" =some .slot:=by decide +kernel
 have wX:splitId "BaseException.__getattribute__" =some ("BaseException","__getattribute__"):=by decide +kernel
 have L0:=I.type (M:=Ó prog w);have L3:=vg (M:=Ó prog w) X I (uV c.U2 ht rfl hl);have A9:dI (Ó prog w) s.heap (iP (.ref x) (.type "BaseException")) true:=L0.andThen (iY X (c.mroIs (by decide)));refine uG pD.ga.plain BO (@vf (Ó prog w) _ _ s "BaseException.__getattribute__" "BaseException" "__getattribute__" (.ref x) [.str name tk] [] _ hk wX A9 (BP (.ref x) (.str name tk)) ?_);unfold iQ.«object.__getattribute__»;refine Ê (é (Ê (é (Ê (L0.here (Ê (L3.here (é ?_))))))));exact h
def ZaJ{expr:Bool}{u:Á}{od:Obj}{Q:Á->Å->Prop}(X:K.In s.heap)(I:bV s.heap x ox C (some od))(c:jo K C cd bm)(ht:ė K C name)(hl:iW name od=some (some u))(hh:uT u=true)
 (h:Q u {s with toks:=s.toks+1}):Î (Ó prog w) A (getAttr (.ref x) name expr) Q E s:=by
 have FB:=pD;obtain⟨hp,g,d,t,os⟩:=s;have L0:=I.type (M:=Ó prog w);have L1:=fz (M:=Ó prog w) X c.ga;have L2:=fz (M:=Ó prog w) X c.gg;have L3:=vg (M:=Ó prog w) X I (uV c.U2 ht rfl hl);have A9:dI (Ó prog w) hp (iP (.ref x) (.type "BaseException")) true:=L0.andThen (iY X (c.mroIs (by decide)));unfold getAttr getAttrBy;refine Ê (wpAny_mkText (ϫ (Ê (L0.at (Ê (L1.at ?_))))));show Î _ _ (pj _ _ _ _ _ _) _ _ _;have f3:=FB.ga.bind (.ref x);have WA:(expr && onTheHeap (Value.builtin "BaseException.__getattribute__"))=false:=by cases expr<;>rfl
 unfold pj hookBefore callGetattribute;refine Ê (L2.at ?_);rw[WA];have hk:builtinKind "BaseException.__getattribute__" =some .slot:=by decide +kernel
 have wX:splitId "BaseException.__getattribute__" =some ("BaseException","__getattribute__"):=by decide +kernel
 refine Ê (kH (ϫ ?_));rw[if_neg (by decide)];unfold boundAndCalled;rw[f3];refine Ê (é (cG ?_));exact xga X I c ht hl (show Î _ _ (handedOut u) _ _ _ by rw[B2 hh];exact é h)
end
def xn(a C:À)(d:Option À):HO:=.ext λh=>∃o vs,h.get? a=some o/\o.cls=.ref C/\o.dict=d/\o.data=.fields vs/\vs[1]?=some .none
def QA(H:Hp)(a:À)(d:Option À)(fs:List (Str×Qqj)):Prop:=(d=none/\fs=[])\/∃d0,d=some d0/\H d0=some (.xd fs)/\d0≠a
def XDn(H:Hp)(a:À)(d:Option À)(d':À):Prop:=d=some d'\/(d=none/\H d'=none/\d'≠a)
def xW(H:Hp)(a C:À)(d:Option À)(d':À)(fs:List (Str×Qqj)):Hp:=match d with
 |some _=>upd H d' (.xd fs)
 |none=>upd (upd H d' (.xd fs)) a (xn a C (some d'))
def xX{f g:Str}{y:Qqj}{u:Á}{fs:List (Str×Qqj)}{mA:Str->Option Á}(ry:RelV y u)(r:∀g,kX (fs.lookup g) (mA g)):kX ((aX f y fs).lookup g) (if g=f then some u else mA g):=by
 rw[gL];split
 ·exact ry
 ·exact r g
section
variable{X:Cx}{Ã:List (À×Obj)}{V:Ģ}{H:Hp}{s:Å}{a C:À}{cd:ClassData}{bm:List Á}{d:Option À}{fs:List (Str×Qqj)}{f:Str}{y:Qqj}{u:Á}{A:ð}{E:Á->Å->Prop}
def JN{Q:Unit->Å->Prop}(I:Inv X Ã V H s)(c:jo X.K C cd bm)(ha:H a=some (xn a C d))(hD:QA H a d fs)(n:ė X.K C f)(hl:fs.length<1000)(ry:RelV y u)
 (h:∀s' d',XDn H a d d'->Inv X Ã V (xW H a C d d' (aX f y fs)) s'->Q () s'):Î (Ó X.prog X.w) A (setAttr (.ref a) f u) Q E s:=by
 obtain⟨⟨o,vs,ho,Dt,wW,Ba,Yd⟩,_,_⟩:=(show ϓ X.prog X.w H s.heap a (xn a C d) from I.hok a _ ha);obtain⟨SY,Ik,Il,rN⟩:=o;dsimp only at Dt wW Ba;subst Dt wW Ba;rcases hD with⟨rfl,rfl⟩|⟨d0,rfl,Ko,eW⟩
 ·refine FN I.eY ho c n λh' OB lR k=>h _ s.heap.objs.size (.inr ⟨rfl,I.hok.fresh (õ _),λz=>?_⟩) ?_
  ·have:=ó ho;rw[z] at this;exact ų _ this
  ·obtain⟨od,es,ep,e1,e2⟩:=id lR;have Ef:=(Heap.get?_some_iff.mp e1).2;have g1:(s.heap.push od).get? s.heap.objs.size=some od:=uO rfl Ef;have ne:s.heap.objs.size≠a:=λz=>by
    have:=ó ho;rw[<-z] at this;exact ų _ this
   have I1:Inv X Ã V (upd H s.heap.objs.size (.xd (aX f y []))) {s with heap:=s.heap.push od,toks:=s.toks}:=
    I.laid (λb o q=>ï _ q) (õ _) ⟨_,lR.at λo q=>by rw[e1] at q;cases q;exact g1,λg=>xX (fs:=[]) (mA:=λ_=>none) ry λ_=>trivial⟩
   refine I1.write (x:=a) (e:=a) (h':=h') (by rw[ì (ĥ ne),ha];exact trivial) (.inl rfl) (λb o hb q=>?_) ⟨_,OB⟩ ?_
   ·rcases BU q with⟨rfl,rfl⟩|q
    ·exact e1
    ·exact k b o hb q
   ·refine⟨⟨_,vs,OB,rfl,rfl,rfl,Yd⟩,⟨_,OB⟩,?_⟩;rintro h1 h2 ⟨o,ws,q1,q2⟩ kk;exact⟨o,ws,kk o q1,q2⟩
 ·obtain⟨mA,lR,r⟩:=(show ϓ X.prog X.w H s.heap d0 (.xd fs) from I.hok d0 _ Ko);have wi:kx mA (fs.map (·.1)):=λg hg=>by
   refine Be λhn=>hg (kX.none_of ?_);rw[<-mE (m:=g) (fs:=fs) (by simpa using hn)];exact r g
  refine DR I.eY ho lR wi (by rw[ř,cE];lia) c n λh' Iy sb=>h _ d0 (.inl rfl) ?_;exact I.write (x:=d0) (e:=d0) (by rw[Ko];exact trivial) (.inl rfl) (λb o hb q=>(sb.2 b hb).trans q) (let ⟨o,_,_,e,_⟩:=Iy;⟨o,e⟩) ⟨_,Iy,λg=>xX ry r⟩
def tXF(C:À)(f:Str)(j:Nat):TS:=λD V H=>∃a d fs y,V[0]?=some (some (.ref a))/\V[j]?=some (some y)/\H a=some (xn a C d)/\QA H a d fs/\fs.length<1000/\∀d',XDn H a d d'->D.nx V (xW H a C d d' (aX f y fs))
def QB(C:À):List (Str×Nat)->TS
 | []=>Kw
 |(f,j)::r=>TU (tXF C f j) (QB C r)
variable{o value:Ð}{pos ck:Pos}{j:Nat}{ss:List Ö}{r:List (Str×Nat)}
def U4(q:aa X.K C=true)(n:ė X.K C f)(ho:PE X o (se 0))(hv:PE X value (se j))(hs:ai value (some (.Attribute o f ck)) pos.line X.env=ö false:=by rfl):PS X (.Assign [.Attribute o f ck] value pos) (tXF C f j):=by intro Ã s V H D I ⟨a,d,fs,y,h0,hj,ha,hD,hl,h⟩;obtain⟨cd,bm,c⟩:=fW q;refine BE (Ų (hv Ã s V H (λv H1=>v=y/\H1=H) I ⟨y,hj,rfl,rfl⟩) λu s1 ⟨y1,H1,I1,ry,e1,e2⟩=>?_) hs;subst e1 e2;refine Ų (ho Ã s1 V _ (λv H2=>v=.ref a/\H2=H1) I1 ⟨_,h0,rfl,rfl⟩) λov s2 ⟨x,H2,I2,rx,e1,e2⟩=>?_;subst e1 e2;obtain rfl:ov=ē a:=rx;exact JN I2 c ha hD n hl ry λs3 d' hn I3=>⟨V,_,I3,h d' hn⟩
def QC:fH X [] (QB C []):=B6
def JO(h1:PS X (.Assign [.Attribute o f ck] value pos) (tXF C f j))(h2:fH X ss (QB C r)):fH X (.Assign [.Attribute o f ck] value pos::ss) (QB C ((f,j)::r)):=xp h1 h2
end
noncomputable def Tf:List (Str×Nat)->List Qqj->List (Str×Qqj)->Option (List (Str×Qqj))
 | [],_,fs=>some fs
 |(f,j)::r,vs,fs=>match vs[j]? with
  |some v=>Tf r vs (aX f v fs)
  |none=>none
theorem FO{D:Ends}{V:Ģ}{a C:À}{vs:List Qqj}(h0:V[0]?=some (some (.ref a)))(hσ:∀(j:Nat) v,vs[j]?=some v->V[j]?=some (some v)):∀{fl:List (Str×Nat)} {d:Option À} {fs fs':List (Str×Qqj)} {H:Hp},H a=some (xn a C d)->QA H a d fs->fs.length+fl.length<1000->Tf fl vs fs=some fs'->
 (∀H' d',H' a=some (xn a C d')->QA H' a d' fs'->(∀b u,b≠a->d≠some b->H b=some u->H' b=some u)->(∀d0,d'=some d0->d=some d0\/H d0=none)->D.nx V H')->QB C fl D V H
 | [],d,fs,fs',H,ha,hD,hl,e,k=>by cases e;exact k H d ha hD (λ_ _ _ _ q=>q) λd0 q=>.inl q
 |(f,j)::r,d,fs,fs',H,ha,hD,hl,e,k=>by
  unfold Tf at e;cases ej:vs[j]? with
  |none=>rw[ej] at e;cases e
  |some y=>
   rw[ej] at e;rw[ŋ] at hl;refine⟨a,d,fs,y,h0,hσ j y ej,ha,hD,by lia,λd' hn=>?_⟩;have Ba:d'≠a:=by
    rcases hn with rfl|⟨_,_,q⟩
    ·rcases hD with⟨q,_⟩|⟨d0,q,_,z⟩
     ·cases q
     ·cases q;exact z
    ·exact q
   have e1:xW H a C d d' (aX f y fs) a=some (xn a C (some d')):=by
    unfold xW;rcases hn with rfl|⟨rfl,_,_⟩
    ·dsimp only;rw[ì (ĥ Ba)];exact ha
    ·exact þ
   have e2:xW H a C d d' (aX f y fs) d'=some (.xd (aX f y fs)):=by
    unfold xW;cases d with
    |some _=>exact þ
    |none=>dsimp only;rw[ì Ba];exact þ
   have e3:∀b,b≠a->b≠d'->xW H a C d d' (aX f y fs) b=H b:=λb h1 h2=>by
    unfold xW;cases d with
    |some _=>exact ì h2
    |none=>dsimp only;rw[ì h1,ì h2]
   have hlen:=gM f y fs;show QB C r _ V _;refine FO (fl:=r) (d:=some d') (fs:=aX f y fs) (fs':=fs') h0 hσ e1 (.inr ⟨d',rfl,e2,Ba⟩) (by lia) e λH' d'' q1 q2 q3 q4=>k H' d'' q1 q2 (λb u h1 h2 h3=>?_) λd0 z=>?_
   ·have hb:b≠d':=fun z=>by
     rcases hn with q|⟨_,q,_⟩
     ·exact h2 (by rw[q,z])
     ·rw[z,q] at h3;cases h3
    exact q3 b u h1 (λz=>hb (by cases z;rfl)) (by rw[e3 b h1 hb];exact h3)
   ·rcases q4 d0 z with q|q
    ·cases q;rcases hn with q|⟨_,q,_⟩
     ·exact .inl q
     ·exact .inr q
    ·have n1:d0≠a:=λz=>by rw[z,e1] at q;cases q
     have n2:d0≠d':=λz=>by rw[z,e2] at q;cases q
     rw[e3 d0 n1 n2] at q;exact .inr q
def U5(n:Nat)(C:À)(fl:List (Str×Nat)):Sp:=λvs H Q _=>∃a lU fs,vs=.ref a::lU/\lU.length+1=n/\H a=some (xn a C none)/\fl.length<1000/\Tf fl vs []=some fs/\
 ∀H' d',H' a=some (xn a C d')->QA H' a d' fs->(∀b u,b≠a->H b=some u->H' b=some u)->(∀d0,d'=some d0->H d0=none)->Q .non H'
def sU{N:List Str}{vs:List Qqj}{j:Nat}{v:Qqj}(e:vs[j]?=some v):(L2.start N vs)[j]?=some (some v):=by unfold L2.start;obtain⟨hj,e'⟩:=Ϧ.mp e;rw[ϧ (by simpa using hj)];simp[e]
section
variable{P:î}{w:ß}{K:Ñ}{mg:Str->Option Á}{base:Õ}{CX:nh}
def fnX{x qual:Str}{st:Ö}{f:À}{fd:ě}{N ps:List Str}{k n:Nat}{C:À}{fl:List (Str×Nat)}(F:Ei K x qual st f fd)(S:à N ps (Ô st))(hn:ps.length=n)
 (c_:∀(ű:Á) (A:ð) (outer:List Env) (s:Å) (H:Hp) (E:XK),fH (bE CX P w K mg base N qual (Ô st) f ű A outer s H E) (Į st) (QB C fl)):Ĉ P w K mg base CX (k+1) f fd ps (U5 n C fl):=by
 subst hn;obtain⟨oc,od,kV,iu,pm,an,ű,ct,rN,rfl,lk,et⟩:=F.ex;refine xv lk et S (λvs H Q E ⟨a,lU,fs,h1,h2,_⟩=>by rw[h1,ŋ];exact h2) λA outer s H vs Q E hr zo=>?_;obtain⟨a,lU,fs,rfl,h2,h3,h4,h5,h6⟩:=zo;refine⟨_,c_ ű A outer s H E,FO (vs:=.ref a::lU) (sU rfl) (λj v e=>sU e) h3 (.inl ⟨rfl,rfl⟩) (by simpa using h4) h5 λH' d' q1 q2 q3 q4=>h6 H' d' q1 q2 (λb u hb q=>q3 b u hb (by intro z;cases z) q) λd0 z=>?_⟩;rcases q4 d0 z with q|q
 ·cases q
 ·exact q
end
def eD.ZaK{P:î}{w:ß}{H:Hp}{h:Õ}{ea Ca:À}{d:Option À}{oe:Obj}{vs:Array Á}(k:eD P w H h)(hn:H ea=none)(he:h.get? ea=some oe)(hc:oe.cls=.ref Ca)(wW:oe.dict=d)(hd:oe.data=.fields vs)(h1:vs[1]?=some .none):eD P w (upd H ea (xn ea Ca d)) h:=λb u e=>by
 by_cases hb:b=ea
 ·subst hb;rw[þ] at e;cases e;refine⟨⟨oe,vs,he,hc,wW,hd,h1⟩,⟨oe,he⟩,?_⟩;rintro h1 h2 ⟨o,ws,q1,q2⟩ kk;exact⟨o,ws,kk o q1,q2⟩
 ·rw[ì hb] at e;exact(k b u e).stay (λ_ _ _ q=>q) (λc q=>by rw[ì (ø q hn)];exact q) (λc xs q=>by rw[ì (ø q hn)];exact q) λc xs q=>by rw[ì (ø q hn)];exact q
def Inv.ZaL{X:Cx}{Ã:List (À×Obj)}{V:Ģ}{H:Hp}{s:Å}{h':Õ}{e Ca:À}{d:Option À}{oe:Obj}{vs:Array Á}{t':Nat}(I:Inv X Ã V H s)(k:∀b o,s.heap.get? b=some o->h'.get? b=some o)(new:s.heap.get? e=none)
 (he:h'.get? e=some oe)(hc:oe.cls=.ref Ca)(wW:oe.dict=d)(hd:oe.data=.fields vs)(h1:vs[1]?=some .none):Inv X Ã V (upd H e (xn e Ca d)) {s with heap:=h',toks:=t'}:=by
 have hn:H e=none:=vF I.hok new;have u:Un X.fs [] H H s.heap h':=Un.kept k;refine I.un ⟨u.keep,u.slot,λb o q n hx=>?_,u.there,λb xs q=>?_,λb o v q=>?_,λb ps q=>?_⟩ (eD.ZaK (I.hok.kept k) hn he hc wW hd h1)
 ·have hb:b≠e:=λz=>by rw[z,new] at q;cases q
  rw[ì hb];exact n
 ·rw[ì (ø q hn)];exact q
 ·rw[ì (ø q hn)];exact q
 ·rw[ì (ø q hn)];exact q
noncomputable def KR:List (Str×Nat)->List PV->List Str->List PV->Option (List Str×List PV)
 | [],_,ns,qs=>some (ns,qs)
 |(_,0)::_,_,_,_=>none
 |(f,j+1)::r,ps,ns,qs=>match ps[j]? with
  |some p=>KR r ps (putN f ns) (vB f p ns qs)
  |none=>none
theorem xY{K:KK}{F:Hp}:∀{ps:List PV} {vs:List Qqj} {j:Nat} {p:PV},ò K F ps vs->ps[j]?=some p->∃v,vs[j]?=some v/\Đ K F p v
 | [],_,_,_,_,e=>by simp at e
 |q::ps,vs,j,p,h,e=>by
  unfold ò at h;obtain⟨x,r,rfl,h1,h2⟩:=h;cases j with
  |zero=>cases e;exact⟨x,rfl,h1⟩
  |succ j=>rw[iF] at e ⊢;exact xY h2 e
theorem FP{K:KK}{F:Hp}{ps:List PV}{vs:List Qqj}{e:Qqj}(h:ò K F ps vs):∀{fl:List (Str×Nat)} {ns WI:List Str} {qs U6:List PV} {fs:List (Str×Qqj)},KR fl ps ns qs=some (WI,U6)->fs.map (·.1)=ns->ò K F qs (fs.map (·.2))->
 ∃fs',Tf fl (e::vs) fs=some fs'/\fs'.map (·.1)=WI/\ò K F U6 (fs'.map (·.2))
 | [],ns,WI,qs,U6,fs,z,hn,hq=>by cases z;exact⟨fs,rfl,hn,hq⟩
 |(f,0)::r,ns,WI,qs,U6,fs,z,hn,hq=>by cases z
 |(f,j+1)::r,ns,WI,qs,U6,fs,z,hn,hq=>by
  unfold KR at z;cases ej:ps[j]? with
  |none=>rw[ej] at z;cases z
  |some p=>rw[ej] at z;obtain⟨v,ev,rv⟩:=xY h ej;unfold Tf;rw[iF,ev];subst hn;obtain⟨z1,z2⟩:=vC (f:=f) (p:=p) rv hq;exact FP h (fs:=aX f v fs) z z1 z2
@[simp] def CK(C:String)(n:Nat)(fl:List (Str×Nat))(ms:M (List PV))(Y:Ĝ):Ŋ Fl:= (ms Y).bind fun ps Y1=>if ps.length+1=n∧ps.length<1000∧fl.length<1000 then(match KR fl ps [] [] with
  |some (ns,qs)=>.exc ⟨C,ns,qs⟩ Y1
  |none=>.bad) else .bad
section
variable{X:Cx}{E:Ģ->XK}{e:Ð}{p:Pos}{CX:nh}{k n:Nat}{f:À}{fd:ě}{ps:List Str}{C:String}{fl:List (Str×Nat)}{x:Str}
structure QD(K:Ñ)(C f:À):Prop where
 x:aa K C=true
 kp:Ť K (.ref C)=true
 init:ł K (.ref C) "__init__" =some (some (.ref f))
 fn:pJ K (.ref f)=some (.type "function")
def DS{Ã:List (À×Obj)}{V:Ģ}{H:Hp}{s:Å}{G:Á->Å->Prop}{us:List Á}{vs:List Qqj}{sp:Sp}{C:À}{T:À->Hp->Prop}(M:QD X.K C f)(F:Ĉ X.prog X.w X.K X.mg X.base CX k f fd ps sp)(hr:Ϗ (k+1) X.A)(hb:Binds X.K fd ps [])
 (hx:ϴ CX X E)(I:Inv X Ã V H s)(r:Ĳ vs us)(hl:us.length<=sizeLine)
 (h:∀x,H x=none->sp (.ref x::vs) (upd H x (xn x C none)) (λv H2=>v=.non/\T x H2) (E V))
 (k:∀x H2 s',H x=none->s.heap.get? x=none->Inv X Ã V H2 s'->T x H2->G (.ref x) s') :
 Î (Ó X.prog X.w) X.A (call (.ref C) us) G X.xe s:=by
 obtain⟨cd,bm,c⟩:=fW M.x;refine U3 I.eY c M.init M.fn hl λh' e hm=>?_;obtain⟨t,he,_,_⟩:=hm.there;have hn:H e=none:=vF I.hok hm.new;have I2:Inv X Ã V (upd H e (xn e C none)) {s with heap:=h',toks:=s.toks}:=Inv.ZaL I hm.keeps hm.new he rfl rfl rfl rfl;have hq:=h e hn;have r2:Ĳ (Qqj.ref e::vs) (ē e::us):=.cons rfl r;have hl:(ē e::us ++ []).length=ps.length:=by have q:=r2.length;rw[F.len _ _ _ _ hq] at q;rw[cx];exact q.symm
 have OE:=hb {s with heap:=h'} (ē e::us) I2.eY hl;rw[cx] at OE;refine cG (iL (F.run _ X.stack _ _ ⟨ē e::us,[]⟩ _ _ _ (E V) (hr.make C us []) (I2.env0.make C us []) OE r2 hq) λr s' Ig=>?_);cases r with
 |error e=>exact hx Ã V _ _ e s' I2 Ig
 |ok fl=>
  cases fl with
  |ret u=>obtain⟨v,H',I3,rv,ev,q3⟩:=I2.after Ig;subst ev;exact⟨rv,k e H' s' hn hm.new I3 q3⟩
  |next=>exact Š Ig
  |brk=>exact Š Ig
  |cont=>exact Š Ig
def Kp(H:Hp)(a:À):Hp:=λb=>if b=a then none else H b
def fX{H:Hp}{a b:À}(h:b≠a):Kp H a b=H b:=if_neg h
def xZ{H:Hp}{a:À}:Kp H a a=none:=if_pos rfl
def ln{H:Hp}{a b:À}(h:H b=none):Kp H a b=none:=by
 unfold Kp;split
 ·rfl
 ·exact h
def Inv.drop{Ã:List (À×Obj)}{V:Ģ}{H:Hp}{s:Å}{a:À}{φ:Õ->Prop}(I:Inv X Ã V H s)(ha:H a=some (.ext φ)):Inv X Ã V (Kp H a) s:=by
 have ne:∀b u,H b=some u->(∀ψ,u≠ .ext ψ)->b≠a:=λb u q n z=>by rw[z,ha] at q;cases q;exact n _ rfl
 refine⟨I.ok,I.os,I.bare,⟨I.base.keep,I.base.slot,λb o q n hx=>ln (I.base.free b o q n hx),I.base.there,λb xs q=>?_,λb o u q=>?_,λb ps q=>?_⟩,I.loc,I.cell,ln I.free,λx c e=>ln (I.b_ x c e),λp hp=>?_,λb u e=>?_,I.len⟩
 ·have q':=I.base.tups b xs q;rw[fX (ne b _ q' (by intro ψ z;cases z))];exact q'
 ·have q':=I.base.fG b o u q;rw[fX (ne b _ q' (by intro ψ z;cases z))];exact q'
 ·have q':=I.base.dZ b ps q;rw[fX (ne b _ q' (by intro ψ z;cases z))];exact q'
 ·obtain⟨h1,h2,h3⟩:=I.pin p hp;exact⟨h1,ln h2,h3⟩
 ·have hb:b≠a:=λz=>by rw[z,xZ] at e;cases e
  rw[fX hb] at e;exact(I.hok b u e).stay (λ_ _ _ q=>q) (λc q=>by rw[fX (ne c _ q (by intro ψ z;cases z))];exact q) (λc xs q=>by rw[fX (ne c _ q (by intro ψ z;cases z))];exact q) λc xs q=>by rw[fX (ne c _ q (by intro ψ z;cases z))];exact q
def U7{K:KK}{c:Ctx}{F1 H1 H':Hp}{V:Ģ}{Y1:Ĝ}{x Ca:À}{d':Option À}{fs:List (Str×Qqj)}(ë:ļ K c F1 H1 V Y1)(hx:H1 x=none)(hD:QA H' x d' fs)(hH:∀b u,b≠x->upd H1 x (xn x Ca none) b=some u->H' b=some u)
 (hd:∀d0,d'=some d0->upd H1 x (xn x Ca none) d0=none):∃F',ļ K c F' H' V Y1/\Û F1 F'/\Û H1 H'/\qi F' d' fs/\F' x=none:=by
 have sH:Û H1 H':=λb u e=>hH b u (ø e hx) (by rw[ì (ø e hx)];exact e);have r2:ļ K c F1 H' V Y1:=ë.call ⟨sH,Û.refl _,ë.sub.trans sH,λ_ _ q=>q⟩;rcases hD with⟨rfl,rfl⟩|⟨d0,rfl,h2,eW⟩
 ·exact⟨F1,r2,Û.refl _,sH,.inl ⟨rfl,rfl⟩,ë.sub.free hx⟩
 ·have n0:H1 d0=none:=by
   have:=hd d0 rfl;rw[ì eW] at this;exact this
  refine⟨upd F1 d0 (.xd fs),r2.freeze h2 (ë.base.free n0) (ë.sub.free n0) (ë.fresh n0),Û.upd (ë.sub.free n0),sH,.inr ⟨d0,rfl,þ⟩,?_⟩;rw[ì (ĥ eW)];exact ë.sub.free hx
end
section
variable{M:Model}{A:ð}{E:Á->Å->Prop}{s:Å}{K:Ñ}{env:Env}
def JP{x:Sem Á}{Q:Flow->Å->Prop}(hh:A.handled=none)
 (h:Î M A x (λv s₁=>∃e C oe vs oC,v=.ref e/\K.In s₁.heap/\s₁.heap.get? C=some oC/\oC.cls=.type "type" /\dG K C (.type "BaseException")=some true/\s₁.heap.get? e=some oe/\oe.cls=.ref C/\oe.data=.fields vs/\vs[1]?=some .none/\E (.ref e) s₁) E s) :
 Î M A (raiseStmt env (some x) none) Q E s:=by
 unfold raiseStmt;refine Ê (ŭ h (λv s₁ h₁=>?_) λ_ _ x=>x);obtain⟨e,C,oe,vs,oC,rfl,KX,hC,hCt,hm,he,hc,hd,h1,hE⟩:=h₁;have L4:=iY (M:=M) KX hm;obtain⟨hp,g,d,tk,os⟩:=s₁;obtain⟨SY,Ik,Il,rN⟩:=oe;dsimp only at hc hd;subst hc hd
 repeat (first|with_reducible refine kG he ?_|(with_reducible refine kG hC ?_;rw[hCt])|with_reducible refine PySem.W.Looks.at L4 ?_|with_reducible refine ό he rfl h1 ?_|wp_step)
 exact wpAny_raiseNew_none hh hE
end
section
variable{X:Cx}{cm:String->À}{E:Ģ->XK}{e:Ð}{es:List Ð}{pos jp np:Pos}{CX:nh}{k n:Nat}{f:À}{fd:ě}{ps:List Str}{C:String}{fl:List (Str×Nat)}{ms:M (List PV)}{x:Str}
def Ź.bindL{K:KK}{c:Ctx}{F H:Hp}{V:Ģ}{D:Ends}{Q':List Qqj->Hp->Prop}{r:Ŋ (List PV)}{g:List PV->Ĝ->Ŋ Fl}(h:Ź K E c F D (r.bind g))
 (k:∀p Y1 v F1 H1,ļ K c F1 H1 V Y1->Û F F1->Û H H1->ò K F1 p v->Ź K E c F1 D (g p Y1)->Q' v H1):aM K E (rL K) c F H V Q' r:=by
 cases r with
 |bad=>exact h
 |exc x Y'=>exact λC d F' H' rel s1 q=>h V C d F' H' rel s1 q
 |ok p Y1=>exact λv F' H' rel s1 s2 q=>k p Y1 v F' H' rel s1 s2 q (Ź.mono h s1)
def zY{c:Ctx}{F1 H1:Hp}{V:Ģ}{Y1:Ĝ}{D:Ends}{qs:List PV}{vs:List Qqj}(ë:ļ (kk X cm) c F1 H1 V Y1)(r1:ò (kk X cm) F1 qs vs)
 (h:Ź (kk X cm) E c F1 D (if qs.length+1=n/\qs.length<1000/\fl.length<1000 then(match KR fl qs [] [] with|some (ns,qs)=>.exc ⟨C,ns,qs⟩ Y1|none=>.bad) else .bad)) :
 vs.length<=sizeLine/\∀x,H1 x=none->U5 n (cm C) fl (.ref x::vs) (upd H1 x (xn x (cm C) none)) (λv H2=>v=.non/\∃d',H2 x=some (xn x (cm C) d')/\E V (.ref (cm C)) d' (Kp H2 x)) (E V):=by
 split at h
 case isFalse=>exact h.elim
 rename_i hz;cases ex:KR fl qs [] [] with
 |none=>rw[ex] at h;exact h.elim
 |some z=>
  obtain⟨ns,ws⟩:=z;rw[ex] at h;refine⟨by rw[<-ò.length r1,ī];lia,λx hx=>?_⟩;obtain⟨fs,e1,e2,e3⟩:=FP (e:=.ref x) r1 (fs:=[]) ex rfl ò.nil;refine⟨x,vs,fs,rfl,by rw[<-ò.length r1];exact hz.1,þ,hz.2.2,e1,λH' d' q1 q2 q3 q4=>⟨rfl,d',q1,?_⟩⟩;have q2':QA (Kp H' x) x d' fs:=by
   rcases q2 with q|⟨d0,z1,z2,z3⟩
   ·exact .inl q
   ·exact .inr ⟨d0,z1,by rw[fX z3];exact z2,z3⟩
  obtain⟨F',rl,sF,sH,xd,fx⟩:=U7 (Ca:=cm C) ë hx q2' (λb u hb q=>by rw[fX hb];exact q3 b u hb q) q4;exact h V _ _ F' _ rl sF ⟨rfl,fs,xd,e2,ò.same sF _ _ e3⟩
def FQ(hc:X.calm=true)(OG:X.ex=[])(hrs:vD X E)(M:QD X.K (cm C) f)(F:Ĉ X.prog X.w X.K X.mg X.base CX k f fd ps (U5 n (cm C) fl))(hr:Ϗ (k+1) X.A)(hg:Gl X x)(hm:X.mg x=some (.ref (cm C)))(hb:Binds X.K fd ps [])(hx:ϴ CX X E)
 (ha:PA X (e::es) (tL (kk X cm) E ms))(oi:(x== ("__debug__" :Str))=false:=by decide)(he:å (e::es) X.env=(false,Ý e X.env)::å es X.env:=by exact ϗ rfl)(gJ:(Ŭ jp (å es X.env)).any (·.1)=false:=by rfl) :
 PS X (.Raise (some (.Call (.Name x np) (e::es) [] jp)) none pos) (tS (kk X cm) E (CK C n fl ms)):=by
 intro Ã s V H D I ⟨c,F',Y,rel,h⟩;rw[arm_exec_Raise];refine Ê (dw ?_);show Î _ _ (raiseStmt X.env (some (do let v <-Ý (.Call (.Name x np) (e::es) [] jp) X.env;fh pos;ö v)) none) _ _ _;refine JP (K:=X.K) (I.ok.hd hc) (Ê ?_);obtain⟨cd,bm,xc⟩:=fW M.x;obtain⟨dd,k0,k1,k2,k3,k5,lC⟩:=xc.at_;refine ŭ (fk (fJ I hg hm (pN (h₀:= X.base) I.ok.mod.OU M.kp (Ų (ha jp Ã s V H (λvs H1=>vs.length<=sizeLine/\∀x,H1 x=none->U5 n (cm C) fl (.ref x::vs) (upd H1 x (xn x (cm C) none)) (λv H2=>v=.non/\∃d',H2 x=some (xn x (cm C) d')/\E V (.ref (cm C)) d' (Kp H2 x)) (E V)) I
  ⟨c,F',Y,rel,Ź.bindL h fun qs Y1 vs F1 H1 ë _ _ r1 h1=>zY ë r1 h1⟩) fun us s1 ⟨vs,H1,I1,r,q0,q⟩=>⟨I1.eY,DS (G:=fun v s₁=>∃e C oe vs oC,v=.ref e∧X.K.In s₁.heap∧s₁.heap.get? C=some oC∧oC.cls=.type "type" ∧dG X.K C (.type "BaseException")=some true∧s₁.heap.get? e=some oe∧oe.cls=.ref C∧oe.data=.fields vs∧vs[1]?=some .none∧X.xe (.ref e) s₁)
    M F hr hb hx I1 r (by rw[<-Ĳ.length r];exact q0) q λy H2 s' _ zb I3 ⟨d',h1,h2⟩=>?_⟩) he gJ) oi)) (λv s3 h3=>Ê (dw (é h3))) λ_ _ z=>z
 obtain⟨⟨oe,ws,ho,Dt,wW,Ba,Yd⟩,_,_⟩:=(show ϓ X.prog X.w H2 s'.heap y (xn y (cm C) d') from I3.hok y _ h1);refine⟨y,cm C,oe,ws,_,rfl,I3.eY,I3.eY _ _ lC,rfl,xc.mroIs (by decide),ho,Dt,Ba,Yd,?_⟩;exact hrs Ã V (Kp H2 y) s' y oe ws (Inv.drop I3 h1) ho Ba Yd xZ (Inv.UZ I1 OG zb) (by rw[Dt,wW];exact h2)
noncomputable def qC(cs:List String)(f:Str):PV->Option PV
 | .xc C ns ps=>if cs.contains C=true then(ns.zip ps).lookup f else none
 |_=>none
def zZ{fn:Str}{m:M PV}(cs:List String)(WD:cV (λC=>aa X.K (cm C)=true/\ė X.K (cm C) fn) cs)(he:PE X e (tV (kk X cm) E m))(hb:kB e fn X.env (Ý e X.env)=Ý e X.env:=by rfl):PE X (.Attribute e fn pos) (tV (kk X cm) E (gB (qC cs fn) m)):=by
 intro Ã s V H Q I ⟨c,F,Y,rel,h⟩;refine B9 hb (Ų (he Ã s V H (λx H1=>∃a C d d0 fs v,x=.ref a/\H1 a=some (xo a C d)/\d=some d0/\H1 d0=some (.xd fs)/\aa X.K C=true/\ė X.K C fn/\fs.lookup fn=some v/\Q v H1) I ⟨c,F,Y,rel,h.bind λp Y1 v F1 H1 ë _ _ r1 h1=>?_⟩) λu s1 ⟨x,H1,I1,rx,a,C,d,d0,fs,v,ex,e1,e2,e3,k1,k2,l,q⟩=>?_)
 ·cases p with
  |xc C ns ps=>
   unfold qC at h1;dsimp only at h1;split at h1
   ·rename_i hc;have r2:Đ (kk X cm) F1 (.xc C ns ps) v:=r1;unfold Đ at r2;obtain⟨a,d,fs,rfl,q2,q3,q4,q5⟩:=r2;cases el:(ns.zip ps).lookup fn with
    |none=>rw[el] at h1;exact h1.elim
    |some q=>
     rw[el] at h1;subst q4;obtain⟨v,e1,e2⟩:=jH q5 el;obtain⟨k1,k2⟩:=WD.get hc;rcases q3 with⟨_,rfl⟩|⟨d0,z1,z2⟩
     ·cases e1
     ·exact⟨a,_,d,d0,fs,v,rfl,ë.sub _ _ q2,z1,ë.sub _ _ z2,k1,k2,e1,h1 v F1 H1 ë Ę Ę e2⟩
   ·exact h1.elim
  |_=>exact h1.elim
 ·subst ex e2;obtain rfl:u=ē a:=rx;obtain⟨cd,bm,xc⟩:=fW k1;obtain⟨⟨o,ws,ho,Dt,wW,Ba⟩,_,_⟩:=(show ϓ X.prog X.w H1 s1.heap a (xo a C (some d0)) from I1.hok a _ e1);obtain⟨mA,lR,r⟩:=(show ϓ X.prog X.w H1 s1.heap d0 (.xd fs) from I1.hok d0 _ e3);obtain⟨od,IB,hlk⟩:=lX lR;obtain⟨u,hu,ru⟩:=kX.some_of (v:=v) (o:=mA fn) (by rw[<-l];exact r fn);obtain⟨SY,Ik,Il,rN⟩:=o;dsimp only at Dt wW Ba;subst Dt wW Ba;exact ZaJ I1.eY (ox:=⟨.ref C,some d0,.fields ws,rN⟩) (od:=od) ⟨ho,rfl,rfl,IB⟩ xc k2 (by rw[hlk,hu]) (sD ru) ⟨v,H1,I1.tok _,ru,q⟩
end
def dR(K:Ñ)(C:À):Bool:=aa K C && ł K (.ref C) "__class__" == some (some (.builtin "object.__class__")) && u_ K (.builtin "object.__class__") "__get__" == some (some (.builtin "getset_descriptor.__get__")) && vc K (.builtin "object.__class__")== some true
def qD{K:Ñ}{C:À}(q:dR K C=true):aa K C=true/\ł K (.ref C) "__class__" =some (some (.builtin "object.__class__"))/\u_ K (.builtin "object.__class__") "__get__" =some (some (.builtin "getset_descriptor.__get__"))/\vc K (.builtin "object.__class__")=some true:=by unfold dR at q;simp only[Ė,beq_iff_eq] at q;obtain⟨⟨⟨z1,z2⟩,z3⟩,z4⟩:=q;exact⟨z1,z2,z3,z4⟩
section
variable{prog:î}{w:ß}{A:ð}{E:Á->Å->Prop}{s:Å}{K:Ñ}{x C:À}{ox:Obj}{od:Option Obj}
def JQ{R:dA->Å->Prop}{tk:Tok}(X:K.In s.heap)(I:bV s.heap x ox C od)(q:dR K C=true)
 (h:R (.ok (.ret (.ref C))) s):Ϛ (Ó prog w) A (.call (.builtin "BaseException.__getattribute__") ⟨[.ref x,.str "__class__" tk],[]⟩) R s:=by
 obtain⟨q0,q1,q2,q3⟩:=qD q;obtain⟨cd,bm,c⟩:=fW q0;have hk:builtinKind "BaseException.__getattribute__" =some .slot:=by decide +kernel
 have wX:splitId "BaseException.__getattribute__" =some ("BaseException","__getattribute__"):=by decide +kernel
 have L0:=I.type (M:=Ó prog w);have hf:PySem.W.findObj K C od "__class__" =some (.bind (.builtin "getset_descriptor.__get__") (.builtin "object.__class__")):=by unfold PySem.W.findObj;rw[c.cls,uy,q1,uy];simp[q2,q3]
 have L3:=vg (M:=Ó prog w) X I hf;have A9:dI (Ó prog w) s.heap (iP (.ref x) (.type "BaseException")) true:=L0.andThen (iY X (c.mroIs (by decide)));refine uG pD.ga.plain BO (@vf (Ó prog w) _ _ s "BaseException.__getattribute__" "BaseException" "__getattribute__" (.ref x) [.str "__class__" tk] [] _ hk wX A9 (BP (.ref x) (.str "__class__" tk)) ?_);unfold iQ.«object.__getattribute__»;refine Ê (é (Ê (é (Ê (L0.here (Ê (L3.here ?_)))))));refine Ê (ϫ (cG (PySem.W.class_get X I (c.mroIs (by decide)) ?_)));exact é h
def FS{Q:Option Á->Å->Prop}(X:K.In s.heap)(I:bV s.heap x ox C od)(q:dR K C=true)
 (h:Q (some (.ref C)) {s with toks:=s.toks+1}):Î (Ó prog w) A (getAttr? (.ref x) "__class__") Q E s:=by
 obtain⟨q0,q1,q2,q3⟩:=qD q;obtain⟨cd,bm,c⟩:=fW q0;have FB:=pD;obtain⟨hp,g,d,t,os⟩:=s;have L0:=I.type (M:=Ó prog w);have L1:=fz (M:=Ó prog w) X c.ga;have L2:=fz (M:=Ó prog w) X c.gg;unfold getAttr? getAttrBy? getAttrBy;refine Ê (wpAny_mkText (Ê (kH (ϫ (Ê (L0.at (Ê (L1.at ?_))))))));show Î _ _ (pj _ _ _ _ _ _) _ _ _;have f3:=FB.ga.bind (.ref x);unfold pj hookBefore callGetattribute;refine Ê (L2.at ?_);refine Ê (kH (ϫ ?_));rw[if_neg (by decide)];unfold boundAndCalled;rw[f3];refine Ê (é (cG ?_));exact JQ (s:=⟨hp,g,d,t+1,os⟩) X I q (show Î _ _ (handedOut (.ref C)) _ _ _ by rw[B2 rfl];exact é (é h))
end
def FT{K:Ñ}{x D:À}(q:dR K D=true):PySem.W.KitX K (.ref x) (.ref D) (λh=>∃ox od,bV h x ox D od):=by
 obtain⟨q0,q1,q2,q3⟩:=qD q;obtain⟨cd,bm,c⟩:=fW q0;obtain⟨dd,k0,k1,k2,k3,k5,lC⟩:=c.at_;refine⟨λ_ _ _ ⟨ox,od,I⟩=>I.type,λ_ _ X _=>?_,λh tp dd ċ n sl X htp=>?_,λX ⟨ox,od,I⟩ k=>FS X I q k⟩
 ·intro A' Q' E' s' k q;unfold isType loadHead;exact Ê (pd (k _ _ (X _ _ lC)) (é q))
 ·refine Bool.eq_false_iff.mpr λq=>?_;have e:D=tp:=Value.ref.inj (beq_iff_eq.mp q);subst e;have z:=congrArg Obj.cls (ŀ ((X _ _ lC).symm.trans htp));exact absurd (kQ z) (by decide)
section
variable{X:Cx}{cm:String->À}{K:KK}
def KU(K:Ñ):List Qqj->Hp->VK->Prop:=λxs H Q=>CC K xs H Q\/∃a C d fs c cv b,xs=[.ref a,c]/\RelV c cv/\(∀u,RelV c u->u=cv)/\H a=some (xo a C d)/\qi H d fs/\dR K C=true/\ō K (.ref C) cv=some b/\Q (.bl b) H
def ť:ϔ X (.builtin "isinstance") (KU X.K):=by
 intro Ã s V H xs us Q I r h;rcases h with h|⟨a,C,d,fs,c,cv,b,rfl,rc,uq,ha,hD,q,hk,hQ⟩
 ·exact Qr Ã s V H xs us Q I r h
 ·obtain⟨u,w',rfl,r1,r2⟩:=vals2 r;cases(show u=ē a from r1);rw[uq w' r2];obtain⟨⟨o,ws,ho,Dt,wW,Ba⟩,_,_⟩:=(show ϓ X.prog X.w H s.heap a (xo a C d) from I.hok a _ ha);obtain⟨SY,Ik,Il,rN⟩:=o;dsimp only at Dt wW Ba;subst Dt wW Ba;have J:∃ox od,bV s.heap a ox C od:=by
   rcases hD with⟨rfl,_⟩|⟨d0,rfl,z⟩
   ·exact⟨_,none,ho,rfl,rfl,trivial⟩
   ·obtain⟨od,z'⟩:=xQ (I.hok d0 _ z);exact⟨_,some od,ho,rfl,rfl,z'⟩
  exact ϱ (FT q) I.eY J hk (λz=>nomatch z) λtk=>⟨.bl b,H,I.tok _,rfl,hQ⟩
def vG(Q:String->String->Bool->Prop):List ((String×String)×Bool)->Prop
 | []=>True
 |((c,d),b)::r=>Q c d b/\vG Q r
theorem vG.get{Q:String->String->Bool->Prop}:∀{t:List ((String×String)×Bool)} {c d:String} {b:Bool},vG Q t->t.lookup (c,d)=some b->Q c d b
 | [],_,_,_,_,h=>by simp at h
 |((c',d'),b')::r,c,d,b,⟨h1,h2⟩,h=>by
  rw[ś] at h;cases e:(c,d)== (c',d') with
  |true=>rw[e] at h;cases h;obtain⟨rfl,rfl⟩:=Prod.mk.inj (beq_iff_eq.mp e);exact h1
  |false=>rw[e] at h;exact h2.get h
def į(tc tt:List ((String×String)×Bool))(ds nt:List String):List PV->Option PV
 | [.xc C _ _,.cls D]=>(tc.lookup (C,D)).map .bl
 | [.xc C _ _,.ty D]=>(tt.lookup (C,D)).map .bl
 | [.non,.cls D]=>if ds.contains D=true then some (.bl false) else none
 | [.non,.ty D]=>if nt.contains D=true then some (.bl false) else Fz [.non,.ty D]
 |ps=>Fz ps
def Ŧ{tc tt:List ((String×String)×Bool)}{ds nt:List String}(hc:vG (λC D b=>dR K.K (K.cm C)=true/\ō K.K (.ref (K.cm C)) (.ref (K.cm D))=some b) tc)
 (ht:vG (λC D b=>dR K.K (K.cm C)=true/\ō K.K (.ref (K.cm C)) (.type D)=some b) tt)(hd:cV (λD=>ō K.K (.type "NoneType") (.ref (K.cm D))=some false) ds)
 (hn:cV (λD=>ō K.K (.type "NoneType") (.type D)=some false) nt):dM K (KU K.K) (į tc tt ds nt):=by
 intro c F H V Y ps pv vs Q rel r e k;unfold į at e;split at e
 ·rename_i C ns qs D;obtain⟨v,u,rfl,r1,r2⟩:=Tb r;cases eb:tc.lookup (C,D) with
  |none=>rw[eb] at e;cases e
  |some b=>
   rw[eb] at e;cases e;obtain⟨k1,k2⟩:=hc.get eb;have rQ:Đ K F (.xc C ns qs) v:=by rcases r1 with q|q;exact q;exact q.elim
   have OI:Đ K F (.cls D) u:=by rcases r2 with q|q;exact q;exact q.elim
   unfold Đ at rQ OI;obtain⟨a,d,fs,rfl,q2,q3,q4,q5⟩:=rQ;subst OI;exact .inr ⟨a,_,d,fs,_,.ref (K.cm D),b,rfl,rfl,λu z=>z,rel.sub _ _ q2,q3.same rel.sub,k1,k2,k _ F H rel Ę Ę Đ.bl⟩
 ·rename_i C ns qs D;obtain⟨v,u,rfl,r1,r2⟩:=Tb r;cases eb:tt.lookup (C,D) with
  |none=>rw[eb] at e;cases e
  |some b=>
   rw[eb] at e;cases e;obtain⟨k1,k2⟩:=ht.get eb;have rQ:Đ K F (.xc C ns qs) v:=by rcases r1 with q|q;exact q;exact q.elim
   have OI:Đ K F (.ty D) u:=by rcases r2 with q|q;exact q;exact q.elim
   unfold Đ at rQ OI;obtain⟨a,d,fs,rfl,q2,q3,q4,q5⟩:=rQ;subst OI;exact .inr ⟨a,_,d,fs,_,.type D,b,rfl,rfl,λu z=>z,rel.sub _ _ q2,q3.same rel.sub,k1,k2,k _ F H rel Ę Ę Đ.bl⟩
 ·rename_i D;obtain⟨v,u,rfl,r1,r2⟩:=Tb r;split at e
  ·rename_i hD;cases e;cases r1.non;have OI:Đ K F (.cls D) u:=by rcases r2 with q|q;exact q;exact q.elim
   unfold Đ at OI;subst OI;exact .inl ⟨_,false,rfl,hd.get hD,k _ F H rel Ę Ę Đ.bl⟩
  ·cases e
 ·rename_i D;split at e
  ·rename_i hD;obtain⟨v,u,rfl,r1,r2⟩:=Tb r;cases e;cases r1.non;cases r2.ty;exact .inl ⟨_,false,rfl,hn.get hD,k _ F H rel Ę Ę Đ.bl⟩
  ·exact .inl (FA rel r e k)
 ·exact .inl (FA rel r e k)
end
noncomputable def QE(K:Ñ)(cm:String->À)(cs:List String)(D:String)(b:Bool):Bool:=match cs with
 | []=>true
 |c::r=>fC K (.ref (cm c)) (.ref (cm D))== some b && QE K cm r D b
theorem vH{K:Ñ}{cm:String->À}{D:String}{b:Bool}:∀{cs:List String},QE K cm cs D b=true->cV (λc=>fC K (.ref (cm c)) (.ref (cm D))=some b) cs
 | [],_=>trivial
 |c::r,h=>by unfold QE at h;rw[Ė] at h;exact⟨beq_iff_eq.mp h.1,vH h.2⟩
noncomputable def isC(K:Ñ)(cm:String->À):List ((String×String)×Bool)->Bool
 | []=>true
 |((c,d),b)::r=>dR K (cm c) && ō K (.ref (cm c)) (.ref (cm d))== some b && isC K cm r
theorem FU{K:Ñ}{cm:String->À}:∀{t:List ((String×String)×Bool)},isC K cm t=true->vG (λC D b=>dR K (cm C)=true/\ō K (.ref (cm C)) (.ref (cm D))=some b) t
 | [],_=>trivial
 |((c,d),b)::r,h=>by unfold isC at h;rw[Ė,Ė] at h;exact⟨⟨h.1.1,beq_iff_eq.mp h.1.2⟩,FU h.2⟩
noncomputable def isT(K:Ñ)(cm:String->À):List ((String×String)×Bool)->Bool
 | []=>true
 |((c,d),b)::r=>dR K (cm c) && ō K (.ref (cm c)) (.type d)== some b && isT K cm r
theorem FV{K:Ñ}{cm:String->À}:∀{t:List ((String×String)×Bool)},isT K cm t=true->vG (λC D b=>dR K (cm C)=true/\ō K (.ref (cm C)) (.type D)=some b) t
 | [],_=>trivial
 |((c,d),b)::r,h=>by unfold isT at h;rw[Ė,Ė] at h;exact⟨⟨h.1.1,beq_iff_eq.mp h.1.2⟩,FV h.2⟩
noncomputable def isD(K:Ñ)(cm:String->À):List String->Bool
 | []=>true
 |d::r=>ō K (.type "NoneType") (.ref (cm d))== some false && isD K cm r
theorem FW{K:Ñ}{cm:String->À}:∀{t:List String},isD K cm t=true->cV (λD=>ō K (.type "NoneType") (.ref (cm D))=some false) t
 | [],_=>trivial
 |d::r,h=>by unfold isD at h;rw[Ė] at h;exact⟨beq_iff_eq.mp h.1,FW h.2⟩
def QF(K:Ñ):List String->Bool
 | []=>true
 |d::r=>ō K (.type "NoneType") (.type d)== some false && QF K r
theorem CM{K:Ñ}:∀{t:List String},QF K t=true->cV (λD=>ō K (.type "NoneType") (.type D)=some false) t
 | [],_=>trivial
 |d::r,h=>by unfold QF at h;rw[Ė] at h;exact⟨beq_iff_eq.mp h.1,CM h.2⟩
def KW(K:Ñ)(C f:À):Bool:=aa K C && Ť K (.ref C) && ł K (.ref C) "__init__" == some (some (.ref f)) && pJ K (.ref f)== some (.type "function")
def vI{K:Ñ}{C f:À}(h:KW K C f=true):QD K C f:=by unfold KW at h;simp only[Ė,beq_iff_eq] at h;exact⟨h.1.1.1,h.1.1.2,h.1.2,h.2⟩
def DT{l:fA}{k:Nat}{x:Str}{m:MF}{q:î}{jE:List Str}{XP:(Str->Option Á)->Õ->Prop}{YP:ß->Õ->Prop}{d:DefRec}{K:Params->Ñ}(hn:l.most=some 63)(SG:d.params.defaults=[])(hr:Ϗ k dD)
 (hY:∀(w:ß) (h:Õ),YP w h->(K w.params).In h)
 (F:∀(w:ß) (mg:Str→Option Á) (fa:À) (h:Õ),(K w.params).In h→h.Ns ū mg→mg d.name=some (.ref fa)→
   ∃fd:ě,(∀(s:Å) (u:Á),dB s fd ⟨[u],[]⟩ [(x,u)])/\∀base:Õ,(K w.params).In base->base.Ns ū mg->∃cm,Ĉ l.prog w (K w.params) mg base (ż l.prog w) k fa fd [x] (ſ ⟨K w.params,cm⟩ 1 m))
 (ht:∀ns:List Int,ns.length<=63->m [.sh (.lst (ns.map .int))]=.ret (.sh (.bl true)))
 (hnt:lams≠[]->∀w:ß,pL (K w.params)=true:=by intro z;exact absurd rfl z)(Ed:∀y z,y∈lams->z∈lams->y=z:=by simp[lams])(hrec:∀y,y∈lams->∃d,(oW q).find? (λe=>e.name== y)=some d:=by simp[lams]) :
 pK q jE XP YP l.row.toRowW d [] (λf vs=>ph f vs):=by
 refine L2.Jb (n:=63) (k:=k) (x:=x) (CX:=λw=>ż l.prog w) (sp:=λw=>UQ (K w.params)) hn (by decide) SG hr hY (λw mg fa h h1 h2 h3=>?_) (λw H a ns hl _ hS=>⟨a,ns,rfl,hS,hl,λ_ _ z=>z⟩) (λw H s e s' z=>sS z) hnt Ed hrec;obtain⟨fd,hb,hF⟩:=F w mg fa h h1 h2 h3;refine⟨fd,hb,λbase k1 k2=>?_⟩;obtain⟨cm,G⟩:=hF base k1 k2;refine G.imp λvs H Q E hs=>?_;obtain⟨sa,ns,rfl,hS,hl,hq⟩:=hs;refine⟨H,[.sh (.lst (ns.map .int))],rfl,Û.refl _,.cons ?_ .nil,?_⟩
 ·show Đ _ _ _ _;unfold Đ;exact⟨sa,_,rfl,hS,xN ns⟩
 ·rw[ht ns hl];intro v F' H' g rf;have e:v=.bl true:=vv (K:=⟨K w.params,cm⟩) (F:=F') rf;exact hq v H' e
section
variable{Y:Ĝ}{C:String}{i:Nat}{mh:M Fl}{mr:MH}{OH no:List String}{x:PX}
@[simp] theorem ZaM:jd i OH no mh mr x Y=(if OH.contains x.C=true then(match mh (Y.set i (.sh (.xc x.C x.ns x.ps))) with
  | .ok f Y2=>.ok f (Y2.set i .no)
  |_=>.bad) else if no.contains x.C=true then mr x Y else .bad):=rfl
end
section
end
section
variable{X:Cx}{K:KK}
theorem aQ:∀{ns:List Int} {ċ:List Á},Ĳ (ns.map Qqj.int) ċ->iI ċ ns
 | [],ċ,h=>by cases h;exact .nil
 |n::ns,ċ,h=>by
  cases h with
  |cons r t=>obtain⟨k,e⟩:=(show ∃k,_=kP n k from r);subst e;exact .cons n k (aQ t)
def U8(K:Ñ):List Qqj->Hp->VK->Prop:=λxs H Q=>∃(p:À) (ns:List Int),xs=[.ref p]/\Ϟ K H p (ns.map Qqj.int)/\Q (.int ns.sum) H
def qE(hc:X.calm=true):ϔ X (.builtin "sum") (U8 X.K):=by
 intro Ã s V H xs us Q I r h;obtain⟨p,ns,rfl,hS,q⟩:=h;obtain⟨u,rfl,ru⟩:=vals1 r;cases ru;obtain⟨ċ,rv,pl,hz⟩:=I.list hS;have hi:=aQ rv;obtain⟨ys,e⟩:=hi.allInts.items;have lR:ns=ys.toList.map (·.1):=by rw[<-hi.numsOf,<-pk,<-e]
 have hl:=pl.isList;rw[e] at hl;refine sum_intListG (show X.A.handled=none from I.ok.hd hc) hl λh' tk t' hk=>?_;refine⟨.int ns.sum,H,I.kept hk,⟨t',?_⟩,q⟩;rw[preSum_eq,Bh (by simp),<-lR]
section
variable{prog:î}{w:ß}{A:ð}{E:Á->Å->Prop}{s:Å}{l:À}{xs:Array (Int×Tok)}
def x_{Q:Á->Å->Prop}(hl:s.heap.IsTuple l (dE xs))
 (h:∀s₂:Å,s₂= {s with heap:=s.heap.push {cls:=.type "tuple_iterator",data:=.fields #[.ref l,.int 0 0]}}→
   (s₂.heap.IsTupleIter s.heap.objs.size l 0/\s₂.heap.IsTuple l (dE xs))->(∀b∈[s.heap.objs.size,l],b<s₂.heap.objs.size)->l≠s.heap.objs.size->(∀h':Õ,(∀b o,b∉[s.heap.objs.size]->s₂.heap.get? b=some o->h'.get? b=some o)->∀b o,s.heap.get? b=some o->h'.get? b=some o)->Q (.ref s.heap.objs.size) s₂) :
 Î (Ó prog w) A (cC (.ref l)) Q E s:=by
 have gA:l<s.heap.objs.size:=by obtain⟨_,e,_⟩:=hl;exact ó e
 refine uF hl (h _ rfl ⟨⟨_,Ħ _ rfl,rfl,rfl⟩,hl.push _⟩ (λb hb=>?_) (ę gA) λh' hk b o e=>?_)
 ·show b<(s.heap.push _).objs.size;rw[ϰ];rcases Ā.mp hb with rfl|hb
  ·exact oR _
  ·rcases Ā.mp hb with rfl|hb
   ·exact dr gA
   ·cases hb
 ·refine hk b o (λhm=>?_) (ï _ e);rcases Ā.mp hm with e1|hm
  ·exact absurd (e1▸ó e) (ų _)
  ·cases hm
def z_{Q:Á->Å->Prop}(hh:A.handled=none)(hl:s.heap.IsTuple l (dE xs))(eW:0<xs.size)
 (h:∀v h' tk,(dE xs)[argBest (λi j=>decide (bi xs i>bi xs j)) (xs.size-1)]?=some v->(∀b o,s.heap.get? b=some o->h'.get? b=some o)->Q v {s with heap:=h',toks:=tk}) :
 Î (Ó prog w) A (call (.builtin "max") [.ref l]) Q E s:=by
 refine call_max_walk (x_ hl λs₂ e st hfp hlI hk0=>?_);subst e;refine⟨_,_,_,_,_,_,_,rfl,Walks.tuple (A:=A.in1) hh _ l hlI (dE xs),st,hfp,by simpa[dE] using eW,CmpOf.ints_gt (bi xs) (λ_ _=>intItems_at),λv h' tk hP hk=>?_⟩;exact h v h' tk (by simpa[dE] using hP) (hk0 h' hk)
end
def U9(K:Ñ):List Qqj->Hp->VK->Prop:=λxs H Q=>∃(p:À) (ns:List Int),xs=[.ref p]/\(Ϟ K H p (ns.map Qqj.int)\/da K H p (ns.map Qqj.int))/\0<ns.length/\∀M,M∈ns->(∀a∈ns,a<=M)->Q (.int M) H
def FX(hc:X.calm=true):ϔ X (.builtin "max") (U9 X.K):=by
 intro Ã s V H xs us Q I r h;obtain⟨p,ns,rfl,hS,eW,q⟩:=h;obtain⟨u,rfl,ru⟩:=vals1 r;cases ru;have gz:∀(ys:Array (Int×Tok)),ns=ys.toList.map (·.1)->0<ys.size->∀v h' tk,(dE ys)[argBest (λi j=>decide (bi ys i>bi ys j)) (ys.size-1)]?=some v->(∀b o,s.heap.get? b=some o->h'.get? b=some o)->EP X Ã V Q v {s with heap:=h',toks:=tk}:=by
  intro ys lR jO v h' tk hv hk;obtain⟨t,rfl⟩:=intItems_at hv;obtain⟨h1,h2⟩:=argBest_gt (bi ys) (ys.size-1);refine⟨.int _,H,I.kept hk,⟨t,rfl⟩,q _ ?_ λa ha=>?_⟩
  ·rw[lR,numAt_eq];have hj:argBest (λi j=>decide (bi ys i>bi ys j)) (ys.size-1)<(ys.toList.map (·.1)).length:=by rw[ř,a_];lia
   rw[Ϫ,Ō hj];exact cz _
  ·rw[lR] at ha;obtain⟨j,hj,rfl⟩:=ka.mp ha;rw[ř,a_] at hj;have:=h2 j (by lia);rw[numAt_eq ys j,Ϫ,Ō (by rw[ř,a_];exact hj)] at this;exact this
 rcases hS with hS|hS
 ·obtain⟨ċ,rv,pl,hz⟩:=I.list hS;have hi:=aQ rv;obtain⟨ys,e⟩:=hi.allInts.items;have lR:ns=ys.toList.map (·.1):=by rw[<-hi.numsOf,<-pk,<-e]
  have hl:=pl.isList;rw[e] at hl;have jO:0<ys.size:=by rw[lR,ř,a_] at eW;exact eW
  exact max_intList (show X.A.handled=none from I.ok.hd hc) hl jO (gz ys lR jO)
 ·obtain⟨ċ,rv,pl,hz⟩:=I.tuple hS;have hi:=aQ rv;obtain⟨ys,e⟩:=hi.allInts.items;have lR:ns=ys.toList.map (·.1):=by rw[<-hi.numsOf,<-pk,<-e]
  have hl:s.heap.IsTuple p ċ.toArray:=pl;rw[e] at hl;have jO:0<ys.size:=by rw[lR,ř,a_] at eW;exact eW
  exact z_ (show X.A.handled=none from I.ok.hd hc) hl jO (gz ys lR jO)
def Va(K:Ñ):List Qqj->Hp->VK->Prop:=λxs H Q=>∃(p:À) (ns:List Int),xs=[.ref p]/\Ϟ K H p (ns.map Qqj.int)/\0<ns.length/\∀M,M∈ns->(∀a∈ns,M<=a)->Q (.int M) H
def FY(hc:X.calm=true):ϔ X (.builtin "min") (Va X.K):=by
 intro Ã s V H xs us Q I r h;obtain⟨p,ns,rfl,hS,eW,q⟩:=h;obtain⟨u,rfl,ru⟩:=vals1 r;cases ru;obtain⟨ċ,rv,pl,hz⟩:=I.list hS;have hi:=aQ rv;obtain⟨ys,e⟩:=hi.allInts.items;have lR:ns=ys.toList.map (·.1):=by rw[<-hi.numsOf,<-pk,<-e]
 have hl:=pl.isList;rw[e] at hl;have jO:0<ys.size:=by rw[lR,ř,a_] at eW;exact eW
 refine min_intList (show X.A.handled=none from I.ok.hd hc) hl jO λv h' tk hv hk=>?_;obtain⟨t,rfl⟩:=intItems_at hv;obtain⟨h1,h2⟩:=argBest_lt (bi ys) (ys.size-1);refine⟨.int _,H,I.kept hk,⟨t,rfl⟩,q _ ?_ λa ha=>?_⟩
 ·rw[lR,numAt_eq];have hj:argBest (λi j=>decide (bi ys i<bi ys j)) (ys.size-1)<(ys.toList.map (·.1)).length:=by rw[ř,a_];lia
  rw[Ϫ,Ō hj];exact cz _
 ·rw[lR] at ha;obtain⟨j,hj,rfl⟩:=ka.mp ha;rw[ř,a_] at hj;have:=h2 j (by lia);rw[numAt_eq ys j,Ϫ,Ō (by rw[ř,a_];exact hj)] at this;exact this
noncomputable def aP:List PV->Option (List Int)
 | []=>some []
 | .int b::ps=>(aP ps).map (b:: ·)
 |_::_=>none
@[simp] theorem jI:∀ns:List Int,aP (ns.map PV.int)=some ns
  | []=>rfl
  |n::ns=>by rw[ý,aP,jI ns];rfl
theorem lS{F:Hp}:∀{ps:List PV} {vs:List Qqj} {bs:List Int},ò K F ps vs->aP ps=some bs->vs=bs.map Qqj.int
 | [],vs,bs,r,h=>by cases h;cases r.pr;rfl
 |p::ps,vs,bs,r,h=>by
  cases r.pr with
  |cons r1 t=>
   cases p with
   |int b=>unfold aP at h;obtain⟨cs,e,rfl⟩:=ko.mp h;rw[lS (ò.of t) e,show _=Qqj.int b from r1];rfl
   |_=>cases h
def wY(f:Int->Int->Int):List Int->Option Int
 | []=>none
 |n::ns=>some (ns.foldl f n)
theorem tU:∀(ns:List Int) (n:Int),ns.foldl max n∈n::ns/\∀a∈n::ns,a<=ns.foldl max n
 | [],n=>by simp
 |m::ns,n=>by
  obtain⟨h1,h2⟩:=tU ns (max n m);rw[aC];refine⟨?_,λa ha=>?_⟩
  ·rcases Ā.mp h1 with e|e
   ·rw[e];by_cases h:n<=m
    ·rw[Int.max_eq_right h];simp
    ·rw[Int.max_eq_left (by lia)];simp
   ·simp[e]
  ·have hm:=h2 (max n m) ĭ;rcases Ā.mp ha with rfl|ha
   ·lia
   ·rcases Ā.mp ha with rfl|ha
    ·lia
    ·exact h2 a (Ă _ ha)
theorem tW:∀(ns:List Int) (n:Int),ns.foldl min n∈n::ns/\∀a∈n::ns,ns.foldl min n<=a
 | [],n=>by simp
 |m::ns,n=>by
  obtain⟨h1,h2⟩:=tW ns (min n m);rw[aC];refine⟨?_,λa ha=>?_⟩
  ·rcases Ā.mp h1 with e|e
   ·rw[e];by_cases h:n<=m
    ·rw[Int.min_eq_left h];simp
    ·rw[Int.min_eq_right (by lia)];simp
   ·simp[e]
  ·have hm:=h2 (min n m) ĭ;rcases Ā.mp ha with rfl|ha
   ·lia
   ·rcases Ā.mp ha with rfl|ha
    ·lia
    ·exact h2 a (Ă _ ha)
def nO:List PV->Option PV
 | [.lst ps]=>(aP ps).map λns=>.int ns.sum
 |_=>none
def sV:List PV->Option PV
 | [.lst ps]=>((aP ps).bind (wY max)).map .int
 | [.tup ps]=>((aP ps).bind (wY max)).map .int
 |_=>none
def sW:List PV->Option PV
 | [.lst ps]=>((aP ps).bind (wY min)).map .int
 |_=>none
def qF:dM K (U8 K.K) nO:=by
 intro c F H V Y ps pv vs Q rel r e k;unfold nO at e;split at e
 ·rename_i ps;obtain⟨v,rfl,r1⟩:=CA r;obtain⟨a,xs,rfl,h1,h2⟩:=r1.lst rel.sub;obtain⟨ns,eb,rfl⟩:=ko.mp e;exact⟨a,ns,rfl,by rw[<-lS h2 eb];exact h1,k _ F H rel Ę Ę Đ.int⟩
 ·cases e
def FZ:dM K (U9 K.K) sV:=by
 intro c F H V Y ps pv vs Q rel r e k;have gz:∀(ps:List PV) (xs:List Qqj),ò K F ps xs->((aP ps).bind (wY max)).map PV.int=some pv->∃ns:List Int,xs=ns.map Qqj.int/\0<ns.length/\∀M,M∈ns->(∀a∈ns,a<=M)->Q (.int M) H:=by
  intro ps xs h2 e;obtain⟨m,em,rfl⟩:=ko.mp e;obtain⟨ns,eb,hb⟩:=Bv.mp em;cases ns with
  |nil=>cases hb
  |cons n ns=>cases hb;obtain⟨z1,z2⟩:=tU ns n;refine⟨n::ns,lS h2 eb,by simp,λM m1 m2=>?_⟩;have:M=ns.foldl max n:=Int.le_antisymm (z2 M m1) (m2 _ z1);rw[this];exact k _ F H rel Ę Ę Đ.int
 unfold sV at e;split at e
 ·rename_i ps;obtain⟨v,rfl,r1⟩:=CA r;obtain⟨a,xs,rfl,h1,h2⟩:=r1.lst rel.sub;obtain⟨ns,rfl,hl,hq⟩:=gz ps xs h2 e;exact⟨a,ns,rfl,.inl h1,hl,hq⟩
 ·rename_i ps;obtain⟨v,rfl,r1⟩:=CA r;obtain⟨a,xs,rfl,h1,h2⟩:=r1.tup rel.sub;obtain⟨ns,rfl,hl,hq⟩:=gz ps xs h2 e;exact⟨a,ns,rfl,.inr h1,hl,hq⟩
 ·cases e
def F_:dM K (Va K.K) sW:=by
 intro c F H V Y ps pv vs Q rel r e k;unfold sW at e;split at e
 ·rename_i ps;obtain⟨v,rfl,r1⟩:=CA r;obtain⟨a,xs,rfl,h1,h2⟩:=r1.lst rel.sub;obtain⟨m,em,rfl⟩:=ko.mp e;obtain⟨ns,eb,hb⟩:=Bv.mp em;cases ns with
  |nil=>cases hb
  |cons n ns=>cases hb;obtain⟨z1,z2⟩:=tW ns n;refine⟨a,n::ns,rfl,by rw[<-lS h2 eb];exact h1,by simp,λM m1 m2=>?_⟩;have:M=ns.foldl min n:=Int.le_antisymm (m2 _ z1) (z2 M m1);rw[this];exact k _ F H rel Ę Ę Đ.int
 ·cases e
@[simp] theorem je{ps:List PV}:nO [.lst ps]=(aP ps).map λns=>.int ns.sum:=rfl
@[simp] theorem JR{ps:List PV}:sV [.lst ps]=((aP ps).bind (wY max)).map .int:=rfl
@[simp] theorem JS{ps:List PV}:sW [.lst ps]=((aP ps).bind (wY min)).map .int:=rfl
@[simp] theorem Xo{f:Int->Int->Int}{n:Int}{ns:List Int}:wY f (n::ns)=some (ns.foldl f n):=rfl
end
noncomputable def Vb(K:Ñ)(C:À):Bool:=kS K C Str.empty && iX K C && uW K C && ł K (.ref C) "__setattr__" == some (some (.builtin "object.__setattr__"))
def jJ{K:Ñ}{C:À}(h:Vb K C=true):nL K C:=by unfold Vb at h;simp only[Ė,beq_iff_eq] at h;exact⟨h.1.1.1,h.1.1.2,h.1.2,h.2⟩
noncomputable def KY(K:Ñ)(C:À)(m:Str)(f:À):Bool:=ł K (.ref C) m== some (some (.ref f)) && kT K (.ref f) && Ť K (.ref f)
def lp{K:Ñ}{C f:À}{m:Str}(h:KY K C m f=true):wU K C m f:=by unfold KY at h;simp only[Ė,beq_iff_eq] at h;exact⟨h.1.1,h.1.2,h.2⟩
noncomputable def mkB(K:Ñ)(C f:À):Bool:=uZ K C && ł K (.ref C) "__init__" == some (some (.ref f)) && kT K (.ref f) && Ť K (.ref C)
def qG{K:Ñ}{C f:À}(h:mkB K C f=true):Mk K C f:=by unfold mkB at h;simp only[Ė,beq_iff_eq] at h;exact⟨h.1.1.1,h.1.1.2,h.1.2,h.2⟩
section
variable{Y:Ĝ}{n k:Nat}{C:String}{cs:List String}{f m:Str}{mo:M PV}{ms:M (List Slot)}{mb:M Fl}{gK:List (String×MF)}{as:List Slot}{ns:List Str}{ps:List PV}
@[simp] theorem Xp:dP n k C mb as=if as.length+1=n then IR.of (mb (.rc C [] []::ş (k-1) as)) else .bad:=rfl
@[simp] theorem ZaN{C:String}:IR.of (.ok .nx (.rc C ns ps::Y))=.ok ns ps:=rfl
@[simp] theorem ZaO:bK cs f (.ins C ns ps)=if cs.contains C=true then(ns.zip ps).lookup f else none:=rfl
@[simp] theorem JT:qz m gK mo ms Y=(mo Y).bind fun p Y1=>match p with
  | .ins C ns ps=>match gK.lookup C with
    |some mf=>if ns.contains m=true then .bad else(ms Y1).bind λas Y2=>match mf (.sh (.ins C ns ps)::as) with
     | .ret r=>.ok r Y2
     | .exc x=>.exc x Y2
     | .bad=>.bad
    |none=>.bad
  |_=>.bad:=rfl
end
end P
namespace M3
open PySem PySem.Spec PyProof.Rows L2 M2
section
variable{X:Cx}{elt tg iter:Ð}{ifs:List Ð}{scope:ą}{pos:Pos}{wi:TI}{g:TG}{tt:TT}{te:TE}
def JU{iv:Nat}{y:Str}{py zg:Pos}(hN:X.N.Nodup)(hiN:X.N[iv]?=some y)(hy:X.env.scope.names.lookup y=some .local)(WJ:ai (.ListComp elt [⟨tg,iter,ifs,0⟩] scope pos) (some (.Name y py)) zg.line X.env=ö true)(N':List Str)(js:List Nat)(nl:Nat)(sc:ą)(rY:X.env.scope=sc)(hcalm:X.calm=true)
 (hi:PI X.ϖ tg iter wi)(hg:∀cl C s H fp,PG (d_ X.ϖ N' scope cl C s H fp) tg g)(ht:∀cl C s H fp,Ej (d_ X.ϖ N' scope cl C s H fp) ifs tt)(he:∀cl C s H fp,PE (d_ X.ϖ N' scope cl C s H fp) elt te)
 (hcap:eK X.ϖ sc scope N' js)(hlen:js.length+nl=N'.length:=by rfl)
 (hk:scope.kind=.function:=by rfl)(hcell:∀y∈scope.names,y.2=.cell->scope.names.lookup y.1=some .cell:=by decide +kernel)(hnames:∀y∈scope.names,y.2=.local->scope.names.lookup y.1=some .local:=by decide +kernel)
 (hfree:∀y∈scope.names,y.2=.free->(sc.names.lookup y.1=some .cell\/sc.names.lookup y.1=some .free):=by decide +kernel)
 (hs:∀x,dz iter X.env x=ö x:=by intro _;rfl) :
 PS X.ϖ (.Assign [.Name y py] (.ListComp elt [⟨tg,iter,ifs,0⟩] scope pos) zg) (λD V H=>E3 js nl wi g tt te V H λv H'=>D.nx (V.set iv (some v)) H'):=by
 intro Ã s V H D I h;obtain⟨Ur,c1,c2,c3⟩:=fO (scope:=scope) (env:=X.ϖ.env) λy hy hf=>I.ok.has y.1 (by
  have:=hfree y hy hf;rw[<-rY] at this;exact this)
 rw[exec_Assign_Name_used _ _ _ _ (show ai _ _ _ X.ϖ.env=ö true from WJ)];refine Ê (dw (Ê ?_));show Î _ X.A (do let _ <-comprehension (.ListComp elt [⟨tg,iter,ifs,0⟩] scope pos) scope X.ϖ.env _ (newList []) false (Ý iter X.ϖ.env) (some (aF (.Name y py) X.ϖ.env))) _ _ s;refine Ê (ŭ (BF (Q:=λ_ s'=>SP X.ϖ Ã D .next s') (use:=some (aF (.Name y py) X.ϖ.env)) rfl hs c1 hk hnames (Ų (hi Ã s V H _ I h) λv s1 h1=>Ų h1 λX7 s2 h2=>?_)) (λ_ s' hq=>é (é hq)) λ_ _ e=>e);obtain⟨it,fp,tn,J,H2,e,I2,T,Sy,f2,q2⟩:=h2;subst e;refine iJ (jr (λh₁ A7 pZ PY=>?_));dsimp only at A7 pZ PY ⊢;generalize PZ:s2.heap.push {cls:=.type "list",dict:=none,data:=.seq ([]:List Á).toArray}=cJ at A7 pZ PY ⊢;have hD:H2 s2.heap.objs.size=none:=I2.hok.fresh (õ _);have I3:Inv X.ϖ Ã V (upd H2 s2.heap.objs.size (.lst [])) {s2 with heap:=cJ}:=by rw[<-PZ];exact I2.laid (t':=s2.toks) (λb u e=>ï _ e) (õ _) ⟨cA _,[],0,.nil,Ħ _ rfl⟩
 have E6:∀b∈fp,b<s2.heap.objs.size:=λb hb=>by obtain⟨o,ho,_⟩:=T.obj 0 _ Sy b hb;exact ó ho
 have P_:cJ.objs.size=s2.heap.objs.size+1:=by rw[<-PZ,ϰ]
 have f3:∀b∈fp,cb X.ϖ Ã (upd H2 s2.heap.objs.size (.lst [])) b:=λb hb=>by obtain⟨g0,g1⟩:=f2 b hb;exact⟨by rw[ì (ę (E6 b hb))];exact g0,g1⟩
 have B:=E4 (X:=X.ϖ) (cl:=Ur) hcell c2 c3 (λx c e=>by obtain⟨v,o,ho,_⟩:=I3.cell x c e;exact ó ho) PY;generalize œ (cJ.objs.size+1) scope.names Ur=cl at B ⊢;obtain⟨W,⟨m0,w0⟩,turn⟩:=q2 s2.heap.objs.size hD;have I4:=sO (X:=X.ϖ) (N':=N') (js:=js) (nl:=nl) (sc:=sc) (scope:=scope) (cl:=cl) (fp:=fp) (h':=h₁) (tk:=s2.toks) rY hk hcap hlen B I3 f3 (λb hb=>by show b<cJ.objs.size;rw[P_];exact dr (E6 b hb)) A7 pZ;have Us:tn 0 h₁:= T.keep 0 _ _ Sy λb hb o e=>pZ b o (by rw[<-PZ];exact ï _ e);have YN:∀b∈fp,(upd H2 s2.heap.objs.size (.lst [])) b=none:=λb hb=>(f3 b hb).1;have stat:∀{H':Hp},(∀b∈fp,H' b=none)->∀b∈fp,cb (d_ X.ϖ N' scope cl cJ.objs.size {s2 with heap:=cJ} (upd H2 s2.heap.objs.size (.lst [])) fp) [] H' b:=fun{H'} hn b hb=>by
  obtain⟨g0,g1,g2,g3,g4,g5⟩:=f3 b hb;refine⟨hn b hb,ę (by show b<cJ.objs.size;rw[P_];exact dr (E6 b hb)),λz=>?_,.inl hb,λx c e=>by
   rcases B.at_ x c e with⟨q,_⟩|⟨q,_⟩
   ·exact g4 x c q
   ·exact bf (ut (by show b<cJ.objs.size;rw[P_];exact dr (E6 b hb)) q),λp hp=>absurd hp (by simp[d_])⟩
  rcases Ā.mp (I3.p_ b z) with z|z
  ·exact g1 z
  ·exact g2 z
 have loop:∀s₃:Å,s₃= {s2 with heap:=h₁}->
  Ϛ (Ó X.prog X.w) X.A (.compLoop (.ListComp elt [⟨tg,iter,ifs,0⟩] scope pos) 0 (.ref it) (.ref s2.heap.objs.size) (compEnvC scope cl cJ.objs.size X.ϖ.env))
   (compPost (Ó X.prog X.w) X.A X.ϖ.xe (some (aF (.Name y py) X.ϖ.env)) (λ_ s'=>SP X.ϖ Ã D .next s') (.ref s2.heap.objs.size) cJ.objs.size) s₃:= by
  rintro s₃ rfl;refine k_ (λn s'=>∃i V' H',Inv (d_ X.ϖ N' scope cl cJ.objs.size {s2 with heap:=cJ} (upd H2 s2.heap.objs.size (.lst [])) fp) [] V' H' s'/\tn i s'.heap/\(∀b∈fp,H' b=none)/\W i n V' H') ?_ m0 ⟨0,_,_,I4,Us,YN,w0⟩;rintro n s5 ⟨i,V5,H5,I5,IM,Pb,w5⟩;rcases turn i n V5 H5 w5 with⟨stop,qn⟩|⟨go,N,hN,step⟩
  ·refine Ų (T.done (d_ X.ϖ N' scope cl cJ.objs.size {s2 with heap:=cJ} (upd H2 s2.heap.objs.size (.lst [])) fp) rfl rfl rfl hcalm i [] s5 V5 H5 (λ_ _=>False) I5 (stat Pb) IM stop) λr s6 ⟨hr,I6⟩=>?_;subst hr;obtain⟨m,hm,_⟩:=I6.loc;have I7:Inv X.ϖ Ã V H5 s6:=qg (h':=s6.heap) I3 f3 I6 (λb u hb e=>e);have hCL:cJ.objs.size≠X.ϖ.env.locals:=bf I3.lt;have Yc:∀x c,X.ϖ.env.cells.lookup x=some c->c≠cJ.objs.size:=λx c e z=>by
    obtain⟨v,o,ho,_⟩:=I3.cell x c e;exact absurd (ó ho) (by rw[z];exact ų _)
   have hpC:∀p∈X.ϖ.pn++Ã,p.1≠cJ.objs.size:=λp hp z=>by have:=ó (I3.pin p hp).1;rw[z] at this;exact ų _ this
   have hnC:H5 cJ.objs.size=none:=I6.free;refine wpAny_assign_Name (sB (X:=X.ϖ) (i:=iv) I7 hN hiN (.inl hy) (v:=.ref s2.heap.objs.size) rfl (λs8 I8 ⟨a8,sb8,ha8⟩=>?_) (.inr hy));have ne8:cJ.objs.size≠a8:=by
    rcases ha8 with rfl|ha8
    ·exact hCL
    ·exact λz=>Yc _ _ ha8 z.symm
   refine⟨m,hm.sameBut sb8 ne8,λh' Iz=>⟨_,H5,?_,qn⟩⟩;have kp:∀b o,b≠cJ.objs.size->s8.heap.get? b=some o->h'.get? b=some o:=λb o hb e=>Iz.extBut b o hb e;have kp':∀b o,b∉[cJ.objs.size]->s8.heap.get? b=some o->h'.get? b=some o:=λb o hb e=>kp b o (λz=>hb (by rw[z];exact ĭ)) e;refine I8.call' (ch:=[cJ.objs.size]) (s':={s8 with heap:=h'}) rfl ⟨λb o e _ _ hx=>kp' b o hx e,λb o e _ _ hx=>⟨o.slots,kp' b o hx e⟩,λb o _ n _=>n,λb o e hx=>⟨o,kp' b o hx e⟩,λ_ _ q=>q,λ_ _ _ q=>q,λ_ ps q=>q⟩ (Cf I8.hok hnC kp) I8.bare λb hb=>?_;cases aD.mp hb;exact⟨.inr I3.sz,hCL,Yc,hpC⟩
  ·refine Ų (T.item (d_ X.ϖ N' scope cl cJ.objs.size {s2 with heap:=cJ} (upd H2 s2.heap.objs.size (.lst [])) fp) rfl rfl rfl hcalm i [] s5 V5 H5 (λ_ _=>False) I5 (stat Pb) IM go) λr s6 ⟨u,hr,h6⟩=>?_;subst hr;refine Ų h6 λ_ s7 ⟨x,H7,I7,r7,y7,P0,YO⟩=>?_;have YQ:=I7.pinned (stat YO) (T.obj _ _ P0);have again:∀{s8:Å} {V8:Ģ} {H8:Hp},Inv (d_ X.ϖ N' scope cl cJ.objs.size {s2 with heap:=cJ} (upd H2 s2.heap.objs.size (.lst [])) fp) ([]++lV fp s7.heap) V8 H8 s8->
    Inv (d_ X.ϖ N' scope cl cJ.objs.size {s2 with heap:=cJ} (upd H2 s2.heap.objs.size (.lst [])) fp) [] V8 H8 s8/\tn (i+1) s8.heap/\∀b∈fp,H8 b=none:=fun{s8 V8 H8} I8=>by
    refine⟨I8.eI,T.keep _ _ _ P0 λb hb o e=>(I8.pin (b,o) (Ř _ (Ř _ (ϸ hb e)))).1,λb hb=>?_⟩;obtain⟨o,e,d⟩:=T.obj _ _ P0 b hb;exact(I8.pin (b,o) (Ř _ (Ř _ (ϸ hb e)))).2.1
   refine Ų (hg cl _ _ _ fp _ s7 V5 H7 x u _ YQ r7 (step x H7 y7)) λ_ s8 ⟨V8,H8,I8,q8⟩=>?_;refine Ų (ht cl _ _ _ fp _ s8 V8 H8 _ I8 q8) λc s9 ⟨H9,I9,q9⟩=>?_;cases c with
   |false=>rw[if_neg ϥ] at q9 ⊢;obtain⟨m',SN,w9⟩:=hN _ _ q9;obtain⟨a1,a2,a3⟩:=again I9;exact⟨m',SN,i+1,V8,H9,a1,a2,a3,w9⟩
   |true=>rw[if_pos rfl] at q9 ⊢;refine Ų (he cl _ _ _ fp _ s9 V8 H9 _ I9 q9) λyv YR ⟨y,YT,YU,r10,ys,e10,l10,w10⟩=>?_;refine Ų (ŗ _ YR V8 YT (.ref s2.heap.objs.size) [y] (.ref s2.heap.objs.size) [yv] (λ_ P4=>N V8 P4) YU rfl (.cons r10 .nil) ⟨_,ys,y,rfl,rfl,e10,l10,w10⟩) λ_ s11 ⟨v11,P4,YV,_,SO⟩=>?_;obtain⟨a1,a2,a3⟩:=again YV;obtain⟨m',SN,SO⟩:=hN _ _ SO;exact⟨m',SN,i+1,V8,P4,a1,a2,a3,SO⟩
 exact codeAny_compStart_list (loop _ rfl) (T.self _ 0 _ _ _ Us (loop _ rfl))
end
end M3
namespace P
open PySem PySem.Spec PyProof.Rows L2 M2 M3 M4
section
variable{X:Cx}{cm:String->À}{E:Ģ->XK}{elt tg iter:Ð}{ifs:List Ð}{scope:ą}{pos:Pos}{mi:M (List PV)}{g:Tg}{mt:M Bool}{me:M PV}
theorem PS.ϖ{st:Ö}{t:TS}(h:PS X.ϖ st t):PS X st t:=λÃ s V H D I hw=>
 ŭ (h Ã s V H D (I.wish _) hw) (λ_ _ q=>q.fL) λ_ _ z=>Š z
def QG{i:Nat}{y:Str}{py zg:Pos}(hN:X.N.Nodup)(hi0:X.N[i]?=some y)(hy:X.env.scope.names.lookup y=some .local)(N':List Str)(js:List Nat)(nl:Nat)(sc:ą)(rY:X.env.scope=sc)(hcalm:X.calm=true)
 (hi:PI X.ϖ tg iter (tI (kk X cm) E mi))(hg:∀cl C s H fp,PG (d_ X.ϖ N' scope cl C s H fp) tg (tT (kk X cm) g))(ht:∀cl C s H fp,Ej (d_ X.ϖ N' scope cl C s H fp) ifs (tB (kk X cm) EF mt))(he:∀cl C s H fp,PE (d_ X.ϖ N' scope cl C s H fp) elt (tV (kk X cm) EF me))
 (hcap:eK X.ϖ sc scope N' js)(hlen:js.length+nl=N'.length:=by rfl)
 (hk:scope.kind=.function:=by rfl)(hcell:∀y∈scope.names,y.2=.cell->scope.names.lookup y.1=some .cell:=by decide +kernel)(hnames:∀y∈scope.names,y.2=.local->scope.names.lookup y.1=some .local:=by decide +kernel)
 (hfree:∀y∈scope.names,y.2=.free->(sc.names.lookup y.1=some .cell\/sc.names.lookup y.1=some .free):=by decide +kernel)
 (hs:∀x,dz iter X.env x=ö x:=by intro _;rfl)(WJ:ai (.ListComp elt [⟨tg,iter,ifs,0⟩] scope pos) (some (.Name y py)) zg.line X.env=ö true:=by rfl) :
 PS X (.Assign [.Name y py] (.ListComp elt [⟨tg,iter,ifs,0⟩] scope pos) zg) (tS (kk X cm) E (ü i (ĳ js nl mi g mt me))):=
 PS.wk (PS.ϖ (JU hN hi0 hy WJ N' js nl sc rY hcalm (KI hi) hg ht he hcap hlen hk hcell hnames hfree hs)) fun D V H ⟨c,F,Y,rel,h⟩=>xH ⟨c,F,Y,rel,Ź.bind h fun r Y1 v F1 H1 ë s1 q h1=>by
   cases r with
   |sh p=>exact h1 _ F1 H1 (ë.put rfl ⟨v,rfl,q⟩) Ę
   |ow ps=>obtain⟨a,vs,rfl,q1,q2,q3,q4,q5⟩:=q;exact h1 _ F1 H1 (ë.Jo ⟨a,vs,rfl,q1,q2,q3,q5⟩ λ_ z=>Qqj.ref.inj z▸q4) Ę
   |ot ps qs=>obtain⟨p,a,xs,vs,rfl,q0,qx,q1,q2,q3,q4,q5⟩:=q;exact h1 _ F1 H1 (ë.Jo (s:=.ot ps qs) ⟨p,a,xs,vs,rfl,q0,qx,q1,q2,q3,q5⟩ λ_ z=>ja (ps:=ps) (qs:=qs) z ⟨p,xs,rfl,q0⟩▸q4) Ę⟩
end
section
end
section
variable{X:Cx}{Ã:List (À×Obj)}{V:Ģ}{H:Hp}{s:Å}{h':Õ}
def turns{t':Nat}{fp:List À}(I:Inv X Ã V H s)(k:∀b o,b∉fp->s.heap.get? b=some o->h'.get? b=some o)(hf:∀b∈fp,cb X Ã H b):Inv X Ã V H {s with heap:=h',toks:=t'}:=by
 have TM:∀b u,H b=some u->b∉fp:=λb u e z=>by rw[(hf b z).1] at e;cases e
 have hL:X.env.locals∉fp:=λz=>(hf _ z).2.1 rfl;refine I.step (g':=s.gens) (d':=s.drawn) (ch:=fp) (λb hb=>?_) (λb o _ _ hc e _=>k b o hc e) (λb o _ _ hc e _=>⟨o.slots,k b o hc e⟩) (λ_ _ _ _ n=>n)
  (λb o hc e=>⟨o,k b o hc e⟩) (λ_ _ e=>e) (λ_ _ _ e=>e) (λb ps e=>e) (λm hm=>?_) (λb u e=>?_) I.bare
 ·obtain⟨f0,f1,f2,f3,f4,f5⟩:=hf b hb;exact⟨f3,f1,f4,f5⟩
 ·obtain⟨o,es,ep,ho,r⟩:=hm;exact⟨o,es,ep,k _ o hL ho,r⟩
 ·refine(I.hok b u e).stay (λc v hc q=>k c v ?_ q) (λ_ q=>q) λ_ _ q=>q;rcases hc with z|z
  ·rw[z];exact TM b u e
  ·exact TM c _ z
def QH{a b:À}{o:HO}(f:cb X Ã H b)(h:b≠a):cb X Ã (upd H a o) b:=⟨by rw[ì h];exact f.1,f.2⟩
def qH{t':Nat}{fp:List À}{u1 u2:Á}{x1 x2:Qqj}(I:Inv X Ã V H s)(r1:RelV x1 u1)(r2:RelV x2 u2)(ht:∃o,h'.get? s.heap.objs.size=some o/\o= {cls:=.type "tuple",data:=.seq #[u1,u2]})
 (k:∀b o,b∉fp->s.heap.get? b=some o->h'.get? b=some o)(hf:∀b∈fp,cb X Ã H b)(gA:∀b∈fp,b<s.heap.objs.size) :
 Inv X Ã V (upd H s.heap.objs.size (.tup [x1,x2])) {s with heap:=h',toks:=t'}:=by
 have I1:Inv X Ã V (upd H s.heap.objs.size (.tup [x1,x2])) {s with heap:=s.heap.push {cls:=.type "tuple",data:=.seq #[u1,u2]},toks:=s.toks}:=
  I.laid (t':=s.toks) (λb u e=>ï _ e) (õ _) ⟨by show 2<=sizeLine;decide,[u1,u2],.cons r1 (.cons r2 .nil),⟨_,Ħ _ rfl,rfl,_,rfl⟩⟩
 refine turns (fp:=fp) (s:={s with heap:=s.heap.push {cls:=.type "tuple",data:=.seq #[u1,u2]},toks:=s.toks}) (h':=h') (t':=t') I1 (λb o hb e=>?_) λb hb=>QH (hf b hb) (ę (gA b hb));rcases BU e with⟨rfl,rfl⟩|e
 ·obtain⟨o,h1,h2⟩:=ht;rw[h1,h2]
 ·exact k b o hb e
end
def Ite(K:Ñ)(a:À):It:=
 ⟨λi H=>∃xs x,Ϟ K H a xs/\xs[i]?=some x,λi H y H'=>∃x T,(∀xs,Ϟ K H a xs->xs[i]?=some x)/\H T=none/\y=.ref T/\H'=upd H T (.tup [.int i,x]),λi H=>∃xs,Ϟ K H a xs/\xs.length<=i⟩
def DU{P:î}{w:ß}{K:Ñ}{elts:List Ð}{k:Nat}{pos:Pos}(a e it:À)(eW:e≠it):za P w K (.Tuple elts k pos) (Ite K a) [e,it] e (λi h=>(∃pZ,IsEnum h e it i pZ)/\h.IsListIter it a i) where
 mem:=by simp
 obj:=λi h st b hb=>by
  obtain⟨⟨pZ,he⟩,jq⟩:=st;rcases Ā.mp hb with rfl|hb
  ·exact⟨_,he,fun v z=>by have z':pC _=iU v:=z;cases z'⟩
  ·have e':b=it:=by simpa using hb
   subst e';obtain⟨o,e1,c,d⟩:=jq;exact⟨o,e1,λv z=>by rw[d] at z;cases z⟩
 keep:=λi h h' st k=>⟨let ⟨pZ,he⟩:=st.1;⟨pZ,k e (by simp) _ he⟩,st.2.at λo q=>k it (by simp) o q⟩
 item:=by
  intro X hP hw hK hc i Ã s V H E I hf st hg;subst hP hw hK;obtain⟨⟨pZ,he⟩,jq⟩:=st;obtain⟨xs,x,hq,hx⟩:=hg;obtain⟨ċ,rv,p,hz⟩:=I.list hq;obtain⟨u,hu,ru⟩:=rv.get hx;have elt:e<s.heap.objs.size:=ó he;have ilt:it<s.heap.objs.size:=by obtain⟨_,q,_⟩:=jq;exact ó q
  refine wpAny_pyNext_enum_item he jq p.isList (x:=u) (by simpa using hu) eW λh' ho S_ hT jO hk=>?_;refine⟨.ref s.heap.objs.size,rfl,wpAny_letOwnedTupleGo_enum ho λS0 he' Iz=>?_⟩;have gD:ϯ e h' S0:=Iz;have gA:∀b∈[e,it],b<s.heap.objs.size:=λb hb=>by
   rcases Ā.mp hb with rfl|hb
   ·exact elt
   ·have e':b=it:=by simpa using hb
    subst e';exact ilt
  have I2:=qH (fp:=[e,it]) (h':=S0) (t':=s.toks+1) (x1:=.int i) I ⟨s.toks,rfl⟩ ru ⟨_,(gD.2 _ (bf elt)).trans hT,rfl⟩ (λb o hb q=>by have Iw:b≠e:=λz=>hb (by simp[z]);have hbi:b≠it:=λz=>hb (by simp[z]);exact(gD.2 b Iw).trans (hk b o Iw hbi q)) hf gA;refine⟨.ref s.heap.objs.size,_,I2,rfl,⟨x,s.heap.objs.size,λys hy=>by rw[I.qb hy hq];exact hx,I.fresh,rfl,rfl⟩,⟨⟨u,?_⟩,S_.at λo q=>(gD.2 it eW.symm).trans q⟩,λb hb=>?_⟩
  ·have he2:IsEnum S0 e it ((i:Int)+1) u:=he';show IsEnum S0 e it (((i+1:Nat):Int)) u;rw[Int.natCast_add];exact he2
  ·rw[ì (ę (gA b hb))];exact(hf b hb).1
 done:=by intro X hP hw hK hc i Ã s V H E I hf st hg;subst hP hw hK;obtain⟨⟨pZ,he⟩,jq⟩:=st;obtain⟨xs,hq,hx⟩:=hg;obtain⟨ċ,rv,p,hz⟩:=I.list hq;have hl:=rv.length;refine wpAny_pyNext_enum_end (I.ok.hd hc) he jq p.isList (by simp;lia) λh' eb=>⟨rfl,turns (fp:=[e,it]) (t':=s.toks) I (λb o hb q=>eb b o (λz=>hb (by simp[z])) q) hf⟩
 self:=λ_ _ _ _ _ st h=>let ⟨_,he⟩:=st.1;wpAny_pyIter_enum he h
section
variable{X:Cx}{elts:List Ð}{k:Nat}{tp:Pos}
def Vc(K:Ñ)(ta:TA):TI:=λV H R=>ta V H λvs H1=>∃a,vs=[.ref a]/\(∃xs,Ϟ K H1 a xs)/\R (Ite K a) H1
def CN{l:Ð}{ta:TA}{p pos:Pos}(hg:Gl X "enumerate")(hm:X.mg "enumerate" =none)(ha:PA X [l] ta)(hs:å [l] X.env=[(false,Ý l X.env)]:=by exact ϗ rfl):PI X (.Tuple elts k tp) (.Call (.Name "enumerate" p) [l] [] pos) (Vc X.K ta):=by
 intro Ã s V H R I h;refine Call_ (fK I hg hm boot_enumerate (iH (Ų (ha pos Ã s V H _ I h) λus s1 ⟨vs,H1,I1,r1,q1⟩=>?_) hs rfl));obtain⟨a,e,⟨xs,hq⟩,q⟩:=q1;subst e;obtain⟨u,rfl,ru⟩:=r1.one;cases ru;obtain⟨ċ,rv,pl,hz⟩:=I1.list hq;refine call_enumerate_list pl.isList λh' he jq jO hk=>?_;have I2:Inv X Ã V H1 {s1 with heap:=h'}:=I1.kept (t':=s1.toks) hk;refine wpAny_pyIter_enum (s:={s1 with heap:=h'}) he ⟨s1.heap.objs.size+1,[s1.heap.objs.size+1,s1.heap.objs.size],_,_,H1,rfl,I2,DU a _ _ (Nat.succ_ne_self _),⟨⟨_,he⟩,jq⟩,λb hb=>?_,q⟩;have A8:s1.heap.objs.size<=b:=by
  rcases Ā.mp hb with rfl|hb
  ·exact uu _
  ·have e':b=s1.heap.objs.size:=by simpa using hb
   exact um e'.symm
 exact I1.qc A8 (I1.hok.fresh A8)
end
def rLs(K:KK):RR (List PV) Qqj:=λc _ _ F H items v=>∃a,v=.ref a/\(∃xs,Ϟ K.K H a xs)/\eh K c.L F (Ky K.K a) items
def rTs(K:KK):RR (List PV) Qqj:=λc _ _ F H items v=>∃a,v=.ref a/\(∃xs,da K.K H a xs)/\eh K c.L F (T0 K.K a) items
def Xq(K:KK):RR (List PV) Qqj:=λc V Y F H items v=>rLs K c V Y F H items v\/rTs K c V Y F H items v
def hG{K:KK}{L F:Hp}{ps:List PV}{v:Qqj}(h:Đ K F (.lst ps) v):∃a,v=.ref a/\(∃xs,Ϟ K.K F a xs)/\eh K L F (Ky K.K a) ps:=by unfold Đ at h;obtain⟨a,vs,rfl,e1,e2⟩:=h;refine⟨a,rfl,⟨vs,e1⟩,?_⟩;intro c' i F2 H2 V2 Y2 ħ sF _;have hq:Ϟ K.K H2 a vs:=(sF.trans ħ.sub).seq e1;refine⟨λp hp=>?_,λhi=>⟨vs,hq,by rw[hi,e2.length];exact õ _⟩⟩;obtain⟨u,hu,ru⟩:=bI e2.pr hp;refine⟨⟨vs,u,hq,hu⟩,λx H' ⟨hH,hx⟩=>?_⟩;subst hH;have:vs[i]?=some x:=hx vs hq;rw[hu] at this;cases this;exact⟨F2,ħ,Û.refl _,Û.refl _,Đ.same sF p u ru⟩
def F0{K:KK}{L F:Hp}{ps:List PV}{v:Qqj}(h:Đ K F (.tup ps) v):∃a,v=.ref a/\(∃xs,da K.K F a xs)/\eh K L F (T0 K.K a) ps:=by unfold Đ at h;obtain⟨a,vs,rfl,e1,e2⟩:=h;refine⟨a,rfl,⟨vs,e1⟩,?_⟩;intro c' i F2 H2 V2 Y2 ħ sF _;have hq:da K.K H2 a vs:=Û.tup (sF.trans ħ.sub) e1;refine⟨λp hp=>?_,λhi=>⟨vs,hq,by rw[hi,e2.length];exact õ _⟩⟩;obtain⟨u,hu,ru⟩:=bI e2.pr hp;refine⟨⟨vs,u,hq,hu⟩,λx H' ⟨hH,hx⟩=>?_⟩;subst hH;have:vs[i]?=some x:=hx vs hq;rw[hu] at this;cases this;exact⟨F2,ħ,Û.refl _,Û.refl _,Đ.same sF p u ru⟩
def jf{K:KK}{c:Ctx}{F:Hp}{a:À}{vs:List Qqj}{ps:List PV}(h2:c.L a=some (.lst vs))(h3:ò K F ps vs):eh K c.L F (Ky K.K a) ps:=by intro c' j F2 H2 V2 Y2 ħ sF sL;have hq:Ϟ K.K H2 a vs:=Ϟ.of (sL a _ h2);refine⟨λp hp=>?_,λhi=>⟨vs,hq,by rw[hi,h3.length];exact õ _⟩⟩;obtain⟨u,hu,ru⟩:=bI h3.pr hp;refine⟨⟨vs,u,hq,hu⟩,λx H' ⟨hH,hx⟩=>?_⟩;subst hH;have:vs[j]?=some x:=hx vs hq;rw[hu] at this;cases this;exact⟨F2,ħ,Û.refl _,Û.refl _,Đ.same sF p u ru⟩
def eh.mono{K:KK}{L F F1:Hp}{J:It}{ps:List PV}(h:eh K L F J ps)(s:Û F F1):eh K L F1 J ps:=λc i F2 H V Y rel sF sL=>h c i F2 H V Y rel (s.trans sF) sL
noncomputable def F7(i:Nat):M (List PV):=λY=>match Y[i]? with
 |some (.bw ps)=>.ok ps Y
 |some (.sh (.lst ps))=>.ok ps Y
 |some (.ow ps)=>.ok ps (Y.set i (.sh (.lst ps)))
 |_=>.bad
noncomputable def vJ(i:Nat):M (List PV):=λY=>match Y[i]? with
 |some (.bw ps)=>.ok ps Y
 |some (.sh (.lst ps))=>.ok ps Y
 |some (.sh (.tup ps))=>.ok ps Y
 |some (.ow ps)=>.ok ps (Y.set i (.sh (.lst ps)))
 |_=>.bad
section
variable{X:Cx}{cm:String->À}{E:Ģ->XK}{e:Ð}{m:M PV}
def CO(i:Nat){x:Str}{px:Pos}(hN:X.N[i]?=some x:=by rfl)(hv:w_ X.env.scope x:=by first|exact Ġ rfl|exact Č (Ġ rfl)|exact Č (Č rfl))(hd:(x== ("__debug__" :Str))=false:=by decide)
 (et:(x== ("__classdict__" :Str))=false:=by decide):PE X (.Name x px) (tG (kk X cm) E (Xq (kk X cm)) (vJ i)):=PE.wk (cS hN hv hd et) λV H Q ⟨c,F,Y,rel,h⟩=>by
 unfold vJ at h;cases e:Y[i]? with
 |none=>rw[e] at h;exact h.elim
 |some sl=>
  rw[e] at h;cases sl with
  |no=>exact h.elim
  |rc C ns ps=>exact h.elim
  |ot ps qs=>exact h.elim
  |ol Ck=>exact h.elim
  |ow ps=>obtain⟨a,vs,z1,z2,z3,z4⟩:=rel.share e;obtain⟨a',e1,⟨xs,e2⟩,e3⟩:=hG (L:=c.L) z3;cases e1;exact⟨.ref a,z1,h _ _ H z4 (Û.upd z2) Ę (.inl ⟨a,rfl,⟨xs,z4.sub.seq e2⟩,e3⟩)⟩
  |bw ps=>obtain⟨a,vs,h1,h2,h3⟩:=rel.slot i _ e;exact⟨.ref a,Ű h1,h _ F H rel Ę Ę (.inl ⟨a,rfl,⟨vs,Ϟ.of (rel.lent a _ h2).1⟩,jf h2 h3⟩)⟩
  |sh p=>
   obtain⟨v,h1,h2⟩:=rel.slot i _ e;cases p with
   |lst ps=>obtain⟨a,e1,⟨xs,e2⟩,e3⟩:=hG (L:=c.L) h2;exact⟨v,Ű h1,h v F H rel Ę Ę (.inl ⟨a,e1,⟨xs,rel.sub.seq e2⟩,e3⟩)⟩
   |tup ps=>obtain⟨a,e1,⟨xs,e2⟩,e3⟩:=F0 (L:=c.L) h2;exact⟨v,Ű h1,h v F H rel Ę Ę (.inr ⟨a,e1,⟨xs,Û.tup rel.sub e2⟩,e3⟩)⟩
   |_=>exact h.elim
def KZ(i:Nat){x:Str}{px:Pos}(hN:X.N[i]?=some x:=by rfl)(hv:w_ X.env.scope x:=by first|exact Ġ rfl|exact Č (Ġ rfl)|exact Č (Č rfl))(hd:(x== ("__debug__" :Str))=false:=by decide)
 (et:(x== ("__classdict__" :Str))=false:=by decide):PE X (.Name x px) (tG (kk X cm) E (rLs (kk X cm)) (F7 i)):=PE.wk (cS hN hv hd et) λV H Q ⟨c,F,Y,rel,h⟩=>by
 unfold F7 at h;cases e:Y[i]? with
 |none=>rw[e] at h;exact h.elim
 |some sl=>
  rw[e] at h;cases sl with
  |no=>exact h.elim
  |rc C ns ps=>exact h.elim
  |ot ps qs=>exact h.elim
  |ol Ck=>exact h.elim
  |ow ps=>obtain⟨a,vs,z1,z2,z3,z4⟩:=rel.share e;obtain⟨a',e1,⟨xs,e2⟩,e3⟩:=hG (L:=c.L) z3;cases e1;exact⟨.ref a,z1,h _ _ H z4 (Û.upd z2) Ę ⟨a,rfl,⟨xs,z4.sub.seq e2⟩,e3⟩⟩
  |bw ps=>obtain⟨a,vs,h1,h2,h3⟩:=rel.slot i _ e;exact⟨.ref a,Ű h1,h _ F H rel Ę Ę ⟨a,rfl,⟨vs,Ϟ.of (rel.lent a _ h2).1⟩,jf h2 h3⟩⟩
  |sh p=>
   obtain⟨v,h1,h2⟩:=rel.slot i _ e;cases p with
   |lst ps=>obtain⟨a,e1,⟨xs,e2⟩,e3⟩:=hG (L:=c.L) h2;exact⟨v,Ű h1,h v F H rel Ę Ę ⟨a,e1,⟨xs,rel.sub.seq e2⟩,e3⟩⟩
   |_=>exact h.elim
noncomputable def lq:Nat->List PV->List PV
 |_,[]=>[]
 |k,p::ps=>.tup [.int k,p]::lq (k+1) ps
theorem sX:∀(k:Nat) (ps:List PV),(lq k ps).length=ps.length
 |_,[]=>rfl
 |k,_::ps=>congrArg (·+ 1) (sX (k+1) ps)
theorem sY:∀(k:Nat) (ps:List PV) (i:Nat),(lq k ps)[i]?=ps[i]?.map λp=>.tup [.int ((k+i:Nat):Int),p]
 |_,[],_=>rfl
 |k,p::ps,0=>rfl
 |k,p::ps,i+1=>by show(lq (k+1) ps)[i]?=_;rw[sY (k+1) ps i,iF,show k+1+i=k+(i+1) by lia]
@[simp] def yc(m:M (List PV))(Y:Ĝ):Ŋ (List PV):= (m Y).bind λps Y1=>.ok (lq 0 ps) Y1
def CP{K:KK}{c:Ctx}{F H:Hp}{V:Ģ}{Y:Ĝ}{T:À}{p q:PV}{x y:Qqj}(rel:ļ K c F H V Y)(hT:H T=none)(r1:Đ K F p x)(r2:Đ K F q y):ļ K c (upd F T (.tup [x,y])) (upd H T (.tup [x,y])) V Y/\Đ K (upd F T (.tup [x,y])) (.tup [p,q]) (.ref T):=by have hF:=rel.sub.free hT;refine⟨rel.alloc hT,?_⟩;unfold Đ;exact⟨T,[x,y],rfl,da.of þ,ò.cons (Đ.same (Û.upd hF) p x r1) (ò.cons (Đ.same (Û.upd hF) q y r2) ò.nil)⟩
def sZ{K:KK}{L F:Hp}{a:À}{ps:List PV}(h:eh K L F (Ky K.K a) ps):eh K L F (Ite K.K a) (lq 0 ps):=by
 intro c i F2 H V Y rel sF sL;obtain⟨g,st⟩:=h c i F2 H V Y rel sF sL;refine⟨λp hp=>?_,λhi=>st (by rw[hi,sX])⟩;rw[sY] at hp;cases eq:ps[i]? with
 |none=>rw[eq] at hp;cases hp
 |some q=>rw[eq] at hp;have hp':PV.tup [.int ((0+i:Nat):Int),q]=p:=ŀ hp;subst hp';obtain⟨⟨xs,x,hq,hx⟩,g2⟩:=g q eq;refine⟨⟨xs,x,hq,hx⟩,λy H' ⟨x',T,h1,hT,ey,eH⟩=>?_⟩;subst ey eH;obtain⟨F3,jl,s3,_,rp⟩:=g2 x' H ⟨rfl,h1⟩;obtain⟨r1,r2⟩:=CP (p:=.int i) (x:=.int i) jl hT (by unfold Đ;rfl) rp;refine⟨_,r1,s3.trans (Û.upd (jl.sub.free hT)),Û.upd hT,?_⟩;rw[oU];exact r2
def F8{elts:List Ð}{k:Nat}{tp p pos:Pos}{mi:M (List PV)}(hg:Gl X "enumerate")(hm:X.mg "enumerate" =none)(hl:PE X e (tG (kk X cm) E (rLs (kk X cm)) mi))(hs:å [e] X.env=[(false,Ý e X.env)]:=by exact ϗ rfl) :
 PI X (.Tuple elts k tp) (.Call (.Name "enumerate" p) [e] [] pos) (tI (kk X cm) E (yc mi)):=λÃ s V H R I h=>CN hg hm (ϳ hl cT hs) hs Ã s V H R I (by
 obtain⟨c,F,Y,rel,h⟩:=h;refine⟨c,F,Y,rel,h.bind λps Y1 v F1 H1 ë s1 s2 q h1=>?_⟩;obtain⟨a,e1,e2,e3⟩:=q;subst e1;exact⟨a,rfl,e2,h1 _ F1 H1 ë Ę Ę (sZ e3)⟩)
@[simp] def ye(i:Nat)(mo:M RV)(Y:Ĝ):Ŋ Fl:= match Y[i]? with
  |some (.ow _)=>(mo Y).bind λr Y1=>match Y1[i]?,r with
   |some (.ow ps),.ow qs=>if ps.length+qs.length<=16777216 then .ok .nx (Y1.set i (.ow (ps++qs))) else .bad
   |_,_=>.bad
  |_=>.bad
def pV{i:Nat}{mo:M RV}{D:Ends}{V:Ģ}{H:Hp}(h:tS (kk X cm) E (ye i mo) D V H):B7 (W_ X.K "list" Cd (se i) (Kz (tO (kk X cm) E mo) Ua)) D V H:=by
 obtain⟨c,F,Y,rel,h⟩:=h;unfold ye at h;cases e1:Y[i]? with
 |none=>rw[e1] at h;exact h.elim
 |some sl=>
  rw[e1] at h;cases sl with
  |ow Qqq3=>
   obtain⟨a,Qqq4,z1,z2,z3,z4,z5,z6⟩:=rel.ow e1;refine⟨.ref a,z1,.inl ⟨rfl,_,Ϟ.of z2⟩,c,F,Y,rel,?_⟩;refine Ź.bind h λr Y1 v F1 H1 ë s1 q h1=>?_;cases e2:Y1[i]? with
   |none=>simp only[e2] at h1;exact h1.elim
   |some Du=>
    simp only[e2] at h1;cases Du with
    |ow ps=>
     cases r with
     |ow qs=>
      obtain⟨b,us,eb,Wz,Wt,hb3,hb4,hb5⟩:=q;subst eb;obtain⟨a2,vs,w1,w2,w3,w4,w5,w6⟩:=ë.ow e2;rw[z1] at w1;cases w1;dsimp only at h1;split at h1
      ·rename_i hz;refine⟨a,b,vs,us,rfl,rfl,w2,Wz,by rw[<-w5.length,<-hb5.length,ī];exact hz,h1 V F1 _ (ë.write w6 z1 ⟨a,vs++us,rfl,þ,w3,w4,ò.append w5 hb5⟩ λ_ z=>(Qqj.ref.inj z).symm) Ę⟩
      ·exact h1.elim
     |_=>exact h1.elim
    |_=>exact h1.elim
  |_=>exact h.elim
@[simp] theorem ZaP{i:Nat}{Y:Ĝ}:F7 i Y=(match Y[i]? with
  |some (.bw ps)=>.ok ps Y
  |some (.sh (.lst ps))=>.ok ps Y
  |some (.ow ps)=>.ok ps (Y.set i (.sh (.lst ps)))
  |_=>.bad):=rfl
@[simp] theorem ZaQ{i:Nat}{Y:Ĝ}:vJ i Y=(match Y[i]? with
  |some (.bw ps)=>.ok ps Y
  |some (.sh (.lst ps))=>.ok ps Y
  |some (.sh (.tup ps))=>.ok ps Y
  |some (.ow ps)=>.ok ps (Y.set i (.sh (.lst ps)))
  |_=>.bad):=rfl
end
def Vd{X:Cx}:PIp X .BitOr (ipI λi j=>kJ i j):=by intro Ã s V H x y v u Q I r1 r2 h;obtain⟨i,j,e1,e2,q⟩:=h;subst e1;subst e2;obtain⟨t,rfl⟩:=r1;obtain⟨t',rfl⟩:=r2;exact ior_int ⟨.int _,H,I.tok _,⟨_,rfl⟩,q⟩
@[simp] def CQ(i:Nat)(m:M PV)(Y:Ĝ):Ŋ Fl:= match Y[i]? with
  |some (~~~_)=>(m Y).bind λq Y1=>match Y1[i]?,q with
   |some (~~~k),.int j=>.ok .nx (Y1.set i (~~~(kJ k j)))
   |_,_=>.bad
  |_=>.bad
section
variable{X:Cx}{cm:String->À}{E:Ģ->XK}{e:Ð}{m:M PV}{pos:Pos}
def vK{K:KK}{F:Hp}{i:Int}{v:Qqj}(h:Đ K F (.int i) v):v=.int i:=by unfold Đ at h;exact h
def F9{i:Nat}{x:Str}{ck:Pos}(hN:X.N.Nodup)(hi:X.N[i]?=some x)(hx:Loc X.env.scope x)(he:PE X e (tV (kk X cm) E m))(hf:X.fn x=true\/X.env.scope.names.lookup x=some .local:=by first|exact .inl rfl|exact .inr rfl|assumption) :
 PS X (.AugAssign (.Name x ck) .BitOr e pos) (tS (kk X cm) E (CQ i m)):=PS.wk (O8 hN hi hx he Vd hf) λD V H ⟨c,F,Y,rel,h⟩=>by
 unfold CQ at h;cases e1:Y[i]? with
 |none=>rw[e1] at h;exact h.elim
 |some sl=>
  rw[e1] at h;cases sl with
  |sh p=>
   cases p with
   |int k0=>
    obtain⟨v,h1,h2⟩:=rel.slot i _ e1;cases vK h2;refine⟨.int k0,Ű h1,c,F,Y,rel,Ź.bind h λq Y1 u F1 H1 ë s1 rq Kq=>?_⟩;cases e2:Y1[i]? with
    |none=>simp only[e2] at Kq;exact Kq.elim
    |some Du=>
     simp only[e2] at Kq;cases Du with
     |sh p2=>
      cases p2 with
      |int k=>
       cases q with
       |int j=>obtain⟨v2,w1,w2⟩:=ë.slot i _ e2;cases vK w2;rw[h1] at w1;cases w1;cases vK rq;exact⟨k0,j,rfl,rfl,Kq _ F1 H1 (ë.put rfl ⟨_,rfl,Đ.int⟩) Ę⟩
       |_=>exact Kq.elim
      |_=>exact Kq.elim
     |_=>exact Kq.elim
   |_=>exact h.elim
  |_=>exact h.elim
end
section
end
section
variable{prog:î}{w:ß}{A:ð}{E:Á->Å->Prop}{s:Å}
def lr{it l:À}{i:Nat}{items}{x:Á}{Q:Á->Å->Prop}(jq:s.heap.IsTupleIter it l i)
 (hl:s.heap.IsTuple l items)(hx:items[i]?=some x)
 (hQ:∀h',h'.IsTupleIter it l (i+1)->ϯ it s.heap h'->Q x {s with heap:=h'}) :
 Î (Ó prog w) A (ft (.ref it)) Q E s:=by
 obtain⟨o,ho,hc,hd⟩:=id jq;obtain⟨ol,IC,_,nl,Eg⟩:=hl;unfold ft;refine Ê (pp (name:=Ì "__next__") jq.typeIs pE
  (pq pE jq.typeIs BQ ?_ (BR _)))
 show Î _ _ (field (.ref it) 0 >>= _) _ _ s;refine Ê (ό ho hd (x:=.ref l) rfl ?_);show Î _ _ (if(ē l== ϝ)=true then _ else _) _ _ s;rw[if_neg (show ¬((ē l== ϝ)=true) from ϥ)];show Î _ _ (field (.ref it) 1 >>= _) _ _ s;refine Ê (ό ho hd (x:=.int i 0) rfl ?_);show Î _ _ (cH (.ref l) >>= _) _ _ s;refine Ê (bS IC Eg ?_);simp only[t_,hx];refine Ê (kE ho hd (by simp) (é ⟨x,rfl,é (hQ _ ?_ (kM ..))⟩));exact⟨_,fv _ ho (kO (fw hd _)),(Obj.cls_mapFields ..).trans hc,by
  rw[fw hd];simp[Ŵ]⟩
def mG{it l:À}{i:Nat}{items}{Q:Á->Å->Prop}(hh:A.handled=none)
 (jq:s.heap.IsTupleIter it l i)(hl:s.heap.IsTuple l items)(hx:items[i]?=none)
 (hE:∀h' e,Heap.ExtBut it s.heap h'->(∃o,h'.get? e=some o/\o.cls=.type "StopIteration")->E (.ref e) {s with heap:=h'}) :
 Î (Ó prog w) A (ft (.ref it)) Q E s:=by
 obtain⟨o,ho,hc,hd⟩:=id jq;obtain⟨ol,IC,_,nl,Eg⟩:=hl;unfold ft;refine Ê (pp (name:=Ì "__next__") jq.typeIs pE
  (pq pE jq.typeIs BQ ?_ (BR _)))
 show Î _ _ (field (.ref it) 0 >>= _) _ _ s;refine Ê (ό ho hd (x:=.ref l) rfl ?_);show Î _ _ (if(ē l== ϝ)=true then _ else _) _ _ s;rw[if_neg (show ¬((ē l== ϝ)=true) from ϥ)];show Î _ _ (field (.ref it) 1 >>= _) _ _ s;refine Ê (ό ho hd (x:=.int i 0) rfl ?_);show Î _ _ (cH (.ref l) >>= _) _ _ s;refine Ê (bS IC Eg ?_);simp only[t_,hx];refine Ê (o_ (Ê (kE ho hd (by simp) ?_)));show Î _ _ (newExc (.type "StopIteration") [] >>= _) _ _ _;refine Ê ?_;simp only[newExc,newTuple];refine Ê (iJ ?_ (by size_fits));refine Ê (m:=firstArgMember _ _) (wpAny_of_eq (a:=ϝ) (by first|rfl|(simp only[firstArgMember];rfl)) ?_);refine iJ ?_ (by size_fits);simp only[raiseNew];refine Ê (wpAny_handled ?_)
 first|rw[show A.in1.handled=none from hh]|rw[hh]
 refine Ê (é (wpAny_throw ?_));exact hE _ _ (((kM ..).extBut.push _).push _) ⟨_,Ħ _ rfl,rfl⟩
end
def yf{prog:î}{w:ß}{A:ð}(hh:A.handled=none)(it l:À)(eW:l≠it)(items:Array Á) :
 Draws prog w A it [it,l] items.size (λi v=>items[i]?=some v) (λi h=>h.IsTupleIter it l i/\h.IsTuple l items) where
 live:=λ_ _ st=>let ⟨o,ho,_⟩:=st.1;⟨o,ho⟩
 frame:=λ_ _ _ st hk=>⟨let ⟨o,ho,r⟩:=st.1;⟨o,hk it (by simp) o ho,r⟩,let ⟨o,ho,r⟩:=st.2;⟨o,hk l (by simp) o ho,r⟩⟩
 item:=λi s Q E hi st hQ=>by refine lr st.1 st.2 (x:=items[i]) (by simp[hi]) λh' S_ Iz=>?_;exact hQ _ h' s.toks (by simp[hi]) ⟨S_,st.2.extBut Iz.extBut eW⟩ Iz
 done:=λs Q E st hE=>mG hh st.1 st.2 (by simp) hE
structure Ve(z TI TO i1 i2:À)(f1 f2:List À):Prop where
 TIz:TI≠z
 TOz:TO≠z
 i1z:i1≠z
 i2z:i2≠z
 TITO:TI≠TO
 TIi1:TI≠i1
 TIi2:TI≠i2
 TOi1:TO≠i1
 TOi2:TO≠i2
 i12:i1≠i2
 z1:z∉f1
 z2:z∉f2
 t1:TO∉f1
 t2:TO∉f2
 a1:i1∉f2
 a2:i2∉f1
section
variable{prog:î}{w:ß}{A:ð}{E:Á->Å->Prop}{s:Å}
def qI{z TI TO i1 i2:À}{f1 f2:List À}{n1 n2 k1 k2:Nat}{P1 P2:Nat->Á->Prop}{S1 S2:Nat->Õ->Prop}{a b:Á}{Q:Á->Å->Prop}(D:Ve z TI TO i1 i2 f1 f2)
 (D1:Draws prog w A i1 f1 n1 P1 S1)(D2:Draws prog w A i2 f2 n2 P2 S2)
 (hz:ϛ s.heap z TI TO .none)(wZ:Ŝ s.heap TI (.ref i1) (.ref i2))(zh:Ŝ s.heap TO a b)(h1:S1 k1 s.heap)(h2:S2 k2 s.heap)(hk1:k1<n1)(hk2:k2<n2)
 (hQ:∀x y h' tk,P1 k1 x→P2 k2 y→ϛ h' z TI TO (Ŵ s.heap.objs.size)→Ŝ h' TO x y→S1 (k1+1) h'→S2 (k2+1) h'→Ŝ h' s.heap.objs.size x y→h'.objs.size=s.heap.objs.size+1→
   (∀c o,c≠z->c≠TO->c≠i1->c≠i2->s.heap.get? c=some o->h'.get? c=some o)->Q (.ref s.heap.objs.size) {s with heap:=h',toks:=tk}) :
 Î (Ó prog w) A (iQ.«zip.__next__» ⟨[.ref z],[]⟩) (λgz s'=>∃v,gz=.done (.ret v)/\Q v s') E s:=by
 have Vf:∀{b},b∈f1->b≠z/\b≠TO/\b≠i2:=λhb=>⟨λe=>D.z1 (e▸hb),λe=>D.t1 (e▸hb),λe=>D.a2 (e▸hb)⟩;have Vg:∀{b},b∈f2->b≠z/\b≠TO/\b≠i1:=λhb=>⟨λe=>D.z2 (e▸hb),λe=>D.t2 (e▸hb),λe=>D.a1 (e▸hb)⟩;obtain⟨hp,g,d,tk0,os⟩:=s;show Î _ _ (field (.ref z) 2 >>= _) _ _ _;refine Ê (ό hz rfl (x:=.bool false) rfl ?_);show Î _ _ (field (.ref z) 3 >>= _) _ _ _;refine Ê (ό hz rfl (x:=.ref TI) rfl ?_);refine Ê (bS wZ rfl ?_);show Î _ _ (pA (.ref z) >>= _) _ _ _;refine Ê ?_;unfold pA;refine Ê (ό hz rfl (x:=.none) rfl (é ?_));simp only[if_true];refine Ê (o_ ?_);refine Ê (ό hz rfl (x:=.ref TO) rfl ?_);refine Ê (kI hz (by simp) λh₁ S3 Eu=>?_)
 replace Eu:ϯ z hp h₁:= Eu
 replace S3:ϛ h₁ z TI TO .ellipsis:=S3
 refine Ê ?_;simp only[List.zipIdx_cons,List.zipIdx_nil,j_,oM];refine Ê (Ê (uH ?_));show Î _ _ (ft (.ref i1) >>= _) _ _ _;refine Ê (D1.item k1 _ _ _ hk1 (D1.frame _ _ _ h1 λb hb o e=>Eu.extBut b o (Vf hb).1 e) λx h₂ tk hPx ZbM Ev=>é ?_)
 replace Ev:ϯ i1 h₁ h₂:= Ev
 have WK:Ŝ h₂ TO a b:=Ev.extBut _ _ D.TOi1 (Eu.extBut _ _ D.TOz zh);refine Ê (bS WK rfl ?_);refine Ê (wpAny_updateSeq_pair WK λh₃ S4 IE=>?_)
 replace IE:ϯ TO h₂ h₃:= IE
 replace S4:Ŝ h₃ TO x b:=S4
 refine Ê (iO (é ?_));refine Ê (Ê (uH ?_));show Î _ _ (ft (.ref i2) >>= _) _ _ _;refine Ê (D2.item k2 _ _ _ hk2 (D2.frame _ _ _ h2 λb hb o e=>IE.extBut b o (Vg hb).2.1 (Ev.extBut b o (Vg hb).2.2 (Eu.extBut b o (Vg hb).1 e))) λy h₄ OD hPy ZbN S5=>é ?_)
 replace S5:ϯ i2 h₃ h₄:= S5
 have WL:Ŝ h₄ TO x b:=S5.extBut _ _ D.TOi2 S4;refine Ê (bS WL rfl ?_);refine Ê (wpAny_updateSeq_pair WL λh₅ Kr S6=>?_)
 replace S6:ϯ TO h₄ h₅:= S6
 replace Kr:Ŝ h₅ TO x y:=Kr
 refine Ê (iO (é (é ?_)));refine Ê (bS Kr rfl ?_);refine Ê (wpAny_newTuple ?_);have jO:h₅.objs.size=hp.objs.size:=by rw[S6.1,S5.1,IE.1,Ev.1,Eu.1]
 have ZbB:ϛ h₅ z TI TO .ellipsis:=S6.extBut _ _ D.TOz.symm (S5.extBut _ _ D.i2z.symm (IE.extBut _ _ D.TOz.symm (Ev.extBut _ _ D.i1z.symm S3)));have ZbO:∀c o,c≠z->c≠TO->c≠i1->c≠i2->hp.get? c=some o->h₅.get? c=some o:=λc o c1 c2 c3 c4 e=>
  S6.extBut _ _ c2 (S5.extBut _ _ c4 (IE.extBut _ _ c2 (Ev.extBut _ _ c3 (Eu.extBut _ _ c1 e))))
 have ZbP:S1 (k1+1) h₅:= D1.frame _ _ _ ZbM λb hb o e=>S6.extBut b o (Vf hb).2.1 (S5.extBut b o (Vf hb).2.2 (IE.extBut b o (Vf hb).2.1 e));have ZbQ:S2 (k2+1) h₅:= D2.frame _ _ _ ZbN λb hb o e=>S6.extBut b o (Vg hb).2.1 e;have WM:z<h₅.objs.size:=ó ZbB;show Î _ _ (BJ (.ref z) (.ref h₅.objs.size) >>= _) _ _ _;refine Ê ?_;unfold BJ;have ZbR:ϛ (h₅.push {cls:=.type "tuple",data:=.seq #[x,y]}) z TI TO .ellipsis:=ï _ ZbB;refine Ê (kI ZbR (by simp) λh₇ Zbk Zbl=>?_)
 replace Zbk:ϛ h₇ z TI TO (Ŵ h₅.objs.size):=Zbk
 refine kI Zbk (by simp) λh₈ Ye Zbm=>?_
 replace Ye:ϛ h₈ z TI TO (Ŵ h₅.objs.size):=Ye
 have up:∀c o,c≠z->h₅.get? c=some o->h₈.get? c=some o:=λc o c1 e=>Zbm.extBut _ _ c1 (Zbl.extBut _ _ c1 (ï _ e));have ZbC:Ŝ h₈ h₅.objs.size x y:=Zbm.extBut _ _ (bf WM) (Zbl.extBut _ _ (bf WM) (Ħ _ rfl));have hz8:h₈.objs.size=h₅.objs.size+1:=by rw[Zbm.1,Zbl.1,ϰ]
 rw[jO] at Ye ZbC hz8;refine é ⟨_,rfl,?_⟩;show Q (.ref h₅.objs.size) _;rw[jO];exact hQ x y h₈ OD hPx hPy Ye (up _ _ D.TOz Kr) (D1.frame _ _ _ ZbP λb hb o e=>up b o (Vf hb).1 e) (D2.frame _ _ _ ZbQ λb hb o e=>up b o (Vg hb).1 e) ZbC hz8 λc o c1 c2 c3 c4 e=>up c o c1 (ZbO c o c1 c2 c3 c4 e)
def sk{z TI TO i1 i2:À}{f1 f2:List À}{n1:Nat}{P1:Nat->Á->Prop}{S1:Nat->Õ->Prop}{a b:Á}{Q:Fin->Å->Prop}(D:Ve z TI TO i1 i2 f1 f2)
 (D1:Draws prog w A i1 f1 n1 P1 S1)
 (hz:ϛ s.heap z TI TO .none)(wZ:Ŝ s.heap TI (.ref i1) (.ref i2))(zh:Ŝ s.heap TO a b)(h1:S1 n1 s.heap)
 (hE:∀h' e tk,(∀c o,c≠z->c≠TO->c≠i1->c≠i2->s.heap.get? c=some o->h'.get? c=some o)->(∃o,h'.get? e=some o/\o.cls=.type "StopIteration")->E (.ref e) {s with heap:=h',toks:=tk}) :
 Î (Ó prog w) A (iQ.«zip.__next__» ⟨[.ref z],[]⟩) Q E s:=by
 obtain⟨hp,g,d,tk0,os⟩:=s;show Î _ _ (field (.ref z) 2 >>= _) _ _ _;refine Ê (ό hz rfl (x:=.bool false) rfl ?_);show Î _ _ (field (.ref z) 3 >>= _) _ _ _;refine Ê (ό hz rfl (x:=.ref TI) rfl ?_);refine Ê (bS wZ rfl ?_);show Î _ _ (pA (.ref z) >>= _) _ _ _;refine Ê ?_;unfold pA;refine Ê (ό hz rfl (x:=.none) rfl (é ?_));simp only[if_true];refine Ê (o_ ?_);refine Ê (ό hz rfl (x:=.ref TO) rfl ?_);refine Ê (kI hz (by simp) λh₁ S3 Eu=>?_)
 replace Eu:ϯ z hp h₁:= Eu
 replace S3:ϛ h₁ z TI TO .ellipsis:=S3
 refine Ê ?_;simp only[List.zipIdx_cons,List.zipIdx_nil,j_,oM];refine Ê (Ê (uH ?_));show Î _ _ (ft (.ref i1) >>= _) _ _ _;refine Ê (D1.done _ _ _ (D1.frame _ _ _ h1 λb hb o e=>Eu.extBut b o (λe=>D.z1 (e▸hb)) e) λh₂ e Ev he=>?_);obtain⟨oe,hoe,hce⟩:=he
 replace Ev:Heap.ExtBut i1 h₁ h₂:= Ev
 have ZbD:ϛ h₂ z TI TO .ellipsis:=Ev _ _ D.i1z.symm S3;have hez:e≠z:=λx=>by subst x;rw[ZbD] at hoe;cases hoe;simp at hce
 exact kI ZbD (by simp) λh₃ _ IE=>hE h₃ e tk0 (λc o c1 _ c3 _ x=>IE.extBut _ _ c1 (Ev _ _ c3 (Eu.extBut _ _ c1 x))) ⟨oe,IE.extBut _ _ hez hoe,hce⟩
end
section
variable{prog:î}{w:ß}{A:ð}{E:Á->Å->Prop}{s:Å}
def mH{z TI TO i1 i2:À}{f1 f2:List À}{n1 n2 k1 k2:Nat}{P1 P2:Nat->Á->Prop}{S1 S2:Nat->Õ->Prop}{a b:Á}{Q:Option Á->Å->Prop}(D:Ve z TI TO i1 i2 f1 f2)
 (D1:Draws prog w A.in1 i1 f1 n1 P1 S1)(D2:Draws prog w A.in1 i2 f2 n2 P2 S2)
 (hz:ϛ s.heap z TI TO .none)(wZ:Ŝ s.heap TI (.ref i1) (.ref i2))(zh:Ŝ s.heap TO a b)(h1:S1 k1 s.heap)(h2:S2 k2 s.heap)(hk1:k1<n1)(hk2:k2<n2)
 (hQ:∀x y h' tk,P1 k1 x→P2 k2 y→ϛ h' z TI TO (Ŵ s.heap.objs.size)→Ŝ h' TO x y→S1 (k1+1) h'→S2 (k2+1) h'→Ŝ h' s.heap.objs.size x y→h'.objs.size=s.heap.objs.size+1→
   (∀c o,c≠z->c≠TO->c≠i1->c≠i2->s.heap.get? c=some o->h'.get? c=some o)->Q (some (.ref s.heap.objs.size)) {s with heap:=h',toks:=tk}) :
 Î (Ó prog w) A (bR (.ref z)) Q E s:=by
 have hT:s.TypeIs (.ref z) "zip" := ⟨_,hz,rfl⟩;unfold bR;exact Ê (kH (pp (name:=Ì "__next__") hT pF
  (pq pF hT F.entry_zip_next
    (qI D D1 D2 hz wZ zh h1 h2 hk1 hk2 λx y h' tk a0 b0 a1 a2 a3 a4 a5 a6 a7=>é (hQ x y h' tk a0 b0 a1 a2 a3 a4 a5 a6 a7)) (F.args_zip_next_1 _))))
def nP{z TI TO i1 i2:À}{f1 f2:List À}{n1:Nat}{P1:Nat->Á->Prop}{S1:Nat->Õ->Prop}{a b:Á}{Q:Option Á->Å->Prop}(D:Ve z TI TO i1 i2 f1 f2)
 (D1:Draws prog w A.in1 i1 f1 n1 P1 S1)
 (hz:ϛ s.heap z TI TO .none)(wZ:Ŝ s.heap TI (.ref i1) (.ref i2))(zh:Ŝ s.heap TO a b)(h1:S1 n1 s.heap)
 (hQ:∀h' tk,(∀c o,c≠z->c≠TO->c≠i1->c≠i2->s.heap.get? c=some o->h'.get? c=some o)->Q none {s with heap:=h',toks:=tk}):Î (Ó prog w) A (bR (.ref z)) Q E s:=by
 have hT:s.TypeIs (.ref z) "zip" := ⟨_,hz,rfl⟩;unfold bR;refine Ê (kH (pp (name:=Ì "__next__") hT pF
  (pq pF hT F.entry_zip_next (sk D D1 hz wZ zh h1 λh' e tk hk he=>?_) (F.args_zip_next_1 _))))
 obtain⟨o,ho,hc⟩:=he;refine Ê (wpAny_isInstance (T:= "StopIteration") (b:=true) ⟨o,ho,hc⟩ isSubtype_stop ?_);exact é (hQ _ _ hk)
end
def xf(K:Ñ)(b:Bool)(H:Hp)(a:À)(xs:List Qqj):Prop:=if b=true then da K H a xs else Ϟ K H a xs
def gi(b:Bool)(h:Õ)(it l:À)(i:Nat):Prop:=if b=true then h.IsTupleIter it l i else h.IsListIter it l i
def DW(b:Bool)(h:Õ)(l:À)(ċ:Array Á):Prop:=if b=true then h.IsTuple l ċ else h.IsList l ċ
noncomputable def Ti(b:Bool):String:=if b=true then "tuple_iterator" else "list_iterator"
def vL{prog:î}{w:ß}{A:ð}(b:Bool)(hh:A.handled=none)(it l:À)(eW:l≠it)(items:Array Á) :
 Draws prog w A it [it,l] items.size (λi v=>items[i]?=some v) (λi h=>gi b h it l i/\DW b h l items):=by
 cases b with
 |true=>exact yf hh it l eW items
 |false=>exact Draws.list hh it l eW items
def gi.ex{b:Bool}{h:Õ}{it l:À}{i:Nat}(x:gi b h it l i):∃o,h.get? it=some o/\o.cls=.type (Ti b)/\o.data=.fields #[.ref l,.int i 0]:=by
 cases b with
 |true=>exact x
 |false=>exact x
def gi.of{b:Bool}{h:Õ}{it l:À}{i:Nat}{o:Obj}(h1:h.get? it=some o)(h2:o.cls=.type (Ti b))(h3:o.data=.fields #[.ref l,.int i 0]):gi b h it l i:=by
 cases b with
 |true=>exact⟨o,h1,h2,h3⟩
 |false=>exact⟨o,h1,h2,h3⟩
def gi.keep{b:Bool}{h h':Õ}{it l:À}{i:Nat}(x:gi b h it l i)(k:∀o,h.get? it=some o->h'.get? it=some o):gi b h' it l i:=by obtain⟨o,h1,h2,h3⟩:=x.ex;exact .of (k o h1) h2 h3
def QI(K:Ñ)(b:Bool)(H:Hp)(l:À)(i:Nat)(xs:List Qqj):Prop:=xs.length<=i/\∀j,j<i->∃ys y,xf K b H l ys/\ys[j]?=some y
def Itz(K:Ñ)(b1 b2:Bool)(l1 l2:À):It:=
 ⟨λi H=>(∃xs x,xf K b1 H l1 xs/\xs[i]?=some x)/\∃ys y,xf K b2 H l2 ys/\ys[i]?=some y,
  λi H z H'=>∃x y T,(∀xs,xf K b1 H l1 xs->xs[i]?=some x)/\(∀ys,xf K b2 H l2 ys->ys[i]?=some y)/\H T=none/\z=.ref T/\H'=upd H T (.tup [x,y]),
  λi H=>∃xs,xf K b1 H l1 xs/\QI K b1 H l1 i xs⟩
section
variable{X:Cx}{Ã:List (À×Obj)}{V:Ģ}{H:Hp}{s:Å}
def yg{b:Bool}{a:À}{xs:List Qqj}(I:Inv X Ã V H s)(h:xf X.K b H a xs):∃ċ:List Á,Ĳ xs ċ/\DW b s.heap a ċ.toArray/\xs.length<=sizeLine:=by
 cases b with
 |true=>obtain⟨ċ,r,p,z⟩:=I.tuple h;exact⟨ċ,r,p,z⟩
 |false=>obtain⟨ċ,r,p,z⟩:=I.list h;exact⟨ċ,r,p.isList,z⟩
def Ga{b:Bool}{a:À}{xs ys:List Qqj}(I:Inv X Ã V H s)(h:xf X.K b H a xs)(h':xf X.K b H a ys):xs=ys:=by
 cases b with
 |true=>exact I.sC h h'
 |false=>exact I.qb h h'
def Vh{b:Bool}{l:À}{i:Nat}{xs:List Qqj}(I:Inv X Ã V H s)(h:xf X.K b H l xs)(q:QI X.K b H l i xs):xs.length=i:=by
 obtain⟨h1,h2⟩:=q;refine Nat.le_antisymm h1 ?_;cases i with
 |zero=>lia
 |succ i=>obtain⟨ys,y,e1,e2⟩:=h2 i (by lia);rw[Ga I e1 h] at e2;have:=(Ϧ.mp e2).1;lia
def Gb{bb:Bool}{a b:À}{xs:List Qqj}(I:Inv X Ã V H s)(f:cb X Ã H b)(h:xf X.K bb H a xs):a≠b:=by
 intro e;subst e;have hk:∀o,X.K.lookup a=some o->False:=λo e=>by
  have hb:=I.ok.mod.OU a o e;rcases f.2.2.2.1 with z|z
  ·exact I.ok.sd a o hb z
  ·exact absurd (Ţ (ó (I.ok.bs a o hb).1) z) (ų _)
 have hr:∀u,Rd H a u->False:=λu r=>by rcases r with r|⟨o,r⟩<;>(rw[f.1] at r;cases r)
 cases bb with
 |true=>
  have h':da X.K H a xs:=h;rcases h' with q|⟨o,_,_,q,_⟩
  ·exact hr _ q
  ·exact hk o q
 |false=>
  have h':Ϟ X.K H a xs:=h;rcases h' with q|⟨o,_,_,q,_⟩
  ·exact hr _ q
  ·exact hk o q
end
def Gc{z TI TO i1 i2 l1 l2:À}(nd:[z,TI,TO,i1,i2].Nodup)(Kl:∀b∈[z,TI,TO,i1,i2],l1≠b\/l1=i1)(TC:∀b∈[z,TI,TO,i1,i2],l2≠b\/l2=i2):Ve z TI TO i1 i2 [i1,l1] [i2,l2]:=by
 simp only[iE,Ā,bP,or_false,not_or,List.nodup_nil,not_false_eq_true,and_true] at nd;obtain⟨⟨n1,n2,n3,n4⟩,⟨n5,n6,n7⟩,⟨n8,n9⟩,Yf⟩:=nd;have f1:∀b∈[z,TI,TO,i1,i2],b≠i1->b∉[i1,l1]:=λb hb h q=>by
  rcases Ā.mp q with e|q
  ·exact h e
  ·rcases Kl b hb with z|z
   ·exact z (aD.mp q).symm
   ·exact h ((aD.mp q).trans z)
 have f2:∀b∈[z,TI,TO,i1,i2],b≠i2->b∉[i2,l2]:=λb hb h q=>by
  rcases Ā.mp q with e|q
  ·exact h e
  ·rcases TC b hb with z|z
   ·exact z (aD.mp q).symm
   ·exact h ((aD.mp q).trans z)
 exact⟨ĥ n1,ĥ n2,ĥ n3,ĥ n4,n5,n6,n7,n8,n9,Yf,f1 z (by simp) n3,f2 z (by simp) n4,f1 TO (by simp) n8,f2 TO (by simp) n9,f2 i1 (by simp) Yf,f1 i2 (by simp) (ĥ Yf)⟩
def Gd{P:î}{w:ß}{K:Ñ}{elts:List Ð}{k:Nat}{pos:Pos}(b1 b2:Bool)(l1 l2 z TI TO i1 i2:À)(nd:[z,TI,TO,i1,i2].Nodup) :
 za P w K (.Tuple elts k pos) (Itz K b1 b2 l1 l2) [z,TI,TO,i1,i2] z (λi h=>ϛ h z TI TO .none/\Ŝ h TI (.ref i1) (.ref i2)/\(∃a b,Ŝ h TO a b)/\gi b1 h i1 l1 i/\gi b2 h i2 l2 i) where
 mem:=by simp
 obj:=λi h st b hb=>by
  obtain⟨hz,wZ,⟨x,y,zh⟩,h1,h2⟩:=st;simp only[Ā,bP,or_false] at hb;rcases hb with rfl|rfl|rfl|rfl|rfl
  ·exact⟨_,hz,λv z=>by have z':pC _=iU v:=z;cases z'⟩
  ·exact⟨_,wZ,λv z=>by have z':Data.seq _ _=iU v:=z;cases z'⟩
  ·exact⟨_,zh,λv z=>by have z':Data.seq _ _=iU v:=z;cases z'⟩
  ·obtain⟨o,e1,c,d⟩:=h1.ex;exact⟨o,e1,λv z=>by rw[d] at z;cases z⟩
  ·obtain⟨o,e1,c,d⟩:=h2.ex;exact⟨o,e1,λv z=>by rw[d] at z;cases z⟩
 keep:=λi h h' st k=>by obtain⟨hz,wZ,⟨x,y,zh⟩,h1,h2⟩:=st;exact⟨k z (by simp) _ hz,k TI (by simp) _ wZ,⟨x,y,k TO (by simp) _ zh⟩,h1.keep λo q=>k i1 (by simp) o q,h2.keep λo q=>k i2 (by simp) o q⟩
 item:=by
  intro X hP hw hK hc i Ã s V H E I hf st hg;subst hP hw hK;obtain⟨hz,wZ,⟨a,b,zh⟩,h1,h2⟩:=st;obtain⟨⟨xs,x,Ks,hx⟩,ys,y,WN,hy⟩:=hg;obtain⟨yi,Xr,p1,_⟩:=yg I Ks;obtain⟨eV,rv2,p2,_⟩:=yg I WN;obtain⟨u1,OJ,ru1⟩:=Xr.get hx;obtain⟨u2,hu2,ru2⟩:=rv2.get hy;have Kl:∀b∈[z,TI,TO,i1,i2],l1≠b:=λb hb=>Gb I (hf b hb) Ks;have TC:∀b∈[z,TI,TO,i1,i2],l2≠b:=λb hb=>Gb I (hf b hb) WN;have hh:X.A.in1.handled=none:=I.ok.hd hc;have D:=Gc nd (λb hb=>.inl (Kl b hb)) λb hb=>.inl (TC b hb);simp only[iE,Ā,bP,or_false,not_or,List.nodup_nil,not_false_eq_true,and_true] at nd;obtain⟨⟨n1,n2,n3,n4⟩,⟨n5,n6,n7⟩,⟨n8,n9⟩,Yf⟩:=nd;have lt1:i<yi.toArray.size:=by rw[Ĥ];exact(Ϧ.mp OJ).1
  have E6:i<eV.toArray.size:=by rw[Ĥ];exact(Ϧ.mp hu2).1
  have gA:∀b∈[z,TI,TO,i1,i2],b<s.heap.objs.size:=λb hb=>by
   simp only[Ā,bP,or_false] at hb;rcases hb with rfl|rfl|rfl|rfl|rfl
   ·exact ó hz
   ·exact ó wZ
   ·exact ó zh
   ·obtain⟨o,e1,_⟩:=h1.ex;exact ó e1
   ·obtain⟨o,e1,_⟩:=h2.ex;exact ó e1
  refine mH D (vL (A:=X.A.in1) b1 hh i1 l1 (Kl i1 (by simp)) yi.toArray) (vL (A:=X.A.in1) b2 hh i2 l2 (TC i2 (by simp)) eV.toArray) hz wZ zh ⟨h1,p1⟩ ⟨h2,p2⟩ lt1 E6 λx' y' h' tk hPx hPy hz' ZaR s1 s2 hT jO hk=>?_;have ex:x'=u1:=by have:yi.toArray[i]?=some x':=hPx;rw[show yi.toArray[i]?=some u1 by simpa using OJ] at this;exact(ŀ this).symm
  have ey:y'=u2:=by have:eV.toArray[i]?=some y':=hPy;rw[show eV.toArray[i]?=some u2 by simpa using hu2] at this;exact(ŀ this).symm
  subst ex ey;refine⟨.ref s.heap.objs.size,rfl,wpAny_letOwnedTupleGo_zip hz' λS0 Zbn Iz=>?_⟩;have gD:ϯ z h' S0:=Iz;have I2:=qH (fp:=[z,TI,TO,i1,i2]) (h':=S0) (t':=tk) I ru1 ru2 ⟨_,(gD.2 _ (bf (gA z (by simp)))).trans hT,rfl⟩ (λb o hb q=>by have eW:∀c∈[z,TI,TO,i1,i2],b≠c:=λc hc e=>hb (e▸hc);exact(gD.2 b (eW z (by simp))).trans (hk b o (eW z (by simp)) (eW TO (by simp)) (eW i1 (by simp)) (eW i2 (by simp)) q)) hf gA;refine⟨.ref s.heap.objs.size,_,I2,rfl,⟨x,y,s.heap.objs.size,λzs hzs=>by rw[Ga I hzs Ks];exact hx,λzs hzs=>by rw[Ga I hzs WN];exact hy,I.fresh,rfl,rfl⟩,
   ⟨Zbn,(gD.2 TI (ĥ n1)).trans (hk TI _ (ĥ n1) n5 n6 n7 wZ),⟨_,_,(gD.2 TO (ĥ n2)).trans ZaR⟩,s1.1.keep λo q=>(gD.2 i1 (ĥ n3)).trans q,s2.1.keep λo q=>(gD.2 i2 (ĥ n4)).trans q⟩,λb hb=>?_⟩
  rw[ì (ę (gA b hb))];exact(hf b hb).1
 done:=by
  intro X hP hw hK hc i Ã s V H E I hf st hg;subst hP hw hK;obtain⟨hz,wZ,⟨a,b,zh⟩,h1,h2⟩:=st;obtain⟨xs,Ks,Zbo⟩:=hg;obtain⟨yi,Xr,p1,_⟩:=yg I Ks;have Kl:∀b∈[z,TI,TO,i1,i2],l1≠b:=λb hb=>Gb I (hf b hb) Ks;have e:i=yi.toArray.size:=by rw[Ĥ,<-Xr.length,Vh I Ks Zbo]
  subst e;refine nP (Gc (l2:=i2) nd (λb hb=>.inl (Kl b hb)) λb hb=>.inr rfl) (vL (A:=X.A.in1) b1 (I.ok.hd hc) i1 l1 (Kl i1 (by simp)) yi.toArray) hz wZ zh ⟨h1,p1⟩ λh' tk hk=>⟨rfl,turns (fp:=[z,TI,TO,i1,i2]) (t':=tk) I (λb o hb q=>?_) hf⟩;have eW:∀c∈[z,TI,TO,i1,i2],b≠c:=λc hc e=>hb (e▸hc);exact hk b o (eW z (by simp)) (eW TO (by simp)) (eW i1 (by simp)) (eW i2 (by simp)) q
 self:=λ_ _ _ _ _ st h=>wpAny_pyIter_zip st.1 h
section
abbrev Xs(b:Bool)(h:Õ)(l1:À):Õ:=h.push {cls:=.type (Ti b),data:=.fields #[.ref l1,.int 0 0]}
abbrev Xt(b b':Bool)(h:Õ)(l1 l2:À):Õ:=(Xs b h l1).push {cls:=.type (Ti b'),data:=.fields #[.ref l2,.int 0 0]}
abbrev Xu(b b':Bool)(h:Õ)(l1 l2:À):Õ:=(Xt b b' h l1 l2).push {cls:=.type "tuple",data:=.seq #[.ref h.objs.size,.ref (Xs b h l1).objs.size]}
abbrev Xw(b b':Bool)(h:Õ)(l1 l2:À):Õ:=(Xu b b' h l1 l2).push {cls:=.type "tuple",data:=.seq #[.none,.none]}
abbrev QJ(b b':Bool)(h:Õ)(l1 l2:À):Õ:=(Xw b b' h l1 l2).push {cls:=.type "zip",data:=.fields #[.none,.bool false,.bool false,.ref (Xt b b' h l1 l2).objs.size,.ref (Xu b b' h l1 l2).objs.size]}
def yj{prog:î}{w:ß}{A:ð}{E:Á->Å->Prop}{s:Å}{b:Bool}{l:À}{ċ:Array Á}{Q:Á->Å->Prop}(hl:DW b s.heap l ċ)
 (hQ:Q (.ref s.heap.objs.size) {s with heap:=s.heap.push {cls:=.type (Ti b),data:=.fields #[.ref l,.int 0 0]}}):Î (Ó prog w) A (cC (.ref l)) Q E s:=by
 cases b with
 |true=>exact uF hl hQ
 |false=>exact kD hl hQ
theorem DW.push{b:Bool}{h:Õ}{l:À}{ċ:Array Á}(x:DW b h l ċ)(o:Obj):DW b (h.push o) l ċ:=by
 cases b with
 |true=>exact Heap.IsTuple.push x o
 |false=>exact Heap.IsList.push x o
def yk(b b':Bool)(l1 l2:À)(xs ys:Array Á) :
 Meets (iQ.«zip.__new__» ⟨[.type "zip",.ref l1,.ref l2],[]⟩) (λ_ R s=>DW b s.heap l1 xs/\DW b' s.heap l2 ys/\
  R (.ok (.ret (.ref (Xw b b' s.heap l1 l2).objs.size))) {s with heap:=QJ b b' s.heap l1 l2}):=
 .of_wp fun prog w A R s h=>by
   obtain⟨hp,g,d,tk,os⟩:=s;obtain⟨hl1,Es,h⟩:=h;have A9:=sub_zip;have hL1:DW b (Shared.heap ⟨hp,g,d,tk,os⟩) l1 xs:=hl1;have hL2:DW b' (Shared.heap ⟨hp.push {cls:=.type (Ti b),data:=.fields #[.ref l1,.int 0 0]},g,d,tk,os⟩) l2 ys:=DW.push Es _
   wp_walk using yj hL1,yj hL2
   exact⟨_,rfl,h⟩
variable{prog:î}{w:ß}{A:ð}{E:Á->Å->Prop}{s:Å}
def Aa{b b':Bool}{l1 l2:À}{xs ys:Array Á}{Q:Á->Å->Prop}(hl1:DW b s.heap l1 xs)(Es:DW b' s.heap l2 ys)
 (h:∀h',ϛ h' (s.heap.objs.size+4) (s.heap.objs.size+2) (s.heap.objs.size+3) .none→Ŝ h' (s.heap.objs.size+2) (.ref s.heap.objs.size) (.ref (s.heap.objs.size+1))→
   Ŝ h' (s.heap.objs.size+3) .none .none->gi b h' s.heap.objs.size l1 0->gi b' h' (s.heap.objs.size+1) l2 0->h'.objs.size=s.heap.objs.size+5->
   (∀c o,s.heap.get? c=some o->h'.get? c=some o)->Q (.ref (s.heap.objs.size+4)) {s with heap:=h'}) :
 Î (Ó prog w) A (call (.type "zip") [.ref l1,.ref l2]) Q E s:=by
 refine callType_new F.called_zip (by decide) (F.typeCall_zip_2 _ _) (F.newCall_zip_2 _ _) (λobj=>F.args_object_init_3 obj _ _) F.entry_zip_new
  (yk b b' l1 l2 xs ys) ⟨hl1,Es,?_⟩
 have z1:(Xs b s.heap l1).objs.size=s.heap.objs.size+1:=ϰ ..;have z2:(Xt b b' s.heap l1 l2).objs.size=s.heap.objs.size+2:=by rw[ϰ,z1]
 have z3:(Xu b b' s.heap l1 l2).objs.size=s.heap.objs.size+3:=by rw[ϰ,z2]
 have z4:(Xw b b' s.heap l1 l2).objs.size=s.heap.objs.size+4:=by rw[ϰ,z3]
 have z5:(QJ b b' s.heap l1 l2).objs.size=s.heap.objs.size+5:=by rw[ϰ,z4]
 have g5:(QJ b b' s.heap l1 l2).get? (Xw b b' s.heap l1 l2).objs.size=some _:=Ħ _ rfl;have g4:(QJ b b' s.heap l1 l2).get? (Xu b b' s.heap l1 l2).objs.size=some _:=ï _ (Ħ _ rfl);have g3:(QJ b b' s.heap l1 l2).get? (Xt b b' s.heap l1 l2).objs.size=some _:=ï _ (ï _ (Ħ _ rfl));have g2:(QJ b b' s.heap l1 l2).get? (Xs b s.heap l1).objs.size=some _:=ï _ (ï _ (ï _ (Ħ _ rfl)));have g1:(QJ b b' s.heap l1 l2).get? s.heap.objs.size=some _:=ï _ (ï _ (ï _ (ï _ (Ħ _ rfl))));show _/\_;rw[z2,z3,z4] at g5;rw[z1,z2] at g3;rw[z3] at g4;rw[z1] at g2;rw[z4];exact⟨⟨_,g5,rfl⟩,h _ g5 g3 g4 (.of g1 rfl rfl) (.of g2 rfl rfl) z5 λc o x=>
  ï _ (ï _ (ï _ (ï _ (ï _ x))))⟩
end
section
variable{X:Cx}{elts:List Ð}{k:Nat}{tp:Pos}
def ZaS(K:Ñ)(ta:TA):TI:=λV H R=>ta V H λvs H1=>∃b1 b2 l1 l2,vs=[.ref l1,.ref l2]/\(∃xs,xf K b1 H1 l1 xs)/\(∃xs,xf K b2 H1 l2 xs)/\R (Itz K b1 b2 l1 l2) H1
def QK{e1 e2:Ð}{ta:TA}{p pos:Pos}(hg:Gl X "zip")(hm:X.mg "zip" =none)(ha:PA X [e1,e2] ta)(hs:å [e1,e2] X.env=[(false,Ý e1 X.env),(false,Ý e2 X.env)]:=by exact vq rfl rfl)(gD:å [e2] X.env=[(false,Ý e2 X.env)]:=by exact ϗ rfl) :
 PI X (.Tuple elts k tp) (.Call (.Name "zip" p) [e1,e2] [] pos) (ZaS X.K ta):=by
 intro Ã s V H R I h;refine Call_ (fK I hg hm boot_zip (iH (Ų (ha pos Ã s V H _ I h) λus s1 ⟨vs,H1,I1,r1,q1⟩=>?_) (by rw[hs,gD]) (by rw[gD];rfl)));obtain⟨b1,b2,l1,l2,e,⟨xs,Ks⟩,⟨ys,WN⟩,q⟩:=q1;subst e;obtain⟨u1,u2,rfl,ru1,ru2⟩:=vals2 r1;cases ru1;cases ru2;obtain⟨yi,Xr,p1,_⟩:=yg I1 Ks;obtain⟨eV,rv2,p2,_⟩:=yg I1 WN;refine Aa p1 p2 λh' hz wZ zh h1 h2 jO hk=>?_;have I2:Inv X Ã V H1 {s1 with heap:=h'}:=I1.kept (t':=s1.toks) hk;refine wpAny_pyIter_zip (s:={s1 with heap:=h'}) hz ⟨s1.heap.objs.size+4,[s1.heap.objs.size+4,s1.heap.objs.size+2,s1.heap.objs.size+3,s1.heap.objs.size,s1.heap.objs.size+1],_,_,H1,rfl,I2,Gd b1 b2 l1 l2 _ _ _ _ _ (by simp),⟨hz,wZ,⟨_,_,zh⟩,h1,h2⟩,λb hb=>?_,q⟩;have A8:s1.heap.objs.size<=b:=by simp only[Ā,bP,or_false] at hb;rcases hb with rfl|rfl|rfl|rfl|rfl<;>lia
 exact I1.qc A8 (I1.hok.fresh A8)
end
noncomputable def gC:List PV->List PV->List PV
 |p::ps,q::qs=>.tup [p,q]::gC ps qs
 |_,_=>[]
theorem yl:∀(ps qs:List PV) (i:Nat) (r:PV),(gC ps qs)[i]?=some r->∃p q,ps[i]?=some p/\qs[i]?=some q/\r=.tup [p,q]
 | [],_,_,_,h=>by simp[gC] at h
 |_::_,[],_,_,h=>by simp[gC] at h
 |p::ps,q::qs,0,r,h=>by have h':some (PV.tup [p,q])=some r:=h;cases h';exact⟨p,q,rfl,rfl,rfl⟩
 |p::ps,q::qs,i+1,r,h=>yl ps qs i r h
theorem ym:∀(ps qs:List PV),(gC ps qs).length=min ps.length qs.length
 | [],_=>by simp[gC]
 |_::_,[]=>by simp[gC]
 |_::ps,_::qs=>by show(gC ps qs).length+1=_;rw[ym ps qs,ŋ,ŋ];lia
def vM(m1 m2:M (List PV)):M (List PV):=λY=>(m1 Y).bind λps Y1=>(m2 Y1).bind λqs Y2=>if ps.length<=qs.length then .ok (gC ps qs) Y2 else .bad
def Vi(K:Ñ)(b:Bool)(a:À):It:=if b=true then T0 K a else Ky K a
def vN{K:KK}{L F:Hp}{b:Bool}{a:À}{ps:List PV}(h:eh K L F (Vi K.K b a) ps){c:Ctx}{F2 H:Hp}{V:Ģ}{Y:Ĝ}(rel:ļ K c F2 H V Y)(sF:Û F F2)(sL:Û L H)(i:Nat)(p:PV)(hp:ps[i]?=some p) :
 (∃xs x,xf K.K b H a xs/\xs[i]?=some x)/\∀x,(∀xs,xf K.K b H a xs->xs[i]?=some x)->∃F3,ļ K c F3 H V Y/\Û F2 F3/\Đ K F3 p x:=by
 obtain⟨g,_⟩:=h c i F2 H V Y rel sF sL;obtain⟨g1,g2⟩:=g p hp;cases b with
 |true=>exact⟨g1,λx hx=>let ⟨F3,r3,s3,_,rp⟩:=g2 x H ⟨rfl,hx⟩;⟨F3,r3,s3,rp⟩⟩
 |false=>exact⟨g1,λx hx=>let ⟨F3,r3,s3,_,rp⟩:=g2 x H ⟨rfl,hx⟩;⟨F3,r3,s3,rp⟩⟩
def CT{K:KK}{L F:Hp}{b:Bool}{a:À}{ps:List PV}(h:eh K L F (Vi K.K b a) ps){c:Ctx}{F2 H:Hp}{V:Ģ}{Y:Ĝ}(rel:ļ K c F2 H V Y)(sF:Û F F2)(sL:Û L H) :
 ∃xs,xf K.K b H a xs/\QI K.K b H a ps.length xs:=by
 obtain⟨_,st⟩:=h c ps.length F2 H V Y rel sF sL;have zn:∃xs,xf K.K b H a xs/\xs.length<=ps.length:=by
  cases b with
  |true=>exact st rfl
  |false=>exact st rfl
 obtain⟨xs,h1,h2⟩:=zn;exact⟨xs,h1,h2,λj hj=>(vN h rel sF sL j _ (Ō hj)).1⟩
def Ge{K:KK}{L F:Hp}{b1 b2:Bool}{a1 a2:À}{ps qs:List PV}(h1:eh K L F (Vi K.K b1 a1) ps)(h2:eh K L F (Vi K.K b2 a2) qs)(hl:ps.length<=qs.length):eh K L F (Itz K.K b1 b2 a1 a2) (gC ps qs):=by
 intro c i F2 H V Y rel sF sL;refine⟨λr hr=>?_,λhi=>?_⟩
 ·obtain⟨p,q,hp,hq,rfl⟩:=yl ps qs i r hr;obtain⟨g1,y1⟩:=vN h1 rel sF sL i p hp;refine⟨⟨g1,(vN h2 rel sF sL i q hq).1⟩,λz H' ⟨x,y,T,e1,e2,hT,ez,eH⟩=>?_⟩;subst ez eH;obtain⟨F3,jl,s3,rp⟩:=y1 x e1;obtain⟨F4,xE,s4,rq⟩:=(vN h2 jl (sF.trans s3) sL i q hq).2 y e2;obtain⟨r1,r2⟩:=CP xE hT (Đ.same s4 p x rp) rq;exact⟨_,r1,(s3.trans s4).trans (Û.upd (xE.sub.free hT)),Û.upd hT,r2⟩
 ·obtain⟨xs,x1,x2⟩:=CT h1 rel sF sL;have e:i=ps.length:=by rw[hi,ym];lia
  exact⟨xs,x1,e▸x2⟩
def Vj{K:KK}{c:Ctx}{V:Ģ}{Y:Ĝ}{F H:Hp}{ps:List PV}{v:Qqj}(h:Xq K c V Y F H ps v):∃b a,v=.ref a/\(∃xs,xf K.K b H a xs)/\eh K c.L F (Vi K.K b a) ps:=by
 rcases h with⟨a,e1,e2,e3⟩|⟨a,e1,e2,e3⟩
 ·exact⟨false,a,e1,e2,e3⟩
 ·exact⟨true,a,e1,e2,e3⟩
section
variable{X:Cx}{cm:String->À}{E:Ģ->XK}{e e2:Ð}
def K_{elts:List Ð}{k:Nat}{tp p pos:Pos}{m1 m2:M (List PV)}(hg:Gl X "zip")(hm:X.mg "zip" =none)(h1:PE X e (tG (kk X cm) E (Xq (kk X cm)) m1))(h2:PE X e2 (tG (kk X cm) E (Xq (kk X cm)) m2))
 (hs:å [e,e2] X.env=[(false,Ý e X.env),(false,Ý e2 X.env)]:=by exact vq rfl rfl)(gD:å [e2] X.env=[(false,Ý e2 X.env)]:=by exact ϗ rfl) :
 PI X (.Tuple elts k tp) (.Call (.Name "zip" p) [e,e2] [] pos) (tI (kk X cm) E (vM m1 m2)):=λÃ s V H R I h=>QK hg hm (ϳ h1 (ϳ h2 cT gD) (by rw[hs,gD])) hs gD Ã s V H R I (by
 obtain⟨c,F,Y,rel,h⟩:=h;refine⟨c,F,Y,rel,aM.bind h λps Y1 v F1 H1 ë s1 s2 q h1=>⟨c,F1,Y1,ë,aM.bind h1 λqs Y2 u F2 H2 ħ s3 s4 q2 h2=>?_⟩⟩;obtain⟨b1,a1,e1,_,e3⟩:=Vj q;obtain⟨b2,a2,f1,f2,f3⟩:=Vj q2;subst e1 f1;obtain⟨xs,x1,_⟩:=CT (e3.mono s3) ħ Ę λb u e=>(ħ.lent b u e).1;split at h2
 ·exact⟨b1,b2,a1,a2,rfl,⟨xs,x1⟩,f2,h2 _ F2 H2 ħ Ę Ę (Ge (e3.mono s3) f3 ‹_›)⟩
 ·exact h2.elim)
end
def QL(K:Ñ)(Kk:Bool):R2:=λx y H Q=>∃d es a xs,Rp K H d x/\y=.ref a/\(Ϟ K H a xs\/da K H a xs)/\kZ K H es xs/\d.canLay0=true/\fy es=true/\d.depth<=60/\Q (.bl (if Kk then !(es.any λe=>ak e d) else es.any λe=>ak e d)) H
open Classical in
noncomputable def zj(h:Õ)(d:ϭ)(y:Á):Bool:=if ∃e as,Reads h y e as/\e.canLay0=true/\ak e d=true then true else false
def Gf{h:Õ}{d e:ϭ}{y:Á}{as:List À}(r:Reads h y e as)(hc:e.canLay0=true):zj h d y=ak e d:=by
 unfold zj;cases q:ak e d with
 |true=>rw[if_pos ⟨e,as,r,hc,q⟩]
 |false=>rw[if_neg];rintro ⟨e',as',r',jN,q'⟩;have:=SeqAt.Reads.unique e e' y as as' hc r r';subst this;rw[q] at q';cases q'
theorem lu{h:Õ}{d:ϭ}:∀{us:List Á} {es:List ϭ} {as:List À},ReadsAll h us es as->fy es=true->us.any (zj h d)=es.any λe=>ak e d
 |_,_,_,.nil,_=>rfl
 |_,_,_,.cons r rs,hc=>by unfold fy at hc;rw[Ė] at hc;rw[di,di,Gf r hc.1,lu rs hc.2]
theorem lv{A:ð}{s:Å}{d:ϭ}{v:Á}{bs:List À}(rv:Reads s.heap v d bs)(hd:d.canLay0=true)(hu:A.units+d.depth<Ϭ):∀{us:List Á} {es:List ϭ} {as:List À},ReadsAll s.heap us es as->fy es=true->∀u∈us,SeqAt.EqAt A s u v (zj s.heap d u)
 |_,_,_,.nil,_=>λu hu=>by cases hu
 |_,_,_,.cons r rs,hc=>λu hm=>by
  unfold fy at hc;rw[Ė] at hc;rcases Ā.mp hm with rfl|hm
  ·rw[Gf r hc.1];exact SeqAt.eqAt_reads _ _ A s _ _ _ _ r rv hc.1 hd (by lia)
  ·exact lv rv hd hu rs hc.2 u hm
section
variable{X:Cx}
def QM(hu:X.A.units+64<Ϭ):ϲ X (ĺ .In) (QL X.K false):=by
 intro Ã s V H x y v u Q I rx ry h;obtain⟨d,es,a,xs,h1,rfl,hq,h3,h4,h5,h6,q⟩:=h;cases ry;obtain⟨as,ra⟩:=Rp.reads I d x v h1 rx;have OJ:X.A.in1.units+d.depth<Ϭ:=by have:X.A.in1.units=X.A.units+1:=rfl;lia
 rcases hq with hq|hq
 ·obtain⟨ċ,r,pl,hz⟩:=I.list hq;obtain⟨bs,rb⟩:=kZ.reads I es xs ċ h3 r;refine SeqAt.in_listAt (zj s.heap d) pl.isList (λw hw=>lv ra h4 OJ rb h5 w (by simpa using hw)) ⟨.bl _,H,I,rfl,?_⟩;rw[show ċ.toArray.any (zj s.heap d)=ċ.any (zj s.heap d) by simp,lu rb h5];exact q
 ·obtain⟨ċ,r,pl,hz⟩:=I.tuple hq;obtain⟨bs,rb⟩:=kZ.reads I es xs ċ h3 r;refine SeqAt.in_tupleAt (zj s.heap d) pl (λw hw=>lv ra h4 OJ rb h5 w (by simpa using hw)) ⟨.bl _,H,I,rfl,?_⟩;rw[show ċ.toArray.any (zj s.heap d)=ċ.any (zj s.heap d) by simp,lu rb h5];exact q
def DX(hu:X.A.units+64<Ϭ):ϲ X (ĺ .NotIn) (QL X.K true):=by
 intro Ã s V H x y v u Q I rx ry h;obtain⟨d,es,a,xs,h1,rfl,hq,h3,h4,h5,h6,q⟩:=h;cases ry;obtain⟨as,ra⟩:=Rp.reads I d x v h1 rx;have OJ:X.A.in1.units+d.depth<Ϭ:=by have:X.A.in1.units=X.A.units+1:=rfl;lia
 rcases hq with hq|hq
 ·obtain⟨ċ,r,pl,hz⟩:=I.list hq;obtain⟨bs,rb⟩:=kZ.reads I es xs ċ h3 r;refine SeqAt.notIn_listAt (zj s.heap d) pl.isList (λw hw=>lv ra h4 OJ rb h5 w (by simpa using hw)) ⟨.bl _,H,I,rfl,?_⟩;rw[show ċ.toArray.any (zj s.heap d)=ċ.any (zj s.heap d) by simp,lu rb h5];exact q
 ·obtain⟨ċ,r,pl,hz⟩:=I.tuple hq;obtain⟨bs,rb⟩:=kZ.reads I es xs ċ h3 r;refine SeqAt.notIn_tupleAt (zj s.heap d) pl (λw hw=>lv ra h4 OJ rb h5 w (by simpa using hw)) ⟨.bl _,H,I,rfl,?_⟩;rw[show ċ.toArray.any (zj s.heap d)=ċ.any (zj s.heap d) by simp,lu rb h5];exact q
end
def OK(Kk:Bool)(p q:PV):Option PV:=match q with
 | .lst ps=>if eE p && db ps && decide (ze p<=60) then some (.bl (if Kk then !(ps.any λy=>tQ y p) else ps.any λy=>tQ y p)) else none
 | .tup ps=>if eE p && db ps && decide (ze p<=60) then some (.bl (if Kk then !(ps.any λy=>tQ y p) else ps.any λy=>tQ y p)) else none
 |_=>none
theorem vO{p:PV}(h:eE p=true):∀{ps:List PV},db ps=true->(jm ps).any (λe=>ak e (jT p))=ps.any λy=>tQ y p
 | [],_=>rfl
 |y::ps,hp=>by unfold db at hp;rw[Ė] at hp;unfold jm;rw[di,di,vO h hp.2];rfl
def Gg{K:KK}{Kk:Bool}:ju K (QL K.K Kk) (OK Kk):=by
 intro c F H V Y p q pv v u Q rel r1 r2 e k;unfold OK at e;split at e
 ·rename_i ps;split at e
  ·rename_i hc;rw[Ė,Ė,decide_eq_true_eq] at hc;cases e;obtain⟨a,xs,rfl,h1,h2⟩:=r2.lst rel.sub;refine⟨jT p,jm ps,a,xs,jc rel.sub hc.1.1 r1,rfl,.inl h1,kZ.same rel.sub _ _ (jb ps xs hc.1.2 h2),fU p hc.1.1,g_ ps hc.1.2,by rw[fV];exact hc.2,?_⟩;rw[vO hc.1.1 hc.1.2];exact k _ F H rel Ę Ę Đ.bl
  ·cases e
 ·rename_i ps;split at e
  ·rename_i hc;rw[Ė,Ė,decide_eq_true_eq] at hc;cases e;obtain⟨a,xs,rfl,h1,h2⟩:=r2.tup rel.sub;refine⟨jT p,jm ps,a,xs,jc rel.sub hc.1.1 r1,rfl,.inr h1,kZ.same rel.sub _ _ (jb ps xs hc.1.2 h2),fU p hc.1.1,g_ ps hc.1.2,by rw[fV];exact hc.2,?_⟩;rw[vO hc.1.1 hc.1.2];exact k _ F H rel Ę Ę Đ.bl
  ·cases e
 ·cases e
@[simp] def Gh{α:Type}(m:M α)(Y:Ĝ):Ŋ α:= match m Y with
  | .ok a Y'=>.ok a Y'
  |_=>.bad
def Gi{X:Cx}{cm:String->À}{E:Ģ->XK}{tg l:Ð}{mi:M (List PV)}(h:PI X tg l (tI (kk X cm) EF mi)):PI X tg l (tI (kk X cm) E (Gh mi)):=λÃ s V H R I hh=>h Ã s V H R I (by
 obtain⟨c,F,Y,rel,h'⟩:=hh;refine⟨c,F,Y,rel,?_⟩;unfold Gh at h';cases e:mi Y with
 |ok a Y'=>rw[e] at h';exact h'
 |exc x Y'=>rw[e] at h';exact h'.elim
 |bad=>rw[e] at h';exact h')
def lw{x:Int}{n:Nat}(h1: -(2 ^ n:Int)<x)(h2:x<2 ^ n):bits x<=n:=by
 refine intBits_le_iff.mpr ?_;have e:((2 ^ n:Nat):Int)=(2:Int) ^ n:=by simp
 have:((x.natAbs:Nat):Int)<((2 ^ n:Nat):Int):=by rw[e];lia
 lia
def Vk{x y:Int}(h:y≠0)(h1: -18446744073709551616<y)(h2:y<18446744073709551616):gZ x y=true:=xO h (Ĺ (lw (n:=64) (by lia) (by lia)) (by decide))
@[simp] theorem Xx{x:Int}{n:Nat}(h:n≠0)(h2:n<18446744073709551616):gZ x (no_index (Ū n):Int)=true:=by have e:(no_index (Ū n):Int)=(n:Int):=rfl;rw[e];exact Vk (by lia) (by lia) (by lia)
@[simp] theorem Vl{x:Int}{n:Nat}(h:n<18446744073709551616):Ĵ x (no_index (Ū n):Int)=true:=by have e:(no_index (Ū n):Int)=(n:Int):=rfl;rw[e];exact WC (by lia) (by lia)
@[simp] theorem Vm{x:Int}{n:Nat}(h:n<18446744073709551616):Ĵ (no_index (Ū n):Int) x=true:=by have e:(no_index (Ū n):Int)=(n:Int):=rfl;rw[e];exact ϙ (by lia) (by lia)
@[simp] theorem Xy{m n:Nat}(h:m<18446744073709551616)(h2:n≤1000000):xJ (no_index (Ū m):Int) (no_index (Ū n):Int)=true:=by have e:(no_index (Ū m):Int)=(m:Int):=rfl;have e2:(no_index (Ū n):Int)=(n:Int):=rfl;rw[e,e2];unfold xJ;simp;lia
@[simp] theorem Vn{x:Int}{n:Nat}:x.fdiv (no_index (Ū n):Int)=x / (no_index (Ū n):Int):=jV x (oo n)
@[simp] theorem Vo{x:Int}{n:Nat}:x.fmod (no_index (Ū n):Int)=x % (no_index (Ū n):Int):=iy x (oo n)
def rT{xs ys:List PV}(h:xs.length+ys.length<=16777216):Ą (.lst xs) (.lst ys)=some (.ow (xs++ys)):=by unfold Ą;simp[h]
def QN{x y z w:Int}:tQ (.tup [.int x,.int y]) (.tup [.int z,.int w])=(decide (x=z) && decide (y=w)):=by show(decide (x=z) && (decide (y=w) && true))=_;rw[Bool.and_true]
mutual
theorem yn:∀p:PV,eE p=true->tQ p p=true
 | .non,_=>rfl
 | .bl b,_=>by simp[tQ,jT,ak]
 | .int i,_=>by simp[tQ,jT,ak]
 | .str x,_=>by simp[tQ,jT,ak]
 | .lst xs,h=>by unfold eE at h;exact mJ xs h
 | .tup xs,h=>by unfold eE at h;exact mJ xs h
 | .ins _ _ _,h=>by simp[eE] at h
 | .xc _ _ _,h=>by simp[eE] at h
 | .ty _,h=>by simp[eE] at h
 | .cls _,h=>by simp[eE] at h
theorem mJ:∀ps:List PV,db ps=true->UO ps ps=true
 | [],_=>rfl
 |p::ps,h=>by unfold db at h;rw[Ė] at h;show(tQ p p && UO ps ps)=true;rw[yn p h.1,mJ ps h.2];rfl
end
def DY{p:PV}(h:eE p=true)(hd:ze p<=60):bv p p=some (.bl false):=by unfold bv xL;rw[h,yn p h,decide_eq_true (by lia:min (ze p) (ze p)<=60)];rfl
def ϕ{a b:Str}(ha:Ϝ a=true)(hb:Ϝ b=true):Ş (.str a) (.str b)=some (.bl (decide (a=b))):=by have h:tQ (.str a) (.str b)=decide (a=b):=rfl;unfold Ş xL;rw[show eE (.str a)=true by unfold eE;exact ha,show eE (.str b)=true by unfold eE;exact hb,h];rfl
section
variable{g:Tg}{mb:M Fl}{mt:M Bool}{me:M PV}
theorem jg{α β:Type}(c:α->PV)(step:β->α->β)(J:β->Ĝ->Prop):∀(xs:List α),(∀x∈xs,∀b Y,J b Y->∃Y1 Y2,g (c x) Y=some Y1/\mb Y1=.ok .nx Y2/\J (step b x) Y2)->∀b Y,J b Y->∃Y',Ĩ g mb (xs.map c) Y=.ok .nx Y'/\J (xs.foldl step b) Y'
 | [],_,b,Y,h=>⟨Y,rfl,h⟩
 |x::xs,hs,b,Y,h=>by obtain⟨Y1,Y2,h1,h2,h3⟩:=hs x (by simp) b Y h;obtain⟨Y',e,h4⟩:=jg c step J xs (λy hy=>hs y (Ă _ hy)) (step b x) Y2 h3;refine⟨Y',?_,h4⟩;rw[ý,Ĩ,h1];dsimp only;rw[h2];exact e
theorem cP{α γ:Type}(c:α->PV)(t:α->Option γ)(v:γ->RV)(J:Ĝ->Prop):∀(xs:List α),(∀x∈xs,∀Y,J Y->∃Y1,g (c x) Y=some Y1/\((∃r Y2,t x=some r/\mb Y1=.ok (.rt (v r)) Y2)\/(∃Y2,t x=none/\mb Y1=.ok .nx Y2/\J Y2)))->∀Y,J Y->
 (∃r Y',xs.findSome? t=some r/\Ĩ g mb (xs.map c) Y=.ok (.rt (v r)) Y')\/(∃Y',xs.findSome? t=none/\Ĩ g mb (xs.map c) Y=.ok .nx Y'/\J Y')
 | [],_,Y,h=>.inr ⟨Y,rfl,rfl,h⟩
 |x::xs,hs,Y,h=>by
  obtain⟨Y1,h1,h2⟩:=hs x (by simp) Y h;rcases h2 with⟨r,Y2,e1,e2⟩|⟨Y2,e1,e2,e3⟩
  ·refine .inl ⟨r,Y2,by rw[oO,e1],?_⟩;rw[ý,Ĩ,h1];dsimp only;rw[e2];rfl
  ·have hf:List.findSome? t (x::xs)=List.findSome? t xs:=by rw[oO,e1]
   have hl:Ĩ g mb ((x::xs).map c) Y=Ĩ g mb (xs.map c) Y2:=by rw[ý,Ĩ,h1];dsimp only;rw[e2];rfl
   rw[hf,hl];exact cP c t v J xs (λy hy=>hs y (Ă _ hy)) Y2 e3
theorem bA{α:Type}(c f:α->PV)(q:α->Bool)(I:Ĝ->Prop):∀(xs:List α) (Y:Ĝ) (ď:List PV),I Y->ď.length+xs.length<=16777216->
 (∀x∈xs,∀Y,I Y->∃Y1 Y2,g (c x) Y=some Y1/\mt Y1=.ok (q x) Y2/\(q x=false->I Y2)/\(q x=true->∃Y3,me Y2=.ok (f x) Y3/\I Y3))->Ķ g mt me (xs.map c) Y ď=some (ď++(xs.filter q).map f)
 | [],Y,ď,_,_,_=>by simp[Ķ]
 |x::xs,Y,ď,h,hz,hs=>by
  obtain⟨Y1,Y2,h1,h2,h3,h4⟩:=hs x ĭ Y h;cases e:q x with
  |true=>obtain⟨Y3,h5,h6⟩:=h4 e;rw[e] at h2;rw[ý,Ķ,h1];dsimp only;rw[h2];dsimp only;rw[h5];dsimp only;rw[if_pos (by simp at hz;lia),bA c f q I xs Y3 (ď ++ [f x]) h6 (by simp at hz ⊢;lia) λy hy=>hs y (Ă _ hy)];simp[e]
  |false=>rw[e] at h2;rw[ý,Ķ,h1];dsimp only;rw[h2];dsimp only;rw[bA c f q I xs Y2 ď (h3 e) (by simp at hz ⊢;lia) λy hy=>hs y (Ă _ hy)];simp[e]
end
def ZaT(K:Ñ)(n:Nat)(t:EA):TG:=λv V H Q=>∃a xs,v=.ref a/\Ϟ K H a xs/\xs.length=n/\t xs V H Q
section
variable{X:Cx}{cm:String->À}{pos:Pos}
def QO{es:List Ð}{k:Nat}{t:EA}{n:Nat}(hc:X.calm=true)(h:zi X es t)
 (hn:(ϋ es X.env).length=n:=by rfl)(Dr:(ϋ es X.env).findIdx? (·.1)=none:=by rfl):PG X (.Tuple es k pos) (ZaT X.K n t):=by
 intro Ã s V H v u Q I r hw;obtain⟨a,xs,e1,hq,hl,hw⟩:=hw;subst e1;cases r;obtain⟨ċ,rv,ht,hz⟩:=I.list hq;rw[assign_Tuple];refine Ê (dw ?_);unfold unpack;rw[show(ϋ es X.env).length=ċ.toArray.size by simp[hn,<-hl,rv.length],Dr];refine Ê (ϫ (PySem.W.kun_itemsOf (I.ok.hd hc) ht.isList λh' hx=>?_));have I1:Inv X Ã V H {s with heap:=h'}:=I.kept (t':=s.toks) λb o e=>hx b o (ę (ó e)) e;exact h Ã _ V H xs _ Q I1 (by simpa using rv) hw
def gS(n:Nat)(gs:El):Tg:=λp Y=>match p with
 | .tup ps=>if ps.length=n then gs ps Y else none
 | .lst ps=>if ps.length=n then gs ps Y else none
 |_=>none
@[simp] theorem ZaU{n:Nat}{gs:El}{ps:List PV}{Y:Ĝ}:gS n gs (.tup ps) Y=if ps.length=n then gs ps Y else none:=rfl
@[simp] theorem ZaV{n:Nat}{gs:El}{ps:List PV}{Y:Ĝ}:gS n gs (.lst ps) Y=if ps.length=n then gs ps Y else none:=rfl
def gj{es:List Ð}{k:Nat}{gs:El}{n:Nat}(hc:X.calm=true)(h:zi X es (UH (kk X cm) gs))(hn:(ϋ es X.env).length=n:=by rfl)(Dr:(ϋ es X.env).findIdx? (·.1)=none:=by rfl):PG X (.Tuple es k pos) (tT (kk X cm) (gS n gs)):=by
 intro Ã s V H v u Q I r hw;obtain⟨c,F,Y,p,rel,rp,hw⟩:=hw;cases p with
 |tup ps=>
  unfold Đ at rp;obtain⟨a,xs,h1,h2,h3⟩:=rp;unfold gS at hw;dsimp only at hw;split at hw
  ·rename_i hl;exact EC hc h hn Dr Ã s V H v u Q I r ⟨a,xs,h1,Û.tup rel.sub h2,by rw[<-h3.length];exact hl,c,F,Y,ps,rel,h3,hw⟩
  ·exact hw.elim
 |lst ps=>
  unfold Đ at rp;obtain⟨a,xs,h1,h2,h3⟩:=rp;unfold gS at hw;dsimp only at hw;split at hw
  ·rename_i hl;exact QO hc h hn Dr Ã s V H v u Q I r ⟨a,xs,h1,rel.sub.seq h2,by rw[<-h3.length];exact hl,c,F,Y,ps,rel,h3,hw⟩
  ·exact hw.elim
 |_=>exact hw.elim
end
section
end
def ļ.keep{K:KK}{c:Ctx}{F H H':Hp}{V:Ģ}{Y:Ĝ}(r:ļ K c F H V Y)(e:Û H H'):ļ K c F H' V Y:= r.call ⟨e,Û.refl F,r.sub.trans e,λ_ _ h=>h⟩
def ļ.QP{K:KK}{c:Ctx}{F H:Hp}{V:Ģ}{Y:Ĝ}(r:ļ K c F H V Y){i:Nat}{ps qs:List PV}(e:Y[i]?=some (.ot ps qs)):∃F',Û F F'/\ļ K c F' H V (Y.set i (.sh (.tup (ps ++ [.lst qs])))):=by
 obtain⟨p,a,xs,vs,h1,h2,h3,h4,h5,h6,h7⟩:=r.slot i _ e;obtain⟨m1,m2⟩:=r.move (a:=a) ⟨_,_,e,Ű h1,p,xs,rfl,h2⟩;have ra:Đ K (upd F a (.lst vs)) (.lst qs) (.ref a):=by unfold Đ;exact⟨a,vs,rfl,Ϟ.of þ,h7.same (Û.upd h5) qs vs⟩
 have rp:Đ K (upd F a (.lst vs)) (.tup (ps ++ [.lst qs])) (.ref p):=by unfold Đ;exact⟨p,_,rfl,da.of (Û.upd h5 _ _ h2),ò.append (h3.same (Û.upd h5) ps xs) (ò.cons ra ò.nil)⟩
 have q:=(m1.freeze h4 h6 h5 m2).Fi (i:=i) (s:=.sh (.tup (ps ++ [.lst qs]))) rfl (show Ϲ K c _ H _ (.sh (.tup (ps ++ [.lst qs]))) from⟨.ref p,by rw[Ű h1];rfl,rp⟩);rw[List.set_set] at q;exact⟨_,Û.upd h5,q⟩
noncomputable def nv(i:Nat)(m:M Bool):M Bool:=λY=>match Y[i]? with
 |some (.ot ps qs)=>match m (Y.set i (.sh (.tup (ps ++ [.lst qs])))) with
  | .ok b _=>.ok b Y
  |_=>.bad
 |_=>m Y
section
variable{X:Cx}{cm:String->À}{E:Ģ->XK}{e o:Ð}{es:List Ð}{pos:Pos}{m:M Bool}{mo:M RV}{ma:M PV}
def Ab(i:Nat)(h:PT X e (tB (kk X cm) E m)):PT X e (tB (kk X cm) E (nv i m)):=PT.wk h λV H Q ⟨c,F,Y,rel,h⟩=>by
 unfold nv at h;cases e1:Y[i]? with
 |none=>rw[e1] at h;exact⟨c,F,Y,rel,h⟩
 |some s=>
  rw[e1] at h;cases s with
  |ot ps qs=>
   obtain⟨F',sF,aY⟩:=rel.QP e1;refine⟨c,F',_,aY,?_⟩;dsimp only at h;cases em:m (Y.set i (.sh (.tup (ps ++ [.lst qs])))) with
   |ok b Y1=>rw[em] at h;exact λv F2 H2 r1 s1 s2 q=>h v F H2 (rel.keep s2) Ę s2 q
   |exc x Y1=>rw[em] at h;exact h.elim
   |bad=>rw[em] at h;exact h.elim
  |_=>exact⟨c,F,Y,rel,h⟩
def Xz(K:KK):RR (List PV×RV) (List Qqj):=λc V Y F H r vs=>∃xs v,vs=xs ++ [v]/\ò K F r.1 xs/\rO K c V Y F H r.2 v
@[simp] def K0(mo:M RV)(Y:Ĝ):Ŋ (List PV×RV):= (mo Y).bind λr Y1=>.ok ([],r) Y1
@[simp] def vP(ma:M PV)(mr:M (List PV×RV))(Y:Ĝ):Ŋ (List PV×RV):= (ma Y).bind λp Y1=>(mr Y1).bind λr Y2=>.ok (p::r.1,r.2) Y2
def QQ(he:PE X e (tO (kk X cm) E mo))(hs:å [e] X.env=(false,Ý e X.env)::å [] X.env:=by exact ϗ rfl):PA X [e] (tG (kk X cm) E (Xz (kk X cm)) (K0 mo)):=
 PA.wk (ϳ he cT hs) λV H Q ⟨c,F,Y,rel,h⟩=>⟨c,F,Y,rel,h.bind λr Y1 v F1 H1 ë _ _ r1 h1=>h1 _ F1 H1 ë Ę Ę ⟨[],v,rfl,ò.nil,r1⟩⟩
def vQ{mr:M (List PV×RV)}(ha:PE X e (tV (kk X cm) E ma))(hr:PA X es (tG (kk X cm) E (Xz (kk X cm)) mr))(hs:å (e::es) X.env=(false,Ý e X.env)::å es X.env:=by exact ϗ rfl):PA X (e::es) (tG (kk X cm) E (Xz (kk X cm)) (vP ma mr)):=
 PA.wk (ϳ ha hr hs) λV H Q ⟨c,F,Y,rel,h⟩=>⟨c,F,Y,rel,h.bind λp Y1 v F1 H1 ë _ _ r1 h1=>⟨c,F1,Y1,ë,h1.bind λr Y2 vs F2 H2 ħ sF sH ⟨xs,u,e1,e2,e3⟩ h2=>h2 _ F2 H2 ħ Ę Ę ⟨v::xs,u,by rw[e1];rfl,ò.cons (Đ.same sF p v r1) e2,e3⟩⟩⟩
@[simp] def K1(mr:M (List PV×RV))(Y:Ĝ):Ŋ RV:= (mr Y).bind fun r Y1=>if r.1.length<16777216 then(match r.2 with
  | .ow qs=>.ok (.ot r.1 qs) Y1
  | .sh p=>.ok (.sh (.tup (r.1 ++ [p]))) Y1
  |_=>.bad) else .bad
def QR{x1}{mr:M (List PV×RV)}(h:PA X es (tG (kk X cm) E (Xz (kk X cm)) mr)):PE X (.Tuple es x1 pos) (tO (kk X cm) E (K1 mr)):=PE.wk (EN h) λV H Q ⟨c,F,Y,rel,h⟩=>
 ⟨c,F,Y,rel,h.bind fun r Y1 vs F1 H1 ë _ _ ⟨xs,v,e1,e2,e3⟩ h1=>by
   subst e1;split at h1
   ·rename_i hz;refine⟨by rw[ϩ,<-e2.length,ī];simp only[ŋ,oJ];lia,λp hp=>?_⟩;have ħ:=ë.alloc (o:=.tup (xs ++ [v])) hp;have sF:Û F1 (upd F1 p (.tup (xs ++ [v]))):=Û.upd (ë.sub.free hp);obtain⟨ps,rv⟩:=r;cases rv with
    |sh q=>refine h1 _ _ _ ħ sF (Û.upd hp) ?_;show Đ _ _ _ _;unfold Đ;exact⟨p,_,rfl,da.of þ,ò.append (e2.same sF ps xs) (ò.cons (Đ.same sF q v e3) ò.nil)⟩
    |ow qs=>
     obtain⟨a,vs,rfl,q1,q2,q3,q4,q5⟩:=e3;have na:a≠p:=λz=>by rw[z,hp] at q1;cases q1
     exact h1 _ _ _ ħ sF (Û.upd hp) ⟨p,a,xs,vs,rfl,þ,e2.same sF ps xs,by rw[ì na];exact q1,by rw[ì na];exact q2,q3,ë.qk sF q4,q5.same sF qs vs⟩
    |ot _ _=>exact h1.elim
   ·exact h1.elim⟩
@[simp] def CU(i j:Nat)(m:M PV)(Y:Ĝ):Ŋ Fl:= match Y[i]? with
  |some (.ot ps _)=>if ps.length=j then(m Y).bind λp Y1=>match Y1[i]? with
   |some (.ot zp qs)=>if zp.length=j/\qs.length<16777216 then .ok .nx (Y1.set i (.ot zp (qs ++ [p]))) else .bad
   |_=>.bad
   else .bad
  |_=>.bad
def Gj{xs:List Qqj}{v:Qqj}{j:Nat}(h:xs.length=j):qe (xs ++ [v]) (j:Int)=some v:=by
 subst h;have h1:((xs.length:Nat):Int)<((xs ++ [v]).length:Int):=by simp;lia
 unfold qe zE;rw[if_pos (by lia),if_pos h1];simp
def Gk{i j:Nat}{D:Ends}{V:Ģ}{H:Hp}(h:tS (kk X cm) E (CU i j ma) D V H):B7 (W_ X.K "list" vo (Pc (rIx X.K) (se i) (tC (.int j))) (tL (kk X cm) E (Ç ma â))) D V H:=by
 obtain⟨c,F,Y,rel,h⟩:=h;unfold CU at h;cases e1:Y[i]? with
 |none=>rw[e1] at h;exact h.elim
 |some sl=>
  rw[e1] at h;cases sl with
  |ot Qqq3 qs0=>
   obtain⟨p,a,xs,Qqq4,z1,z2,z3,z4,z5,z6,z7⟩:=rel.slot i _ e1;dsimp only at h;split at h
   ·rename_i hj;refine⟨.ref p,Ű z1,.inr (.inl ⟨p,xs ++ [.ref a],(j:Int),.ref a,rfl,rfl,da.of (rel.sub _ _ z2),Gj (by rw[<-z3.length];exact hj),.inl ⟨rfl,_,Ϟ.of z4⟩,c,F,Y,rel,?_⟩)⟩;unfold Ç;cases em:ma Y with
    |bad=>rw[em] at h;exact h
    |exc x Y1=>rw[em] at h;exact λC d F' H' aY s1 q=>h V C d F' H' aY s1 q
    |ok p1 Y1=>
     rw[em] at h;intro us F1 H1 ë s1 s2 r1;have rQ:ò (kk X cm) F1 [p1] us:=r1;cases rQ.pr with
     |cons rp t=>
      rename_i v lU;cases t;cases e2:Y1[i]? with
      |none=>simp only[Ŋ.aq,e2] at h;exact h.elim
      |some Du=>
       simp only[Ŋ.aq,e2] at h;cases Du with
       |ot ps qs=>
        obtain⟨p2,a2,Yg,vs,w1,w2,w3,w4,w5,w6,w7⟩:=ë.slot i _ e2;have own:ŧ F1 V Y1 i a2:=⟨_,_,e2,Ű w1,p2,Yg,rfl,w2⟩;have e3:=Ű z1;rw[Ű w1] at e3;have e3':p2=p:=by injection e3 with e3;injection e3 with e3;injection e3
        subst e3';have e4:a2=a:=ja (ps:=ps) (qs:=qs) (x:=.ref p2) ⟨p2,Yg,rfl,w2⟩ ⟨p2,xs,rfl,s1 _ _ z2⟩;subst e4;dsimp only at h;split at h
        ·rename_i hz;refine⟨a2,vs,v,rfl,rfl,w4,by rw[<-w7.length,ī];exact hz.2,h V F1 _ (ë.Fj own ⟨p2,a2,Yg,vs ++ [v],w1,w2,w3,þ,w5,w6,ò.append w7 (ò.cons rp ò.nil)⟩ λx b ex q=>?_) s1⟩;rw[Ű w1] at ex;cases ex;rw[ja (ps:=ps) (qs:=qs ++ [p1]) q ⟨p2,Yg,rfl,w2⟩];exact own
        ·exact h.elim
       |_=>exact h.elim
   ·exact h.elim
  |_=>exact h.elim
@[simp] theorem ZaW{ps qs:List PV}:(RV.ot ps qs).val=.tup (ps ++ [.lst qs]):=rfl
@[simp] theorem ZaX{ps qs:List PV}:(RV.ot ps qs).slot=.ot ps qs:=rfl
@[simp] theorem XA{i:Nat}{Y:Ĝ}:nv i m Y=(match Y[i]? with
  |some (.ot ps qs)=>match m (Y.set i (.sh (.tup (ps ++ [.lst qs])))) with
   | .ok b _=>.ok b Y
   |_=>.bad
  |_=>m Y):=rfl
end
section
end
section
end
section
end
section
end
section
end
section
end
section
end
open M5
def sA(js:List Nat)(Y:Ĝ)(p:PV):Ĝ:=js.map (λ(j:Nat)=>av ((Y[j]?).getD .no)) ++ [.sh p]
noncomputable def yo(js:List Nat)(me:M PV)(Y:Ĝ):List PV->Option (List Int)
 | []=>some []
 |p::ps=>match me (sA js Y p) with
  | .ok (.int k) _=>(yo js me Y ps).map (k:: ·)
  |_=>none
noncomputable def jK(p:PV)(k:Int):List PV->List Int->PV
 |q::qs,m::ms=>if m<k then jK q m qs ms else jK p k qs ms
 |_,_=>p
def jh:List PV->List Int->Option PV
 |p::ps,k::ks=>some (jK p k ps ks)
 |_,_=>none
def Gm(js:List Nat)(me:M PV)(mr:M (List PV)):M PV:=λY=>(mr Y).bind λps Y1=>match ps with
 | [.lst items]=>match yo js me Y1 items with
   |some ks=>Ŋ.Cn (jh items ks) Y1
   |none=>.bad
 |_=>.bad
theorem s_{js:List Nat}{me:M PV}{Y:Ĝ}:∀{items:List PV} {ks:List Int},yo js me Y items=some ks->ks.length=items.length/\∀(k:Nat) (p:PV),items[k]?=some p->∃Y',me (sA js Y p)=.ok (.int (ks.getD k 0)) Y'
 | [],ks,h=>by cases(show some []=some ks from h);exact⟨rfl,λk p z=>by simp at z⟩
 |q::r,ks,h=>by
  have h':(match me (sA js Y q) with
   | .ok (.int k) _=>(yo js me Y r).map (k:: ·)
   |_=>none)=some ks:=h
  split at h'
  ·rename_i k Y' e;cases e2:yo js me Y r with
   |none=>rw[e2] at h';cases h'
   |some ks'=>
    rw[e2] at h';cases(show some (k::ks')=some ks from h');obtain⟨h1,h2⟩:=s_ e2;refine⟨by simp[h1],λn p hp=>?_⟩;cases n with
    |zero=>simp at hp;subst hp;exact⟨Y',e⟩
    |succ n=>simp at hp;simpa using h2 n p hp
  ·cases h'
theorem dS:∀{qs:List PV} {ms:List Int} {p:PV} {k:Int} {i:Nat} {x:PV},ms.length=qs.length->(p::qs)[i]?=some x->(∀j,j<(p::qs).length->(k::ms).getD i 0<=(k::ms).getD j 0/\(j<i->(k::ms).getD i 0<(k::ms).getD j 0))->jK p k qs ms=x
 | [],[],p,k,i,x,_,hx,_=>by
   cases i with
   |zero=>simpa[jK] using hx
   |succ i=>simp at hx
 | [],_::_,_,_,_,_,h,_,_=>by simp at h
 |_::_,[],_,_,_,_,h,_,_=>by simp at h
 |q::qs,m::ms,p,k,i,x,hl,hx,hb=>by
  have Kt:ms.length=qs.length:=by simpa using hl
  unfold jK;by_cases hm:m<k
  ·rw[if_pos hm];cases i with
   |zero=>have:=(hb 1 (by simp)).1;simp at this;lia
   |succ i=>refine dS (i:=i) Kt (by simpa using hx) λj hj=>?_;have:=hb (j+1) (by simpa using hj);refine⟨by simpa using this.1,λhji=>by simpa using this.2 (by lia)⟩
  ·rw[if_neg hm];cases i with
   |zero=>
    refine dS (i:=0) Kt (by simpa using hx) λj hj=>?_;cases j with
    |zero=>exact⟨dg _,λz=>absurd z (ų _)⟩
    |succ j=>have:=hb (j+1+1) (by simpa using hj);exact⟨by simpa using this.1,λz=>absurd z (by lia)⟩
   |succ i=>
    cases i with
    |zero=>have:=(hb 0 (by simp)).2 (by lia);simp at this;lia
    |succ i=>
     refine dS (i:=i+1) Kt (by simpa using hx) λj hj=>?_;cases j with
     |zero=>have:=hb 0 (by simp);exact⟨by simpa using this.1,λ_=>by simpa using this.2 (by lia)⟩
     |succ j=>have:=hb (j+1+1) (by simpa using hj);exact⟨by simpa using this.1,λz=>by simpa using this.2 (by lia)⟩
def lx{items:List PV}{ks:List Int}{i:Nat}{x b:PV}(hl:ks.length=items.length)(h:jh items ks=some b)(hx:items[i]?=some x)(hb:∀j,j<items.length->ks.getD i 0<=ks.getD j 0/\(j<i->ks.getD i 0<ks.getD j 0)):b=x:=by
 cases items with
 |nil=>simp at hx
 |cons p ps=>
  cases ks with
  |nil=>simp at hl
  |cons k ks=>have h':jK p k ps ks=b:=ŀ h;rw[<-h'];exact dS (by simpa using hl) hx hb
section
variable{K:KK}{c:Ctx}{F H:Hp}{V:Ģ}{Y:Ĝ}
theorem Gr.refl(s:Û F H):Gr F H F H:=⟨Û.refl _,Û.refl _,s,λ_ _ z=>z⟩
theorem Gr.trans{F1 H1 F2 H2:Hp}(a:Gr F H F1 H1)(b:Gr F1 H1 F2 H2):Gr F H F2 H2:=
 ⟨a.h.trans b.h,a.f.trans b.f,b.sub,fun x hx hf=>b.out x (fun z=>by
   cases q:H x with
   |none=>exact hx q
   |some u=>rw[a.h x u q] at z;cases z) (a.out x hx hf)⟩
def ļ.lam(js:List Nat)(rel:ļ K c F H V Y){p:PV}{v:Qqj}(hp:Đ K F p v):ļ K (de F H) F H (eM js V v) (sA js Y p) where
 sub:=rel.sub
 base:=Û.refl _
 f0:=Û.refl _
 dY:=λ_ _ z=>z
 lent:=λa u e=>ef e
 lb:=fun a e=>by
   cases q:(de F H).L a with
   |none=>rfl
   |some u=>have e':H a=none:=e;rw[(ef q).1] at e';cases e'
 len:=by simp[eM,sA]
 slot:= λi s e=>by
  unfold sA at e;by_cases hi:i<js.length
  ·rw[ϧ (by simpa using hi),Ϩ] at e;cases ej:js[i]? with
   |none=>rw[ej] at e;cases e
   |some j=>
    rw[ej] at e;have e':av ((Y[j]?).getD .no)=s:=ŀ e;subst e';have hx:((eM js V v)[i]?).getD none=(V[j]?).getD none:=by unfold eM;rw[ϧ (by simpa using hi),Ϩ,ej];rfl
    rw[hx];cases er:Y[j]? with
    |none=>trivial
    |some sl=>
     have q:=rel.slot j sl er;cases sl with
     |no=>trivial
     |sh p=>exact q
     |ow ps=>obtain⟨a,vs,h1,h2,h3,h4,h5⟩:=q;refine⟨a,vs,h1,?_,h5⟩;show(match F a with|none=>H a|some _=>none)=_;rw[h3];exact h2
     |bw ps=>obtain⟨a,vs,h1,h2,h3⟩:=q;obtain⟨l1,l2⟩:=rel.lent a _ h2;refine⟨a,vs,h1,?_,h3⟩;show(match F a with|none=>H a|some _=>none)=_;rw[l2];exact l1
     |rc C ns ps=>trivial
     |ot ps qs=>trivial
     |ol Ck=>trivial
  ·have Wv:i=js.length:=by
    have l2:=(Ϧ.mp e).1;simp at l2;lia
   subst Wv;rw[bc (by simp)] at e;have e':Slot.sh p=s:=by simpa using e
   subst e';have hx:((eM js V v)[js.length]?).getD none=some v:=by unfold eM;rw[bc (by simp)];simp
   rw[hx];exact⟨v,rfl,hp⟩
 sep:=λi j a h1 _=>by
  exfalso;obtain⟨s,y,h1,_,h2⟩:=h1;have h2:=gP h2;unfold sA at h1;by_cases hi:i<js.length
  ·rw[ϧ (by simpa using hi),Ϩ] at h1;cases ej:js[i]? with
   |none=>rw[ej] at h1;cases h1
   |some j=>
    rw[ej] at h1;have e':av ((Y[j]?).getD .no)=s:=ŀ h1;subst e';cases er:Y[j]? with
    |none=>rw[er] at h2;cases h2
    |some sl=>rw[er] at h2;cases sl<;>cases h2
  ·have Wv:i=js.length:=by
    have l2:=(Ϧ.mp h1).1;simp at l2;lia
   subst Wv;rw[bc (by simp)] at h1;have e':Slot.sh p=s:=by simpa using h1
   subst e';cases h2
end
section
variable{X:Cx}{cm:String->À}{E:Ģ->XK}{x px:Str}{c Pt:À}{params:dC}{body e:Ð}{scope:ą}{p pos DK Ec:Pos}{mr:M (List PV)}{me:M PV}
def QT{k:Nat}(N0:List Str)(js:List Nat)(sc:ą)(hr:Ϗ (k+2) X.A)(rY:X.env.scope=sc)(hcalm:X.calm=true)(hx:x∈lams)(ht:Ů X.K x=some (c,Pt))(tM:X.env.code=.ref c)(hq:X.env.qual=x ++ ".<locals>.")
 (hg:Gl X "min")(hm:X.mg "min" =none)(ha:PA X [e] (Jp (kk X cm) E mr))(he:∀cl f c' s H,Ϗ k (Ek X (N0 ++ [px]) (cQ x) scope cl f c' X.A.in1 s H).A->(Ek X (N0 ++ [px]) (cQ x) scope cl f c' X.A.in1 s H).A.units+64<Ϭ->PE (Ek X (N0 ++ [px]) (cQ x) scope cl f c' X.A.in1 s H) body (tV (kk X cm) EF me))(hcap:eK X sc scope N0 js)(hlen:js.length=N0.length:=by rfl)
 (rP:∀(cl:List (Str×À)) (pm zc:Á) (c':À) (u:Á),bh (ve "<lambda>" (cQ x) params body scope cl pm (.ref c') zc) ⟨[u],[]⟩=ö [(px,u)]:=by intros;rfl)
 (hk:scope.kind=.function:=by rfl)(hcell:∀y∈scope.names,y.2≠ .cell:=by decide +kernel)(IA:scope.names.lookup px=some .local:=by rfl)(Ww:scope.isCoroutine=false:=by rfl)(Ib:scope.isGenerator=false:=by rfl)
 (hfree:∀y∈scope.names,y.2=.free->(sc.names.lookup y.1=some .cell\/sc.names.lookup y.1=some .free):=by decide +kernel)(Ia:defaultsOf params X.env=([],[]):=by rfl)
 (Dr:å [e] X.env=[(false,Ý e X.env)]:=by exact ϗ rfl)(gJ:(Ŭ pos (å [e] X.env)).any (·.1)=false:=by rfl) :
 PE X (.Call (.Name "min" p) [e] [⟨some "key",.Lambda params body scope DK,Ec⟩] pos) (tV (kk X cm) E (Gm js me mr)):=λÃ s V H Q I h=>
 Jn N0 js sc rY hcalm hr.depth hx ht tM hq hg hm ha (λcl f c' s H=>he cl f c' s H (hr.in1.deeper _) (hr.in1.deeper _).units) hcap hlen rP hk hcell IA Ww Ib hfree Ia Dr gJ Ã s V H Q I (by
  obtain⟨cc,F,Y,rel,h⟩:=h;refine⟨cc,F,Y,rel,h.bind λps Y1 vs F1 H1 ë s1 s2 q h1=>?_⟩;split at h1
  rotate_left
  ·exact h1.elim
  rename_i items;split at h1
  rotate_left
  ·exact h1.elim
  rename_i kl xl;obtain⟨kl1,kl2⟩:=s_ xl;cases hb:jh items kl with
  |none=>rw[hb] at h1;exact h1.elim
  |some b=>
   rw[hb] at h1;have q':Paired (rR (kk X cm) cc V Y1 F1 H1) [.lst items] vs:=q;obtain⟨l,xs,rfl,hs,hr⟩:∃l xs,vs=[.ref l]/\Ϟ X.K H1 l xs/\ò (kk X cm) F1 items xs:=by
    cases q' with
    |cons a b=>
     cases b;rcases a with a|a
     ·unfold Đ at a;obtain⟨l,xs,rfl,e1,e2⟩:=a;exact⟨l,xs,rfl,ë.sub.seq e1,e2⟩
     ·obtain⟨l,xs,rfl,e1,e2⟩:=a;exact⟨l,xs,rfl,Ϟ.of e1,e2⟩
   have len:items.length=xs.length:=hr.length;have eW:0<xs.length:=by
    rw[<-len];cases items with
    |nil=>simp[jh] at hb
    |cons _ _=>simp
   refine⟨l,xs,rfl,hs,eW,λc q H2 sm hc nw=>⟨λk=>kl.getD k 0,λ_ H=>∃F',Gr F1 H2 F' H,⟨F1,Gr.refl (ë.sub.trans sm)⟩,λk H ⟨F',g⟩=>g.h,λk v H hv ⟨F',g⟩=>?_,λi v H hv tN ⟨F',g⟩=>?_⟩⟩
   ·have ħ:ļ (kk X cm) cc F1 H2 V Y1:=ë.call ⟨sm,Û.refl _,ë.sub.trans sm,λ_ _ z=>z⟩;have hki:k<items.length:=by rw[len];exact(Ϧ.mp hv).1
    obtain⟨Y',hme⟩:=kl2 k items[k] (Ō hki);obtain⟨v',A4,rv⟩:=bI hr.pr (Ō hki);rw[hv] at A4;cases A4;refine⟨de F' H,F',sA js Y1 items[k],(ħ.call g).lam js (Đ.same g.f _ _ rv),?_⟩;rw[hme];intro y F2 H3 jl _ _ ry;have ry':Đ (kk X cm) F2 (.int (kl.getD k 0)) y:=ry;unfold Đ at ry';exact⟨ry',F2,g.trans jl.gr⟩
   ·have ħ:ļ (kk X cm) cc F1 H2 V Y1:=ë.call ⟨sm,Û.refl _,ë.sub.trans sm,λ_ _ z=>z⟩;have hii:i<items.length:=by rw[len];exact(Ϧ.mp hv).1
    obtain⟨v',A4,rv⟩:=bI hr.pr (Ō hii);rw[hv] at A4;cases A4;have eb:=lx kl1 hb (Ō hii) (λj hj=>tN j (by rw[<-len];exact hj));subst eb;exact h1 v F' H (ħ.call g) g.f (sm.trans g.h) (Đ.same g.f _ _ rv))
end
def QU(K:Ñ)(x:Str)(f:À):Bool:=pO K ū x== some (some (.ref f)) && (Ů K x).isSome
section
variable{P:î}{w:ß}{K:Ñ}{cm:String->À}{mg:Str->Option Á}{base:Õ}{CX:nh}
def JV{x qual:Str}{st:Ö}{f:À}{fd:ě}(F:Ei K x qual st f fd){c Pt:À}(h:pO K ū x=some (some (.ref f)))(ht:Ů K x=some (c,Pt)):fd.code=.ref c:=by
 obtain⟨oc,od,kV,iu,pm,an,ű,ct,rN,rfl,lk,et⟩:=F.ex;unfold Ů at ht;split at ht
 ·rename_i f2 hf;rw[h] at hf;cases hf;split at ht
  ·rename_i Ya;rw[lk] at Ya;cases Ya;split at ht
   ·rename_i c2 hc;split at ht
    ·split at ht
     ·cases ht;exact hc
     ·cases ht
    ·cases ht
   ·cases ht
  ·cases ht
 ·cases ht
def ZaY{x qual:Str}{st:Ö}{f:À}{fd:ě}{N ps:List Str}{k n j:Nat}{mb:M Fl}{mf:MF}(F:Ei K x qual st f fd)(S:à N ps (Ô st))(hn:ps.length=n)(hj:N.length=j)(hf:mf=Ğ n j mb)(wV:QU K x f=true)
 (c_:∀(c Pt:À),Ů K x=some (c,Pt)→∀(A:ð) (outer:List Env) (s:Å) (H:Hp) (E:XK),Ϗ k (A.deeper (ġ qual (Ô st) s.heap.objs.size f (.ref c)))→
   fH (bE CX P w K mg base N qual (Ô st) f (.ref c) A outer s H E) (Į st) (tS ⟨K,cm⟩ (λ_=>E) mb)):Ĉ P w K mg base CX (k+1) f fd ps (ſ ⟨K,cm⟩ n mf):=by
 subst hn hj hf;unfold QU at wV;simp only[Ė,beq_iff_eq] at wV;obtain⟨h1,h2⟩:=wV;obtain⟨⟨c,Pt⟩,ht⟩:=Bu.mp h2;have hc:=JV F h1 ht;obtain⟨oc,od,kV,iu,pm,an,ű,ct,rN,rfl,lk,et⟩:=id F.ex;have jN:ű=.ref c:=hc;subst jN;refine xv lk et S (λvs H Q E ⟨F,zp,h1,_,h2,_⟩=>by rw[<-Paired.length h2];exact h1) λA outer s H vs Q E hr zo=>?_;obtain⟨F,zp,h1,h2,h3,h4⟩:=zo;refine⟨_,c_ c Pt ht A outer s H E hr,de F H,F,ş N.length zp,ļ.start h2 h3,?_⟩;unfold Ğ at h4;rw[if_pos h1] at h4;cases e:mb (ş N.length zp) with
 |bad=>rw[e] at h4;exact h4
 |exc x Y'=>rw[e] at h4;exact λV' C d F' H' rel s1 q=>h4 C d F' H' rel.gr q
 |ok fl Y'=>
  rw[e] at h4;cases fl with
  |nx=>exact λV' F' H' rel s1=>h4 .non F' H' rel.gr (Đ.non (K:=⟨K,cm⟩) (F:=F'))
  |bk=>exact h4.elim
  |ct=>exact h4.elim
  |rt r=>
   intro v V' F' H' rel s1 q;refine h4 v F' H' rel.gr ?_;cases r with
   |sh p=>exact q
   |ow qs=>obtain⟨a,lU,e1,e2,e3,e4,_,e5⟩:=q;exact⟨a,lU,e1,e2,e3,e4,e5⟩
   |ot qs ts=>obtain⟨p,a,xs,lU,e1,e0,ex,e2,e3,e4,_,e5⟩:=q;exact⟨p,a,xs,lU,e1,e0,ex,e2,e3,e4,e5⟩
structure QV(K:Ñ)(x qual:Str)(st:Ö)(f:À)(fd:ě):Prop where
 ex:∃(oc:Á) (od:Option À) (dV kV iu pm:Á) (an:Option À) (ű ct:Á) (rN:Array (Option Á)),
   fd=Ŏ x qual (ŝ st) (Į st) (Ô st) dV kV iu pm an ű ct/\K.lookup f=some ⟨oc,od,.func fd,rN⟩/\dH K ű qual=true
 kp:Ť K (.ref f)=true
def JW{x qual:Str}{st:Ö}{f:À}{oc:Á}{od an:Option À}{rN:Array (Option Á)}{dV kV iu pm ű ct:Á}(l:K.lookup f=some ⟨oc,od,.func (Ŏ x qual (ŝ st) (Į st) (Ô st) dV kV iu pm an ű ct),rN⟩)
 (c:dH K ű qual=true)(k:Ť K (.ref f)=true):QV K x qual st f (Ŏ x qual (ŝ st) (Į st) (Ô st) dV kV iu pm an ű ct):=⟨⟨oc,od,dV,kV,iu,pm,an,ű,ct,rN,rfl,l,c⟩,k⟩
def ZaZ{x qual:Str}{st:Ö}{f:À}{fd:ě}{N ps:List Str}{k n j:Nat}{mb:M Fl}{mf:MF}(F:QV K x qual st f fd)(S:à N ps (Ô st))(hn:ps.length=n)(hj:N.length=j)(hf:mf=Ğ n j mb)
 (c_:∀(ű:Á) (A:ð) (outer:List Env) (s:Å) (H:Hp) (E:XK),Ϗ k (A.deeper (ġ qual (Ô st) s.heap.objs.size f ű))→
   fH (bE CX P w K mg base N qual (Ô st) f ű A outer s H E) (Į st) (tS ⟨K,cm⟩ (λ_=>E) mb)):Ĉ P w K mg base CX (k+1) f fd ps (ſ ⟨K,cm⟩ n mf):=by
 subst hn hj hf;obtain⟨oc,od,dV,kV,iu,pm,an,ű,ct,rN,rfl,lk,et⟩:=F.ex;refine xv lk et S (λvs H Q E ⟨F,zp,h1,_,h2,_⟩=>by rw[<-Paired.length h2];exact h1) λA outer s H vs Q E hr zo=>?_;obtain⟨F,zp,h1,h2,h3,h4⟩:=zo;refine⟨_,c_ ű A outer s H E hr,de F H,F,ş N.length zp,ļ.start h2 h3,?_⟩;unfold Ğ at h4;rw[if_pos h1] at h4;cases e:mb (ş N.length zp) with
 |bad=>rw[e] at h4;exact h4
 |exc x Y'=>rw[e] at h4;exact λV' C d F' H' rel s1 q=>h4 C d F' H' rel.gr q
 |ok fl Y'=>
  rw[e] at h4;cases fl with
  |nx=>exact λV' F' H' rel s1=>h4 .non F' H' rel.gr (Đ.non (K:=⟨K,cm⟩) (F:=F'))
  |bk=>exact h4.elim
  |ct=>exact h4.elim
  |rt r=>
   intro v V' F' H' rel s1 q;refine h4 v F' H' rel.gr ?_;cases r with
   |sh p=>exact q
   |ow qs=>obtain⟨a,lU,e1,e2,e3,e4,_,e5⟩:=q;exact⟨a,lU,e1,e2,e3,e4,e5⟩
   |ot qs ts=>obtain⟨p,a,xs,lU,e1,e0,ex,e2,e3,e4,_,e5⟩:=q;exact⟨p,a,xs,lU,e1,e0,ex,e2,e3,e4,e5⟩
def Ac{x qual:Str}{st:Ö}{ps:List Str}{T:À}{oT:Obj}{items:Array Á}{nT:Nat}{kV iu pm:Á}{an:Option À}{ű ct:Á}(hT:K.lookup T=some oT)(hs:oT.data=.seq items nT)
 (h:∀us:List Á,us.length=ps.length->∃k:Option (Array Á)->Sem (List (Str×Á)),bh (Ŏ x qual (ŝ st) (Į st) (Ô st) (.ref T) kV iu pm an ű ct) ⟨us,[]⟩=cH (.ref T) >>= k/\k (some items)=ö (ps.zip us)) :
 Binds K (Ŏ x qual (ŝ st) (Į st) (Ô st) (.ref T) kV iu pm an ű ct) ps []:=λs us X hl=>by
 rw[cx] at hl ⊢;obtain⟨k,h1,h2⟩:=h us hl;exact PySem.W.binds_K X rfl hT hs h1 h2
end
section
variable{js:List Nat}{me:M PV}{mr:M (List PV)}{Y:Ĝ}
theorem JX:Gm js me mr Y=(mr Y).bind λps Y1=>match ps with
 | [.lst items]=>match yo js me Y1 items with
   |some ks=>Ŋ.Cn (jh items ks) Y1
   |none=>.bad
 |_=>.bad:=rfl
end
def qJ(mf:MF)(XB:List Slot)(mr:M (List Slot)):M RV:=λY=>(mr Y).bind λps Y1=>match mf (ps++XB) with
 | .ret r=>.ok r Y1
 | .exc x=>.exc x Y1
 | .bad=>.bad
section
variable{X:Cx}{cm:String->À}{E:Ģ->XK}{CX:nh}{k n:Nat}{f:À}{fd:ě}{ps:List Str}{mf:MF}{mr:M (List Slot)}{x:Str}{p pos:Pos}{e:Ð}{es:List Ð}{ds:List Á}{IU:List Qqj}{XB:List Slot}
def Gn{sp:Sp}{Ã:List (À×Obj)}{V:Ģ}{H:Hp}{s:Å}{Q:VK}{us:List Á}{vs:List Qqj}(F:Ĉ X.prog X.w X.K X.mg X.base CX k f fd ps sp)(hr:Ϗ k X.A)(hb:Binds X.K fd ps ds)(hd:Ĳ IU ds)(hx:ϴ CX X E)
 (I:Inv X Ã V H s)(r:Ĳ vs us)(h:sp (vs++IU) H Q (E V)):Î (Ó X.prog X.w) X.A (call (.ref f) us) (EP X Ã V Q) X.xe s:=by
 have r2:Ĳ (vs++IU) (us++ds):=r.append hd;have hl:(us++ds).length=ps.length:=by rw[<-r2.length];exact F.len _ _ _ _ h
 refine cG (iL (F.run X.A X.stack s H ⟨us,[]⟩ (us++ds) (vs++IU) Q (E V) hr I.env0 (hb s us I.eY hl) r2 h) λr s' hq=>?_);cases r with
 |error e=>exact hx Ã V H s e s' I hq
 |ok fl=>
  cases fl with
  |ret u=>exact I.after hq
  |next=>exact Š hq
  |brk=>exact Š hq
  |cont=>exact Š hq
def JY(hb:Binds X.K fd ps ds)(hd:Ĳ IU ds)(hdp:∀F H,Paired (cg (kk X cm) F H) XB IU)(F:Ĉ X.prog X.w X.K X.mg X.base CX k f fd ps (ſ (kk X cm) n mf))(hlen:∀{ps:List Slot},(∃r,mf ps=r/\∀z,r=z->z≠ .bad)->ps.length=n)(hr:Ϗ k X.A)(hg:Gl X x)(hm:X.mg x=some (.ref f))(hk:Ť X.K (.ref f)=true)(hx:ϴ CX X E)
 (ha:PA X (e::es) (tA (kk X cm) E mr))(oi:(x== ("__debug__" :Str))=false:=by decide)(he:å (e::es) X.env=(false,Ý e X.env)::å es X.env:=by exact ϗ rfl)(gJ:(Ŭ pos (å es X.env)).any (·.1)=false:=by rfl) :
 PE X (.Call (.Name x p) (e::es) [] pos) (tO (kk X cm) E (qJ mf XB mr)):=by
 intro Ã s V H Q I h;obtain⟨c,F,Y,rel,h⟩:=h;refine fk (fJ I hg hm ?_ oi);refine pN (h₀:= X.base) I.ok.mod.OU hk (Ų (ha pos Ã s V H (λvs H1=>ſ (kk X cm) n mf (vs++IU) H1 Q (E V)) I ⟨c,F,Y,rel,h.bind λzp Y1 vs F1 H1 ë _ _ r1 h1=>qm hlen ë (vt r1 (hdp F1 H1)) h1⟩) λus s1 ⟨vs,H1,I1,r,q⟩=>⟨I1.eY,?_⟩) he gJ;exact Gn (by assumption) hr hb hd hx I1 r q
def Go(d:Int)(hb:∃tk,Binds X.K fd ps [.int d tk])(F:Ĉ X.prog X.w X.K X.mg X.base CX k f fd ps (ſ (kk X cm) n mf))(hlen:∀{ps:List Slot},(∃r,mf ps=r/\∀z,r=z->z≠ .bad)->ps.length=n)(hr:Ϗ k X.A)(hg:Gl X x)(hm:X.mg x=some (.ref f))(hk:Ť X.K (.ref f)=true)(hx:ϴ CX X E)
 (ha:PA X (e::es) (tA (kk X cm) E mr))(oi:(x== ("__debug__" :Str))=false:=by decide)(he:å (e::es) X.env=(false,Ý e X.env)::å es X.env:=by exact ϗ rfl)(gJ:(Ŭ pos (å es X.env)).any (·.1)=false:=by rfl) :
 PE X (.Call (.Name x p) (e::es) [] pos) (tO (kk X cm) E (qJ mf [~~~d] mr)):=by
 obtain⟨tk,hb⟩:=hb;exact JY (IU:=[.int d]) hb (.cons ⟨tk,rfl⟩ .nil) (λF H=>.cons (show cg (kk X cm) F H (~~~d) (.int d) from Đ.int (K:=kk X cm) (F:=F)) .nil) F hlen hr hg hm hk hx ha oi he gJ
end
def Ad{K:Ñ}{x qual:Str}{st:Ö}{ps:List Str}{T:À}{oT:Obj}{items:Array Á}{nT:Nat}{ds:List Á}{kV iu pm:Á}{an:Option À}{ű ct:Á}(hT:K.lookup T=some oT)(hs:oT.data=.seq items nT)
 (h:∀us:List Á,(us++ds).length=ps.length->∃k:Option (Array Á)->Sem (List (Str×Á)),bh (Ŏ x qual (ŝ st) (Į st) (Ô st) (.ref T) kV iu pm an ű ct) ⟨us,[]⟩=cH (.ref T) >>= k/\k (some items)=ö (ps.zip (us++ds))) :
 Binds K (Ŏ x qual (ŝ st) (Į st) (Ô st) (.ref T) kV iu pm an ű ct) ps ds:=λs us X hl=>by
 obtain⟨k,h1,h2⟩:=h us hl;exact PySem.W.binds_K X rfl hT hs h1 h2
def BN:Nat->(List Á->Prop)->Prop
 |0,p=>p []
 |n+1,p=>∀u,BN n λus=>p (u::us)
theorem mK:∀{n:Nat} {p:List Á->Prop},BN n p->∀us,us.length=n->p us
 |0,p,h,[],_=>h
 |0,p,h,_::_,e=>by cases e
 |n+1,p,h,[],e=>by cases e
 |n+1,p,h,u::us,e=>mK (h u) us (Nat.succ.inj e)
structure Df(K:Ñ)(mg:Str->Option Á)(x:Str)(st:Ö)(ps:List Str)(f:À)(fd:ě):Prop where
 F:Ei K x x st f fd
 m:mg x=some (.ref f)
 b:Binds K fd ps []
 bb:∀(s:Å) (us:List Á),us.length=ps.length->dB s fd ⟨us,[]⟩ (ps.zip us)
structure Dm(K:Ñ)(C:À)(x q:Str)(st:Ö)(ps:List Str)(f:À)(fd:ě):Prop where
 F:Ei K x q st f fd
 b:Binds K fd ps []
section
variable{K:Ñ}{h:Õ}{mg:Str->Option Á}{x q:Str}{st:Ö}{ps:List Str}{f C:À}{oc kV dc pm cd ct:Á}{od an:Option À}{sl:Array (Option Á)}
def ĕ(X:K.In h)(G:h.Ns ū mg)(hb:∀(kV dc pm:Á) (an:Option À) (cd ct:Á),BN ps.length λus=>bh (Ŏ x x (ŝ st) (Į st) (Ô st) .none kV dc pm an cd ct) ⟨us,[]⟩=ö (ps.zip us))
 (a:pO K ū x=some (some (.ref f)))(l:K.lookup f=some ⟨oc,od,.func (Ŏ x x (ŝ st) (Į st) (Ô st) .none kV dc pm an cd ct),sl⟩)(c:dH K cd x=true)(k:Ť K (.ref f)=true) :
 Df K mg x st ps f (Ŏ x x (ŝ st) (Į st) (Ô st) .none kV dc pm an cd ct):=
 have F:=EX (st:=st) l c k
 ⟨F,ů X G a,F.binds λkV dc pm an cd ct us hl=>mK (hb kV dc pm an cd ct) us hl,λs us hl=>.of_eq (mK (hb kV dc pm an cd ct) us hl)⟩
def hJ(hb:∀(kV dc pm:Á) (an:Option À) (cd ct:Á),BN ps.length λus=>bh (Ŏ x q (ŝ st) (Į st) (Ô st) .none kV dc pm an cd ct) ⟨us,[]⟩=ö (ps.zip us))
 (a:ł K (.ref C) x=some (some (.ref f)))(l:K.lookup f=some ⟨oc,od,.func (Ŏ x q (ŝ st) (Į st) (Ô st) .none kV dc pm an cd ct),sl⟩)(c:dH K cd q=true)(k:Ť K (.ref f)=true) :
 Dm K C x q st ps f (Ŏ x q (ŝ st) (Į st) (Ô st) .none kV dc pm an cd ct):=
 have F:=EX (st:=st) l c k
 ⟨F,F.binds λkV dc pm an cd ct us hl=>mK (hb kV dc pm an cd ct) us hl⟩
end
def ac{N ps:List Str}{sc:ą}(h1:sc.kind=.function:=by rfl)(h2:sc.isCoroutine=false:=by rfl)(h3:sc.isGenerator=false:=by rfl)(h4:N.Nodup:=by decide +kernel)(h5:N.take ps.length=ps:=by rfl)(h6:∀x∈ps,sc.names.lookup x=some .local\/sc.names.lookup x=some .cell:=by decide +kernel)
 (h7:∀y∈sc.names,y.2≠ .free:=by decide +kernel):à N ps sc:=⟨h1,h2,h3,h4,h5,h6,h7⟩
section
variable{X:Cx}{cm:String->À}{E:Ģ->XK}{CX:nh}{k j n:Nat}{f:À}{fd:ě}{ps:List Str}{mf:MF}{mr:M (List Slot)}{x:Str}{st:Ö}{p pos:Pos}{e:Ð}{es:List Ð}
def Ù(F:Ĉ X.prog X.w X.K X.mg X.base CX k f fd ps (ſ (kk X cm) n mf))(D:Df X.K X.mg x st ps f fd)(hr:Ϗ j X.A)(hx:ϴ CX X E)
 (ha:PA X (e::es) (tA (kk X cm) E mr))(hlen:∀{ps:List Slot},(∃r,mf ps=r/\∀z,r=z->z≠ .bad)->ps.length=n:=by exact aA)(hg:Gl X x:=by rfl)(hkj:k<=j:=by decide)(oi:(x== ("__debug__" :Str))=false:=by decide)(he:å (e::es) X.env=(false,Ý e X.env)::å es X.env:=by exact ϗ rfl)(gJ:(Ŭ pos (å es X.env)).any (·.1)=false:=by rfl) :
 PE X (.Call (.Name x p) (e::es) [] pos) (tO (kk X cm) E (ç mf mr)):=zN F hlen (hr.mono hkj) hg D.m D.F.kp D.b hx ha oi he gJ
end
section
variable{Pg:î}{w:ß}{K:Ñ}{mg:Str->Option Á}{base:Õ}{CX:nh}{cm:String->À}
def Ŀ{x qual:Str}{st:Ö}{f:À}{fd:ě}{N ps:List Str}{k n j:Nat}{mb:M Fl}{mf:MF}(F:Ei K x qual st f fd)(S:à N ps (Ô st))
 (c_:∀(ű:Á) (A:ð) (outer:List Env) (s:Å) (H:Hp) (E:XK),Ϗ k (A.deeper (ġ qual (Ô st) s.heap.objs.size f ű))→(A.deeper (ġ qual (Ô st) s.heap.objs.size f ű)).units+64<Ϭ→
   fH (bE CX Pg w K mg base N qual (Ô st) f ű A outer s H E) (Į st) (tS ⟨K,cm⟩ (λ_=>E) mb))(hn:ps.length=n:=by rfl)(hj:N.length=j:=by rfl)(hf:mf=Ğ n j mb:=by rfl):Ĉ Pg w K mg base CX (k+1) f fd ps (ſ ⟨K,cm⟩ n mf):=
 Qqq7 F S hn hj hf λű A outer s H E hr=>c_ ű A outer s H E hr hr.units
end
def rLc(K:KK):RR (List PV) Qqj:=λ_ _ _ F H items v=>∃a,v=.ref a/\(∃xs,Ϟ K.K H a xs)/\eh K (de F H).L F (Ky K.K a) items
noncomputable def JZ(i:Nat):M (List PV):=λY=>match Y[i]? with
 |some (.bw ps)=>.ok ps Y
 |some (.sh (.lst ps))=>.ok ps Y
 |some (.ow ps)=>.ok ps Y
 |_=>.bad
@[simp] theorem Za_{i:Nat}{Y:Ĝ}:JZ i Y=(match Y[i]? with
  |some (.bw ps)=>.ok ps Y
  |some (.sh (.lst ps))=>.ok ps Y
  |some (.ow ps)=>.ok ps Y
  |_=>.bad):=rfl
section
variable{X:Cx}{cm:String->À}{E:Ģ->XK}{e:Ð}
def Za0(i:Nat){x:Str}{px:Pos}(hN:X.N[i]?=some x:=by rfl)(hv:w_ X.env.scope x:=by first|exact Ġ rfl|exact Č (Ġ rfl)|exact Č (Č rfl))(hd:(x== ("__debug__" :Str))=false:=by decide)
 (et:(x== ("__classdict__" :Str))=false:=by decide):PE X (.Name x px) (tG (kk X cm) E (rLc (kk X cm)) (JZ i)):=PE.wk (cS hN hv hd et) λV H Q ⟨c,F,Y,rel,h⟩=>by
 unfold JZ at h;cases e:Y[i]? with
 |none=>rw[e] at h;exact h.elim
 |some sl=>
  rw[e] at h;cases sl with
  |ow ps=>
   obtain⟨a,vs,h1,h2,h3,h4,h5⟩:=rel.slot i _ e;have hl:(de F H).L a=some (.lst vs):=by show(match F a with|none=>H a|some _=>none)=_;rw[h3];exact h2
   exact⟨.ref a,Ű h1,h _ F H rel Ę Ę ⟨a,rfl,⟨vs,Ϟ.of h2⟩,jf hl h5⟩⟩
  |bw ps=>obtain⟨a,vs,h1,h2,h3⟩:=rel.slot i _ e;exact⟨.ref a,Ű h1,h _ F H rel Ę Ę ⟨a,rfl,⟨vs,Ϟ.of (rel.lent a _ h2).1⟩,jf (KH rel h2) h3⟩⟩
  |sh p=>
   obtain⟨v,h1,h2⟩:=rel.slot i _ e;cases p with
   |lst ps=>obtain⟨a,e1,⟨xs,e2⟩,e3⟩:=hG (L:=(de F H).L) h2;exact⟨v,Ű h1,h v F H rel Ę Ę ⟨a,e1,⟨xs,rel.sub.seq e2⟩,e3⟩⟩
   |_=>exact h.elim
  |_=>exact h.elim
def J_{elts:List Ð}{k:Nat}{tp p pos:Pos}{mi:M (List PV)}(hg:Gl X "enumerate")(hm:X.mg "enumerate" =none)(hl:PE X e (tG (kk X cm) E (rLc (kk X cm)) mi))(hs:å [e] X.env=[(false,Ý e X.env)]:=by exact ϗ rfl) :
 PI X (.Tuple elts k tp) (.Call (.Name "enumerate" p) [e] [] pos) (tG (kk X cm) E (DM (kk X cm)) (yc mi)):=λÃ s V H R I h=>CN hg hm (ϳ hl cT hs) hs Ã s V H R I (by
 obtain⟨c,F,Y,rel,h⟩:=h;refine⟨c,F,Y,rel,h.bind λps Y1 v F1 H1 ë s1 s2 q h1=>?_⟩;obtain⟨a,e1,e2,e3⟩:=q;subst e1;exact⟨a,rfl,e2,h1 _ F1 H1 ë Ę Ę (sZ e3)⟩)
end
noncomputable def tgN:Ð->List Str
 | .Name x _=>[x]
 | .Tuple es _ _=>es.flatMap fun e=>match e with
   | .Name x _=>[x]
   |_=>[]
 |_=>[]
def cN(X:Cx)(js:List Nat)(tg:Ð):List Str:=js.map (λ(j:Nat)=>(X.N[j]?).getD "")++tgN tg
def ndB{l:List Str}(h:decide l.Nodup=true):l.Nodup:=of_decide_eq_true h
def frB{a b:ą}(h:(a.names.all λy=>decide (y.2=.free->(b.names.lookup y.1=some .cell\/b.names.lookup y.1=some .free)))=true):∀y∈a.names,y.2=.free->(b.names.lookup y.1=some .cell\/b.names.lookup y.1=some .free):=λy hy=>of_decide_eq_true (fe.mp h y hy)
section
end
section
end
section
end
section
variable{X:Cx}{cm:String->À}{E:Ģ->XK}{a b e:Ð}{es:List Ð}{ma mb m:M PV}{mo:M RV}{pos p:Pos}
def Í{i j pos}:PE X (.Constant (.int i) j pos) (tR (kk X cm) E (mC (.int i))):=ÿ ģ
def eS{j pos}:PE X (.Constant .none j pos) (tR (kk X cm) E (mC .non)):=ÿ jt
def eT{x j pos}:PE X (.Constant (.str x) j pos) (tR (kk X cm) E (mC (.str x))):=ÿ gc
def Ž(ha:PE X a (tR (kk X cm) E ma))(hb:PE X b (tR (kk X cm) E mb))(hs:pS b:=by exact λ_ _=>rfl):PE X (.Subscript a b pos) (tV (kk X cm) E (È ã ma mb)):=Y_ UP Up ha hb hs
def ĉ(ha:PE X a (tR (kk X cm) E ma))(hb:PE X b (tR (kk X cm) E mb))(hs:pS b:=by exact λ_ _=>rfl):PE X (.Subscript a b pos) (tR (kk X cm) E (È ã ma mb)):=ÿ (Ž ha hb hs)
def v_mod(ha:PE X a (tR (kk X cm) E ma))(hb:PE X b (tR (kk X cm) E mb)):PE X (.BinOp a .Mod b pos) (tV (kk X cm) E (È ć ma mb)):=aw Qm PN ha hb
def ae(ha:PE X a (tR (kk X cm) E ma))(hb:PE X b (tR (kk X cm) E mb)):PE X (.BinOp a .Mod b pos) (tR (kk X cm) E (È ć ma mb)):=ÿ (v_mod ha hb)
def v_mul(ha:PE X a (tR (kk X cm) E ma))(hb:PE X b (tR (kk X cm) E mb)):PE X (.BinOp a .Mult b pos) (tV (kk X cm) E (È û ma mb)):=aw Qo Jl ha hb
def İ(ha:PE X a (tR (kk X cm) E ma))(hb:PE X b (tR (kk X cm) E mb)):PE X (.BinOp a .Mult b pos) (tR (kk X cm) E (È û ma mb)):=ÿ (v_mul ha hb)
def v_sub(ha:PE X a (tR (kk X cm) E ma))(hb:PE X b (tR (kk X cm) E mb)):PE X (.BinOp a .Sub b pos) (tV (kk X cm) E (È Ő ma mb)):=aw Qk PL ha hb
def qK(ha:PE X a (tR (kk X cm) E ma))(hb:PE X b (tR (kk X cm) E mb)):PE X (.BinOp a .Sub b pos) (tR (kk X cm) E (È Ő ma mb)):=ÿ (v_sub ha hb)
def ny(ha:PE X a (tR (kk X cm) E ma))(hb:PE X b (tR (kk X cm) E mb)):PE X (.BinOp a .FloorDiv b pos) (tV (kk X cm) E (È Ļ ma mb)):=aw Ql Jd ha hb
def aT(ha:PE X a (tR (kk X cm) E ma))(hb:PE X b (tR (kk X cm) E mb)):PE X (.BinOp a .FloorDiv b pos) (tR (kk X cm) E (È Ļ ma mb)):=ÿ (ny ha hb)
def ly(ha:PE X a (tR (kk X cm) E ma))(hb:PE X b (tR (kk X cm) E mb)):PE X (.BinOp a .Add b pos) (tO (kk X cm) E (Ċ Ą ma mb)):=UB Qj Qi ha hb
def v_add(ha:PE X a (tR (kk X cm) E ma))(hb:PE X b (tR (kk X cm) E mb)):PE X (.BinOp a .Add b pos) (tV (kk X cm) E (á (Ċ Ą ma mb))):=Ć (ly ha hb)
def cW(ha:PE X a (tR (kk X cm) E ma))(hb:PE X b (tR (kk X cm) E mb)):PE X (.BinOp a .Add b pos) (tR (kk X cm) E (á (Ċ Ą ma mb))):=ÿ (v_add ha hb)
def eX(hu:X.A.units+64<Ϭ)(ha:PE X a (tR (kk X cm) E ma))(hb:PE X b (tR (kk X cm) E mb)):PT X (.Compare a [.Eq] [b] pos) (tB (kk X cm) E (aN (È Ş ma mb))):=az KP (E2 hu) ha hb (Ľ _)
def Gp(hu:X.A.units+64<Ϭ)(ha:PE X a (tR (kk X cm) E ma))(hb:PE X b (tR (kk X cm) E mb)):PT X (.Compare a [.NotEq] [b] pos) (tB (kk X cm) E (aN (È bv ma mb))):=az xM (qf hu) ha hb (Ľ _)
def v_eq(hu:X.A.units+64<Ϭ)(ha:PE X a (tR (kk X cm) E ma))(hb:PE X b (tR (kk X cm) E mb)):PE X (.Compare a [.Eq] [b] pos) (tV (kk X cm) E (È Ş ma mb)):=eN KP (E2 hu) ha hb (Ľ _)
def Ņ(he:PE X e (tO (kk X cm) E mo)):fH X [.Return (some e) pos] (tS (kk X cm) E (Ď mo)):=ă (UF he)
def Ŗ(he:PE X e (tV (kk X cm) E m)):fH X [.Return (some e) pos] (tS (kk X cm) E (Ď (Ń m))):=Ņ (ő he)
def lz{N ps:List Str}{sc:ą}{i:Nat}{x:Str}{ck:Pos}(S:à N ps sc)(he:PE X e (tO (kk X cm) E mo))(hN:X.N=N:=by rfl)(hi:X.N[i]?=some x:=by rfl)(hx:Loc X.env.scope x:=by first|exact Ġ rfl|exact Č rfl)(hs:ai e (some (.Name x ck)) pos.line X.env=ö false:=by rfl)(hf:X.fn x=true\/X.env.scope.names.lookup x=some .local:=by first|exact .inl rfl|exact .inr rfl|assumption) :
 PS X (.Assign [.Name x ck] e pos) (tS (kk X cm) E (ü i mo)):=UE (hN▸S.nd) hi hx he hs hf
def ğ{N ps:List Str}{sc:ą}{i:Nat}{x:Str}{ck:Pos}{rest:List Ö}{m2:M Fl}(S:à N ps sc)(he:PE X e (tO (kk X cm) E mo))(h2:fH X rest (tS (kk X cm) E m2))(hN:X.N=N:=by rfl)(hi:X.N[i]?=some x:=by rfl)(hx:Loc X.env.scope x:=by first|exact Ġ rfl|exact Č rfl)(hs:ai e (some (.Name x ck)) pos.line X.env=ö false:=by rfl)(hf:X.fn x=true\/X.env.scope.names.lookup x=some .local:=by first|exact .inl rfl|exact .inr rfl|assumption) :
 fH X (.Assign [.Name x ck] e pos::rest) (tS (kk X cm) E (æ (ü i mo) m2)):=Ü (lz S he hN hi hx hs hf) h2
def ņ{N ps:List Str}{sc:ą}{i:Nat}{x:Str}(S:à N ps sc)(hN:X.N=N:=by rfl)(hi:X.N[i]?=some x:=by rfl)(hx:Loc X.env.scope x:=by first|exact Ġ rfl|exact Č rfl)(hf:X.fn x=true\/X.env.scope.names.lookup x=some .local:=by first|exact .inl rfl|exact .inr rfl|assumption):PG X (.Name x pos) (tT (kk X cm) (gN i)):=Fn (hN▸S.nd) hi hx hf
def ž{i:Nat}{x:Str}(hN:X.N.Nodup:=by exact ndB (by kernel_rfl))(hi:X.N[i]?=some x:=by rfl)(hx:Loc X.env.scope x:=by first|exact Ġ rfl|exact Č rfl)(hf:X.fn x=true\/X.env.scope.names.lookup x=some .local:=by first|exact .inl rfl|exact .inr rfl):PG X (.Name x pos) (tT (kk X cm) (gN i)):=Fn hN hi hx hf
def Ø(i:Nat){x:Str}{px:Pos}{ms:M (List Slot)}(hr:PA X es (tA (kk X cm) E ms))(hN:X.N[i]?=some x:=by rfl)(hv:w_ X.env.scope x:=by first|exact Ġ rfl|exact Č (Ġ rfl)|exact Č (Č rfl))(hd:(x== ("__debug__" :Str))=false:=by decide)
 (et:(x== ("__classdict__" :Str))=false:=by decide)(hs:å (.Name x px::es) X.env=(false,Ý (.Name x px) X.env)::å es X.env:=by exact ϗ rfl):PA X (.Name x px::es) (tA (kk X cm) E (É i ms)):=Jr i hN hv hd et hr hs
def ŉ{id:String}{x:Str}{r:List Qqj->Hp->VK->Prop}{f:List PV->Option PV}{mr:M (List PV)}(hc:ϔ X (.builtin id) r)(hf:dM (kk X cm) r f)(hm:X.mg x=none)(hv:bg x=some (.builtin id))(ha:PA X (e::es) (Jp (kk X cm) E mr))(hg:Gl X x:=by rfl)(hn:x≠ "__name__" := by decide)(oi:(x== ("__debug__" :Str))=false:=by decide)
 (he:å (e::es) X.env=(false,Ý e X.env)::å es X.env:=by rfl)(gJ:(Ŭ pos (å es X.env)).any (·.1)=false:=by rfl):PE X (.Call (.Name x p) (e::es) [] pos) (tV (kk X cm) E (ar f mr)):=PE.wk (EQ hc hg hm hv ha hn oi he gJ) λ_ _ _ h=>UD hf h
def Za1{T:String}{x:Str}{r:List Qqj->Hp->VK->Prop}{f:List PV->Option PV}{mr:M (List PV)}(hc:ϔ X (.type T) r)(hf:dM (kk X cm) r f)(hm:X.mg x=none)(hv:bg x=some (.type T))(ha:PA X (e::es) (Jp (kk X cm) E mr))(hg:Gl X x:=by rfl)(hn:x≠ "__name__" := by decide)(oi:(x== ("__debug__" :Str))=false:=by decide)
 (he:å (e::es) X.env=(false,Ý e X.env)::å es X.env:=by rfl)(gJ:(Ŭ pos (å es X.env)).any (·.1)=false:=by rfl):PE X (.Call (.Name x p) (e::es) [] pos) (tV (kk X cm) E (ar f mr)):=PE.wk (sK hc hg hm hv ha hn oi he gJ) λ_ _ _ h=>UD hf h
def sr{T:String}{x:Str}{r:List Qqj->Hp->VK->Prop}{f:List PV->Option RV}{mr:M (List PV)}(hc:ϔ X (.type T) r)(hf:Fm (kk X cm) r f)(hm:X.mg x=none)(hv:bg x=some (.type T))(ha:PA X (e::es) (Jp (kk X cm) E mr))(hg:Gl X x:=by rfl)(hn:x≠ "__name__" := by decide)(oi:(x== ("__debug__" :Str))=false:=by decide)
 (he:å (e::es) X.env=(false,Ý e X.env)::å es X.env:=by rfl)(gJ:(Ŭ pos (å es X.env)).any (·.1)=false:=by rfl):PE X (.Call (.Name x p) (e::es) [] pos) (tO (kk X cm) E (jG f mr)):=PE.wk (sK hc hg hm hv ha hn oi he gJ) λ_ _ _ h=>Qqq2 hf h
end
section
variable{X:Cx}{cm:String->À}{E:Ģ->XK}{elt tg iter:Ð}{ifs:List Ð}{scope:ą}{pos:Pos}{mi:M (List PV)}{g:Tg}{mt:M Bool}{me:M PV}{js:List Nat}{nl:Nat}
structure CF(X:Cx)(js:List Nat)(nl:Nat)(tg iter:Ð)(scope:ą):Prop where
 hcap:eK X.ϖ X.env.scope scope (cN X js tg) js
 hcalm:X.calm=true
 hlen:js.length+nl=(cN X js tg).length
 hk:scope.kind=.function
 hcell:∀y∈scope.names,y.2=.cell->scope.names.lookup y.1=some .cell
 hnames:∀y∈scope.names,y.2=.local->scope.names.lookup y.1=some .local
 hfree:∀y∈scope.names,y.2=.free->(X.env.scope.names.lookup y.1=some .cell\/X.env.scope.names.lookup y.1=some .free)
 hs:∀x,dz iter X.env x=ö x
def cf(hcap:eK X.ϖ X.env.scope scope (cN X js tg) js:=by repeat' first|exact dJ|refine⟨rfl,⟨rfl,by first|exact Ġ rfl|exact Č rfl⟩,?_⟩)(hcalm:X.calm=true:=by rfl)(hlen:js.length+nl=(cN X js tg).length:=by rfl)
 (hk:scope.kind=.function:=by rfl)(hcell:∀y∈scope.names,y.2=.cell->scope.names.lookup y.1=some .cell:=by decide +kernel)(hnames:∀y∈scope.names,y.2=.local->scope.names.lookup y.1=some .local:=by decide +kernel)
 (hfree:∀y∈scope.names,y.2=.free->(X.env.scope.names.lookup y.1=some .cell\/X.env.scope.names.lookup y.1=some .free):=by exact frB (by kernel_rfl))(hs:∀x,dz iter X.env x=ö x:=by intro _;rfl):CF X js nl tg iter scope:=⟨hcap,hcalm,hlen,hk,hcell,hnames,hfree,hs⟩
def Vp(hi:PI X.ϖ tg iter (tG (kk X cm) E (DM (kk X cm)) mi))(hg:∀{cl C s H fp},PG (d_ X.ϖ (cN X js tg) scope cl C s H fp) tg (tT (kk X cm) g))(ht:∀{cl C s H fp},Ej (d_ X.ϖ (cN X js tg) scope cl C s H fp) ifs (tB (kk X cm) EF mt))(he:∀{cl C s H fp},PE (d_ X.ϖ (cN X js tg) scope cl C s H fp) elt (tV (kk X cm) EF me))(h:CF X js nl tg iter scope:=by exact cf) :
 PE X (.ListComp elt [⟨tg,iter,ifs,0⟩] scope pos) (tO (kk X cm) E (ĳ js nl mi g mt me)):=Jy (cN X js tg) js nl X.env.scope rfl h.hcalm hi (λ_ _ _ _ _=>hg) (λ_ _ _ _ _=>ht) (λ_ _ _ _ _=>he) h.hcap h.hlen h.hk h.hcell h.hnames h.hfree h.hs
def cp(hi:PI X.ϖ tg iter (tI (kk X cm) E mi))(hg:∀{cl C s H fp},PG (d_ X.ϖ (cN X js tg) scope cl C s H fp) tg (tT (kk X cm) g))(ht:∀{cl C s H fp},Ej (d_ X.ϖ (cN X js tg) scope cl C s H fp) ifs (tB (kk X cm) EF mt))(he:∀{cl C s H fp},PE (d_ X.ϖ (cN X js tg) scope cl C s H fp) elt (tV (kk X cm) EF me))(h:CF X js nl tg iter scope:=by exact cf) :
 PE X (.ListComp elt [⟨tg,iter,ifs,0⟩] scope pos) (tO (kk X cm) E (ĳ js nl mi g mt me)):=Vp (KI hi) hg ht he h
def yq{N ps:List Str}{sc:ą}{i:Nat}{y:Str}{py zg:Pos}(S:à N ps sc)(hi:PI X.ϖ tg iter (tI (kk X cm) E mi))(hg:∀{cl C s H fp},PG (d_ X.ϖ (cN X js tg) scope cl C s H fp) tg (tT (kk X cm) g))(ht:∀{cl C s H fp},Ej (d_ X.ϖ (cN X js tg) scope cl C s H fp) ifs (tB (kk X cm) EF mt))(he:∀{cl C s H fp},PE (d_ X.ϖ (cN X js tg) scope cl C s H fp) elt (tV (kk X cm) EF me))
 (h:CF X js nl tg iter scope:=by exact cf)(hN:X.N=N:=by rfl)(hi0:X.N[i]?=some y:=by rfl)(hy:X.env.scope.names.lookup y=some .local:=by rfl)(WJ:ai (.ListComp elt [⟨tg,iter,ifs,0⟩] scope pos) (some (.Name y py)) zg.line X.env=ö true:=by rfl) :
 PS X (.Assign [.Name y py] (.ListComp elt [⟨tg,iter,ifs,0⟩] scope pos) zg) (tS (kk X cm) E (ü i (ĳ js nl mi g mt me))):=QG (hN▸S.nd) hi0 hy (cN X js tg) js nl X.env.scope rfl h.hcalm hi (λ_ _ _ _ _=>hg) (λ_ _ _ _ _=>ht) (λ_ _ _ _ _=>he) h.hcap h.hlen h.hk h.hcell h.hnames h.hfree h.hs WJ
end
structure Dp(K:Ñ)(mg:Str->Option Á)(x:Str)(st:Ö)(ps:List Str)(v:Int)(f:À)(fd:ě):Prop where
 F:QV K x x st f fd
 m:mg x=some (.ref f)
 b:Binds K fd ps []
 bd:∃tk,Binds K fd ps [.int v tk]
def Vq{K:Ñ}{h:Õ}{mg:Str->Option Á}{x:Str}{st:Ö}{ps:List Str}{f:À}{oc kV dc pm cd ct:Á}{od an:Option À}{sl:Array (Option Á)}{v:Int}{T:À}{dk:Tok}{dn:Nat}{ds:Array (Option Á)}{dd:Option À}{dO:Á}(X:K.In h)(G:h.Ns ū mg)
 (hb:∀(dk:Tok) (kV dc pm:Á) (an:Option À) (cd ct:Á),BN ps.length λus=>∃k:Option (Array Á)->Sem (List (Str×Á)),bh (Ŏ x x (ŝ st) (Į st) (Ô st) (.ref T) kV dc pm an cd ct) ⟨us,[]⟩=cH (.ref T) >>= k/\k (some #[.int v dk])=ö (ps.zip us))
 (hp:∀(dk:Tok) (kV dc pm:Á) (an:Option À) (cd ct:Á),BN (ps.length-1) λus=>∃k:Option (Array Á)->Sem (List (Str×Á)),bh (Ŏ x x (ŝ st) (Į st) (Ô st) (.ref T) kV dc pm an cd ct) ⟨us,[]⟩=cH (.ref T) >>= k/\k (some #[.int v dk])=ö (ps.zip (us ++ [.int v dk])))
 (a:pO K ū x=some (some (.ref f)))(l:K.lookup f=some ⟨oc,od,.func (Ŏ x x (ŝ st) (Į st) (Ô st) (.ref T) kV dc pm an cd ct),sl⟩)(d:K.lookup T=some ⟨dO,dd,.seq #[.int v dk] dn,ds⟩)(c:dH K cd x=true)(k:Ť K (.ref f)=true) :
 Dp K mg x st ps v f (Ŏ x x (ŝ st) (Į st) (Ô st) (.ref T) kV dc pm an cd ct):=
 ⟨JW (st:=st) l c k,ů X G a,Ac d rfl λus hl=>mK (hb dk kV dc pm an cd ct) us hl,_,Ad (ds:=[.int v dk]) d rfl λus hl=>mK (hp dk kV dc pm an cd ct) us (by rw[ϩ] at hl;simp at hl;lia)⟩
end P
namespace M5
open PySem PySem.Spec PyProof.Rows L2 M2 M3
section
end
section
end
end M5
namespace P
open PySem PySem.Spec PyProof.Rows L2 M2 M3 M5
section
end
end P
namespace PySem
namespace F
end F
section
end
end PySem
namespace P
open PySem PySem.Spec PyProof.Rows L2 M2 M3 M4
section
end
def J0{a b:Int}(ha: -(2 ^ 60)<=a)(Yh:a<2 ^ 60)(hb: -(2 ^ 60)<=b)(A8:b<2 ^ 60):BI a b (-1)=true:=by unfold BI;simp only[Builtin.Range.rangeFitsLong,kK,Ė,tY,decide_eq_true_eq,beq_iff_eq,show ¬((-1:Int)>0) from by lia,if_false,Int.neg_neg,Int.ediv_one];split<;>lia
def J1(a b:Int):kK a b (-1)=((a-b).toNat:Nat):=by
 unfold kK;rw[if_neg (by lia)];split
 ·rw[Int.neg_neg,Int.ediv_one];lia
 ·lia
section
variable{X:Cx}{cm:String->À}{E:Ģ->XK}{tg:Ð}{a b d:Ð}{p pos:Pos}{mr:M (List PV)}
def DZ{Ã:List (À×Obj)}{V:Ģ}{H:Hp}{s:Å}{R:It->Hp->Prop}{E:Á->Å->Prop}{lo hi:Int}{t u v:Tok}{tk:Nat}(I:Inv X Ã V H s)(h1: -(2 ^ 60)<=lo)(h2:lo<2 ^ 60)(h3: -(2 ^ 60)<=hi)(h4:hi<2 ^ 60)
 (q:R (W1 lo (-1) (lo-hi).toNat) H):Î (Ó X.prog X.w) X.A (cC (.ref s.heap.objs.size)) (Wi X Ã V tg R) E {s with heap:=s.heap.push {cls:=.type "range",data:=.fields #[.int lo t,.int hi u,.int (-1) v]},toks:=tk}:=by
 refine wpAny_pyIter_range (IsRange.new ..) (J0 h1 h2 h3 h4) ?_;have I1:Inv X Ã V H {s with heap:=s.heap.push {cls:=.type "range",data:=.fields #[.int lo t,.int hi u,.int (-1) v]},toks:=tk}:=I.kept λb o e=>ï _ e;refine⟨(s.heap.push {cls:=.type "range",data:=.fields #[.int lo t,.int hi u,.int (-1) v]}).objs.size,[(s.heap.push {cls:=.type "range",data:=.fields #[.int lo t,.int hi u,.int (-1) v]}).objs.size],_,_,H,rfl,
  I1.kept (t':=tk) λb o e=>ï _ e,xB _ lo (-1) (lo-hi).toNat,?_,λb hb=>?_,q⟩
 ·have e1:lo+((0:Nat):Int)*(-1)=lo:=by simp
  have e2:(((lo-hi).toNat:Nat):Int)-((0:Nat):Int)=kK lo hi (-1):=by rw[J1];lia
  show pc _ _ (lo+((0:Nat):Int)*(-1)) ((((lo-hi).toNat:Nat):Int)-((0:Nat):Int)) (-1);rw[e1,e2];exact Ħ _ rfl
 ·have e:b=(s.heap.push {cls:=.type "range",data:=.fields #[.int lo t,.int hi u,.int (-1) v]}).objs.size:=by simpa using hb
  subst e;exact I1.qc (õ _) (I1.hok.fresh (õ _))
def Vs(ta:TA):TI:=λV H R=>ta V H λvs H1=>match vs with
 | [.int i,.int j,.int c]=>(-(2 ^ 60)<=i/\i<2 ^ 60/\ -(2 ^ 60)<=j/\j<2 ^ 60/\c= -1)/\R (W1 i (-1) (i-j).toNat) H1
 |_=>False
def D_{ta:TA}(hg:Gl X "range")(hm:X.mg "range" =none)(ha:PA X [a,b,d] ta)(hs:å [a,b,d] X.env=[(false,Ý a X.env),(false,Ý b X.env),(false,Ý d X.env)])
 (gD:å [b,d] X.env=[(false,Ý b X.env),(false,Ý d X.env)]) :
 PI X tg (.Call (.Name "range" p) [a,b,d] [] pos) (Vs ta):=by
 intro Ã s V H R I h;refine Call_ (fK I hg hm boot_range (iH (Ų (ha pos Ã s V H _ I h) λus s1 ⟨vs,H1,I1,r1,q1⟩=>?_) (by rw[hs,gD]) (by rw[gD];rfl)));dsimp only at q1;split at q1
 ·obtain⟨⟨q1,q2,q3,q4,q5⟩,q⟩:=q1;subst q5;cases r1 with
  |cons r rr=>
   cases rr with
   |cons r' rr=>
    cases rr with
    |cons r'' rr=>cases rr;obtain⟨t,rfl⟩:=r;obtain⟨t',rfl⟩:=r';obtain⟨t'',rfl⟩:=r'';exact call_range_3 (by lia) (DZ I1 q1 q2 q3 q4 q) (.inl (Bx (by lia)))
 ·exact q1.elim
def yr:List PV->Option (List PV)
 | [.int i,.int j,.int c]=>if(ay i=true/\ay j=true)/\c= -1 then some (bJ i (i-j).toNat (-1)) else none
 |_=>none
def Gq(hg:Gl X "range")(hm:X.mg "range" =none)(ha:PA X [a,b,d] (tL (kk X cm) E mr))(hs:å [a,b,d] X.env=[(false,Ý a X.env),(false,Ý b X.env),(false,Ý d X.env)]:=by exact Qc rfl rfl rfl)
 (gD:å [b,d] X.env=[(false,Ý b X.env),(false,Ý d X.env)]:=by exact vq rfl rfl):PI X tg (.Call (.Name "range" p) [a,b,d] [] pos) (tI (kk X cm) E (Œ yr mr)):=
 λÃ s V H R I h=>D_ hg hm ha hs gD Ã s V H R I (by
  obtain⟨c,F,Y,rel,h⟩:=h;refine⟨c,F,Y,rel,h.bind λps Y1 vs F1 H1 ë s1 s2 q h1=>?_⟩;have q':ò (kk X cm) F1 ps vs:=q;unfold yr at h1;split at h1
  ·rename_i i j k;split at h1
   ·rename_i hj;obtain⟨r',e1,e2⟩:=(fR q').1 _ _ rfl;obtain⟨r2,e3,e4⟩:=(fR e2).1 _ _ rfl;obtain⟨r3,e5,e6⟩:=(fR e4).1 _ _ rfl;cases(fR e6).2 rfl;subst e3;subst e5;subst e1;obtain⟨k1,k2⟩:=eR hj.1.1;obtain⟨k3,k4⟩:=eR hj.1.2;exact⟨⟨k1,k2,k3,k4,hj.2⟩,h1 _ F1 H1 ë Ę Ę (Qh i (-1) _)⟩
   ·exact h1.elim
  ·exact h1.elim)
end
section
variable{X:Cx}{cm:String->À}{E:Ģ->XK}
noncomputable def vR(i:Nat):M RV:=λY=>match Y[i]? with
 |some (.ot ps qs)=>.ok (.ot ps qs) (Y.set i .no)
 |some (.sh p)=>.ok (.sh p) Y
 |_=>.bad
def QW(i:Nat){x:Str}{pos:Pos}(hN:X.N[i]?=some x:=by rfl)(hv:w_ X.env.scope x:=by first|exact Ġ rfl|exact Č (Ġ rfl)|exact Č (Č rfl))(hd:(x== ("__debug__" :Str))=false:=by decide)
 (et:(x== ("__classdict__" :Str))=false:=by decide):PE X (.Name x pos) (tO (kk X cm) E (vR i)):=PE.wk (cS hN hv hd et) λV H Q ⟨c,F,Y,rel,h⟩=>by
 unfold vR at h;split at h
 ·rename_i ps qs e;obtain⟨p,a,xs,vs,h1,h2,h3,h4,h5,h6,h7⟩:=rel.slot i _ e;obtain⟨m1,m2⟩:=rel.move (a:=a) ⟨_,_,e,Ű h1,p,xs,rfl,h2⟩;exact⟨.ref p,Ű h1,h _ F H m1 (Û.refl F) (Û.refl H) ⟨p,a,xs,vs,rfl,h2,h3,h4,h5,h6,m2,h7⟩⟩
 ·rename_i p e;obtain⟨v,h1,h2⟩:=rel.slot i _ e;exact⟨v,Ű h1,h v F H rel (Û.refl F) (Û.refl H) h2⟩
 ·exact h.elim
@[simp] theorem Za2{i:Nat}{Y:Ĝ}:vR i Y=(match Y[i]? with
  |some (.ot ps qs)=>.ok (.ot ps qs) (Y.set i .no)
  |some (.sh p)=>.ok (.sh p) Y
  |_=>.bad):=rfl
end
end P
namespace My
noncomputable def gd(a b:Int):Int:=((Int.gcd a b:Nat):Int)
def Z3R(a b:Int):gd b (oq a b)=gd a b:=by unfold gd;rw[Int.fmod_def,Int.gcd_sub_mul_left_right,Int.gcd_comm]
def Z3S(a:Int){b:Int}(h:b≠0):(oq a b).natAbs<b.natAbs:=by
 rcases(by lia:0<b\/b<0) with h|h
 ·have h1:=Bf a h;have h2:=Int.fmod_lt_of_pos a h;lia
 ·have e:=Int.neg_fmod_neg a b;have h1:=Bf (-a) (show 0 < -b by lia);have h2:=Int.fmod_lt_of_pos (-a) (show 0 < -b by lia);lia
def Z3T(a:Int):gd a 0=if a<0 then -a else a:=by unfold gd;rw[Int.gcd_zero];split<;>lia
def Z4f(a:Int){b:Int}(h:b≠0):0<gd a b:=by have:=Int.gcd_ne_zero_right (a:=a) h;unfold gd;lia
def Z2a(a b:Int):0<=gd a b:=by unfold gd;lia
def Z4M(a:Int){b:Int}(h:b≠0):gd a b<=b.natAbs:=by unfold gd;have:=Int.gcd_dvd_natAbs_right a b;have:=Nat.le_of_dvd (by lia) this;lia
def dv(t b:Int):Int:=if b<0 then-gd t b else gd t b
end My
namespace Hu
abbrev Pt:=Int×Int
noncomputable def tn(a b c:Pt):Int:=(b.1-a.1)*(c.2-a.2)-(b.2-a.2)*(c.1-a.1)
theorem XC{α:Type}(R:α->α->Prop):∀(l:List α),l≠[]->(∀x∈l,∀y∈l,R x y\/R y x)->(∀x∈l,∀y∈l,∀z∈l,R x y->R y z->R x z)->∃b∈l,∀s∈l,R b s
 | [],h,_,_=>absurd rfl h
 | [x],_,t,_=>⟨x,by simp,fun s hs=>by
     have e:s=x:=by simpa using hs
     subst e;rcases t s (by simp) s (by simp) with q|q<;>exact q⟩
 |x::y::r,_,t,tr=>by
  obtain⟨b,hb,hl⟩:=XC R (y::r) (by simp) (λa ha c hc=>t a (Ă _ ha) c (Ă _ hc)) (λa ha c hc d hd=>tr a (Ă _ ha) c (Ă _ hc) d (Ă _ hd));have A8:b∈x::y::r:=Ă _ hb;have hx:x∈x::y::r:=by simp
  have bb:R b b:=hl b hb;have xx:R x x:=by rcases t x hx x hx with q|q<;>exact q
  rcases t b A8 x hx with q|q
  ·refine⟨b,A8,λs hs=>?_⟩;rcases Ā.mp hs with e|e
   ·subst e;exact q
   ·exact hl s e
  ·refine⟨x,hx,λs hs=>?_⟩;rcases Ā.mp hs with e|e
   ·subst e;exact xx
   ·exact tr x hx b A8 s hs q (hl s e)
def zk(a b c p:Pt):Prop:=tn a b c≠0/\0<=tn p b c*tn a b c/\0<=tn a p c*tn a b c/\0<=tn a b p*tn a b c
def XD(a b c p:Pt):tn p b c+tn a p c+tn a b p=tn a b c:=by simp only[tn];grind
def Zs(a b c:Pt):tn b c a=tn a b c:=by simp only[tn];grind
def ZX(a b c:Pt):tn b a c= - tn a b c:=by simp only[tn];grind
def ZC(a b c:Pt):tn a c b= - tn a b c:=by simp only[tn];grind
def zk.swap{a b c p:Pt}(h:zk a b c p):zk b a c p:=by
 obtain⟨h1,h2,h3,h4⟩:=h;unfold zk;rw[ZX a b c,ZX a p c,ZX p b c,ZX a b p];refine⟨by lia,?_,?_,?_⟩
 ·rw[ua];exact h3
 ·rw[ua];exact h2
 ·rw[ua];exact h4
def zk.En{a b c p:Pt}(h:zk a b c p):zk b c a p:=by obtain⟨h1,h2,h3,h4⟩:=h;unfold zk;rw[Zs a b c,show tn p c a=tn a p c from Zs a p c,show tn b p a=tn a b p from Zs a b p,show tn b c p=tn p b c from Zs p b c];exact⟨h1,h3,h4,h2⟩
def Z2b{a b c p:Pt}(h1:0<=tn p a b)(h2:0<=tn p b c)(h3:0<=tn p c a)(h:0<tn p a b\/0<tn p b c\/0<tn p c a):zk a b c p:=by
 have e:=XD a b c p;have e1:tn a p c=tn p c a:=(Zs a p c).symm;have e2:tn a b p=tn p a b:=Zs p a b;have pos:0<tn a b c:=by lia
 refine⟨by lia,Ň h2 (by lia),Ň (by lia) (by lia),Ň (by lia) (by lia)⟩
section
variable{S:List Pt}{p:Pt}
def Z4N(no:∀x∈S,∀y∈S,∀z∈S,¬zk x y z p):∀x∈S,∀y∈S,∀z∈S,0<=tn p x y->0<=tn p y z->0<=tn p x z:=by
 intro x hx y hy z hz h1 h2;by_cases h:0<=tn p x z
 ·exact h
 ·exfalso;have e:=ZC p x z;exact no x hx y hy z hz (Z2b h1 h2 (by lia) (by lia))
noncomputable def dt(u v:Pt)(p:Pt):Int:=(u.1-p.1)*(v.1-p.1)+(u.2-p.2)*(v.2-p.2)
def Z4g{u p:Pt}(h:u≠p):0<dt u u p:=by
 unfold dt;have h1:0<=(u.1-p.1)*(u.1-p.1):=by
  rcases e_ 0 (u.1-p.1) with q|q
  ·exact Ň q q
  ·exact ou q q
 have h2:0<=(u.2-p.2)*(u.2-p.2):=by
  rcases e_ 0 (u.2-p.2) with q|q
  ·exact Ň q q
  ·exact ou q q
 by_cases e1:u.1-p.1=0
 ·by_cases e2:u.2-p.2=0
  ·exact absurd (Prod.ext (by lia) (by lia)) h
  ·have:(u.2-p.2)*(u.2-p.2)≠0:=Int.mul_ne_zero e2 e2;omega
 ·have:(u.1-p.1)*(u.1-p.1)≠0:=Int.mul_ne_zero e1 e1;omega
def Z53(tri:∃x∈S,∃y∈S,∃z∈S,tn x y z≠0)(no:∀x∈S,∀y∈S,∀z∈S,¬zk x y z p) :
 ∃a∈S,∃b∈S,a≠b/\(∀s∈S,0<=tn a b s)/\tn a b p<0:=by
 obtain⟨x,hx,y,hy,z,hz,ZbE⟩:=tri;have hp:p∉S:=by
  intro hp;have e:=XD x y z p;have key:∀u∈S,∀v∈S,tn p u v=0:=by
   intro u hu v hv;by_cases h:tn p u v=0
   ·exact h
   ·exfalso;refine no p hp u hu v hv ⟨h,?_,?_,?_⟩
    ·rcases e_ 0 (tn p u v) with q|q
     ·exact Ň q q
     ·exact ou q q
    ·rw[show tn p p v=0 by simp only[tn];grind];simp
    ·rw[show tn p u p=0 by simp only[tn];grind];simp
  have k1:=key y hy z hz;have k2:=key z hz x hx;have k3:=key x hx y hy;rw[Zs p z x |>.symm] at k2;have e1:tn x p z=tn p z x:=(Zs x p z).symm;have e2:tn x y p=tn p x y:=Zs p x y;have e3:tn z x p=tn p z x:=Zs p z x;lia
 have tr:=Z4N no;have tot:∀x∈S,∀y∈S,0<=tn p x y\/0<=tn p y x:=λx _ y _=>by have:=ZC p x y;lia
 obtain⟨b0,hb0,l0⟩:=XC (λu v=>0<=tn p u v) S (ud hx) tot tr;have hT:∃b∈S,(∀s∈S,0<=tn p b s)/\∀s∈S,tn p b s=0->dt b b p<=dt s s p:=by
  let T:=S.filter λs=>decide (tn p b0 s=0)
  have mT:∀{s},s∈T↔s∈S/\tn p b0 s=0:=by intro s;simp[T]
  have Za3:b0∈T:=mT.mpr ⟨hb0,by simp only[tn];grind⟩;obtain⟨b,hb,lb⟩:=XC (λu v=>dt u u p<=dt v v p) T (ud Za3) (λu _ v _=>e_ _ _) (λu _ v _ w _ h1 h2=>Int.le_trans h1 h2);obtain⟨hbS,eb⟩:=mT.mp hb;have bm:∀s∈S,0<=tn p b s:=λs hs=>tr b hbS b0 hb0 s hs (by have:=ZC p b0 b;lia) (l0 s hs);refine⟨b,hbS,bm,λs hs es=>lb s (mT.mpr ⟨hs,?_⟩)⟩;have h1:=l0 s hs;have h2:0<=tn p s b0:=tr s hs b hbS b0 hb0 (by have:=ZC p b s;lia) (by have:=ZC p b0 b;lia);have:=ZC p b0 s;lia
 obtain⟨b,hb,bm,bn⟩:=hT;have hbp:b≠p:=λe=>hp (e▸hb);have hw:=Z4g hbp
 let U:=S.filter λs=>decide (0<tn p b s)
 have mU:∀{s},s∈U↔s∈S/\0<tn p b s:=by intro s;simp[U]
 have hU:U≠[]:=by
  intro hU;have key:∀s∈S,tn p b s=0:=by
   intro s hs;have h1:=bm s hs;by_cases h:tn p b s=0
   ·exact h
   ·have:s∈U:=mU.mpr ⟨hs,by lia⟩;rw[hU] at this;cases this
  have k1:=key x hx;have k2:=key y hy;have k3:=key z hz;have fx:∀u v:Pt,tn p b u=0->tn p b v=0->dt b b p*tn p u v=0:=by
   intro u v e1 e2;have i1:dt b b p*tn p u v=dt b u p*tn p b v-dt b v p*tn p b u:=by simp only[dt,tn];grind
   rw[i1,e1,e2];simp
  have z0:∀u v:Pt,tn p b u=0->tn p b v=0->tn p u v=0:=by
   intro u v e1 e2;rcases Int.mul_eq_zero.mp (fx u v e1 e2) with q|q
   ·lia
   ·exact q
  have e:=XD x y z p;have w1:=z0 y z k2 k3;have w2:=z0 z x k3 k1;have w3:=z0 x y k1 k2;have e1:tn x p z=tn p z x:=(Zs x p z).symm;have e2:tn x y p=tn p x y:=Zs p x y;lia
 obtain⟨d,hd,dm⟩:=XC (λu v=>0<=tn u b v) U hU
  (fun u _ v _=>by
    have e:tn v b u= - tn u b v:=by simp only[tn];grind
    lia)
  (fun u hu v hv w hw' h1 h2=>by
    have ku:=(mU.mp hu).2;have kv:=(mU.mp hv).2;have kw:=(mU.mp hw').2;have e:tn u b w*tn p b v=tn u b v*tn p b w+tn v b w*tn p b u:=by simp only[tn];grind
    have n1:0<=tn u b v*tn p b w:=Ň h1 (by lia);have n2:0<=tn v b w*tn p b u:=Ň h2 (by lia);by_cases h:0<=tn u b w
    ·exact h
    ·have:tn u b w*tn p b v<0:=iz (by lia) kv;lia)
 obtain⟨hdS,kd⟩:=mU.mp hd;refine⟨d,hdS,b,hb,λe=>?_,λs hs=>?_,?_⟩
 ·rw[e,show tn p b b=0 by simp only[tn];grind] at kd;lia
 ·have h1:=bm s hs;by_cases h:0<tn p b s
  ·exact dm s (mU.mpr ⟨hs,h⟩)
  ·have es:tn p b s=0:=by lia
   have Zbr:=bn s hs es;have c1:dt b b p*tn s p d= - (dt b s p*tn p b d):=by
    have i1:dt b b p*tn s p d=dt b d p*tn p b s-dt b s p*tn p b d:=by simp only[dt,tn];grind
    rw[i1,es];simp
   have c2:dt b b p*tn d b s=(dt b s p-dt b b p)*tn p b d:=by
    have i1:dt b b p*tn d b s=(dt b s p-dt b b p)*tn p b d-(dt b d p-dt b b p)*tn p b s:=by simp only[dt,tn];grind
    rw[i1,es];simp
   have c3:dt b s p*dt b s p=dt b b p*dt s s p:=by
    have i1:dt b b p*dt s s p=dt b s p*dt b s p+tn p b s*tn p b s:=by simp only[dt,tn];grind
    rw[i1,es];simp
   have X9:dt b b p<=dt b s p:=by
    by_cases q:0<=dt b s p
    ·by_cases q2:dt b b p<=dt b s p
     ·exact q2
     ·exfalso;have l1:dt b s p*dt b s p<=dt b s p*dt b b p:=jW (by lia) q;have l2:dt b s p*dt b b p<dt b b p*dt b b p:=Int.mul_lt_mul_of_pos_right (by lia) hw;have l3:dt b b p*dt b b p<=dt b b p*dt s s p:=jW Zbr (by lia);lia
    ·exfalso;have pos:0<tn s p d:=by
      have l1:0 < -(dt b s p*tn p b d):=by have:=iz (show dt b s p<0 by lia) kd;lia
      by_cases h0:0<tn s p d
      ·exact h0
      ·have:=Ň (show 0<=dt b b p by lia) (show 0<= - tn s p d by lia);rw[Int.mul_neg] at this;lia
     refine no s hs b hb d hdS (Z2b (by have:=ZC p b s;lia) (by lia) ?_ (.inr (.inl kd)));have:tn p d s=tn s p d:=Zs s p d;lia
   have n1:0<=(dt b s p-dt b b p)*tn p b d:=Ň (by lia) (by lia);by_cases h0:0<=tn d b s
   ·exact h0
   ·have:=Int.mul_neg_of_pos_of_neg hw (show tn d b s<0 by lia);lia
 ·have:tn d b p= - tn p b d:=by simp only[tn];grind
  lia
end
abbrev Ln:=Int×Int×Int
def hd(l:Ln)(p:Pt):Bool:=decide (l.1*p.1+l.2.1*p.2<=l.2.2)
def Z7(a b:Pt):Ln:=(b.2-a.2,a.1-b.1,(b.2-a.2)*a.1+(a.1-b.1)*a.2)
def Tj{a b s:Pt}:hd (Z7 a b) s=true↔0<=tn a b s:=by
 unfold hd Z7;rw[decide_eq_true_iff];have e:tn a b s=((b.2-a.2)*a.1+(a.1-b.1)*a.2)-((b.2-a.2)*s.1+(a.1-b.1)*s.2):=by simp only[tn];grind
 dsimp only;lia
def Z8(S:List Pt):List Pt:=S.foldl (λk x=>if x∈k then k else k ++ [x]) []
theorem Z0O(x:Pt):∀(S k:List Pt),x∈S.foldl (λk x=>if x∈k then k else k ++ [x]) k↔x∈k\/x∈S
 | [],k=>by simp
 |y::S,k=>by
  rw[aC,Z0O x S];by_cases h:y∈k
  ·rw[if_pos h];constructor
   ·rintro (q|q)
    ·exact .inl q
    ·exact .inr (Ă _ q)
   ·rintro (q|q)
    ·exact .inl q
    ·rcases Ā.mp q with e|e
     ·exact .inl (e▸h)
     ·exact .inr e
  ·rw[if_neg h];simp only[cw,Ā,bP,or_false];constructor
   ·rintro ((q|q)|q)
    ·exact .inl q
    ·exact .inr (.inl q)
    ·exact .inr (.inr q)
   ·rintro (q|q|q)
    ·exact .inl (.inl q)
    ·exact .inl (.inr q)
    ·exact .inr q
def Zx{x:Pt}{S:List Pt}:x∈Z8 S↔x∈S:=by unfold Z8;rw[Z0O];simp
def ZR(S:List Pt):List Ln:=(Z8 S).flatMap λa=>(Z8 S).filterMap λb=>if a≠b/\(Z8 S).all (hd (Z7 a b)) then some (Z7 a b) else none
def ZK{S:List Pt}{l:Ln}:l∈ZR S↔∃a∈S,∃b∈S,a≠b/\(∀s∈S,0<=tn a b s)/\l=Z7 a b:=by
 unfold ZR;simp only[kf,oH];constructor
 ·rintro ⟨a,ha,b,hb,h⟩;split at h
  ·rename_i hc;refine⟨a,Zx.mp ha,b,Zx.mp hb,hc.1,λs hs=>?_,(ŀ h).symm⟩;exact Tj.mp (fe.mp hc.2 s (Zx.mpr hs))
  ·cases h
 ·rintro ⟨a,ha,b,hb,h1,h2,rfl⟩;refine⟨a,Zx.mpr ha,b,Zx.mpr hb,?_⟩;rw[if_pos ⟨h1,fe.mpr λs hs=>Tj.mpr (h2 s (Zx.mp hs))⟩]
noncomputable def mx(l:List Int):Int:=l.tail.foldl max (l.headD 0)
def mn(l:List Int):Int:=l.tail.foldl min (l.headD 0)
theorem Z0I:∀(l:List Int) (m:Int),m<=l.foldl max m/\(∀x∈l,x<=l.foldl max m)/\(l.foldl max m=m\/l.foldl max m∈l)
 | [],m=>by simp
 |y::l,m=>by
  rw[aC];obtain⟨h1,h2,h3⟩:=Z0I l (max m y);have hm:m<=(max m y)/\y<=(max m y):=⟨Int.le_max_left ..,Int.le_max_right ..⟩;refine⟨by lia,λx hx=>?_,?_⟩
  ·rcases Ā.mp hx with e|e
   ·subst e;lia
   ·exact h2 x e
  ·rcases h3 with q|q
   ·rw[q];rcases e_ m y with h|h
    ·right;rw[Int.max_eq_right h];simp
    ·left;rw[Int.max_eq_left h]
   ·right;exact Ă _ q
theorem Z0J:∀(l:List Int) (m:Int),l.foldl min m<=m/\(∀x∈l,l.foldl min m<=x)/\(l.foldl min m=m\/l.foldl min m∈l)
 | [],m=>by simp
 |y::l,m=>by
  rw[aC];obtain⟨h1,h2,h3⟩:=Z0J l (min m y);have hm:(min m y)<=m/\(min m y)<=y:=⟨Int.min_le_left ..,Int.min_le_right ..⟩;refine⟨by lia,λx hx=>?_,?_⟩
  ·rcases Ā.mp hx with e|e
   ·subst e;lia
   ·exact h2 x e
  ·rcases h3 with q|q
   ·rw[q];rcases e_ m y with h|h
    ·left;rw[Int.min_eq_left h]
    ·right;rw[Int.min_eq_right h];simp
   ·right;exact Ă _ q
def XE{l:List Int}{x:Int}(h:x∈l):x<=mx l:=by
 cases l with
 |nil=>cases h
 |cons y l=>
  obtain⟨h1,h2,_⟩:=Z0I l y;rcases Ā.mp h with e|e
  ·subst e;exact h1
  ·exact h2 x e
def Z3K{l:List Int}(h:l≠[]):mx l∈l:=by
 cases l with
 |nil=>exact absurd rfl h
 |cons y l=>
  obtain⟨_,_,h3⟩:=Z0I l y;rcases h3 with q|q
  ·show _∈y::l;rw[show mx (y::l)=y from q];simp
  ·exact Ă _ q
def XF{l:List Int}{x:Int}(h:x∈l):mn l<=x:=by
 cases l with
 |nil=>cases h
 |cons y l=>
  obtain⟨h1,h2,_⟩:=Z0J l y;rcases Ā.mp h with e|e
  ·subst e;exact h1
  ·exact h2 x e
def Z3L{l:List Int}(h:l≠[]):mn l∈l:=by
 cases l with
 |nil=>exact absurd rfl h
 |cons y l=>
  obtain⟨_,_,h3⟩:=Z0J l y;rcases h3 with q|q
  ·show _∈y::l;rw[show mn (y::l)=y from q];simp
  ·exact Ă _ q
def box(S:List Pt):List Ln:=[(1,0,mx (S.map (·.1))),(-1,0,- mn (S.map (·.1))),(0,1,mx (S.map (·.2))),(0,-1,- mn (S.map (·.2)))]
def ZB(S:List Pt):List Ln:=box S++ZR S
def Z1S{S:List Pt}{l:Ln}(h:l∈ZB S){s:Pt}(hs:s∈S):hd l s=true:=by
 unfold ZB at h;rcases cw.mp h with h|h
 ·have h1:=XE (dq (f:=(·.1)) hs);have h2:=XF (dq (f:=(·.1)) hs);have h3:=XE (dq (f:=(·.2)) hs);have h4:=XF (dq (f:=(·.2)) hs);unfold box at h;simp only[Ā,bP,or_false] at h;unfold hd;rw[decide_eq_true_iff];rcases h with e|e|e|e<;>subst e<;>simp only<;>lia
 ·obtain⟨a,_,b,_,_,h',rfl⟩:=ZK.mp h;exact Tj.mpr (h' s hs)
def ZG(S:List Pt)(p:Pt):Option Ln:=(ZB S).find? λl=>!hd l p
def Z2c{S:List Pt}{p:Pt}{l:Ln}(h:ZG S p=some l):l∈ZB S/\hd l p=false:=by unfold ZG at h;have h1:=List.find?_some h;have h2:=List.mem_of_find?_eq_some h;exact⟨h2,by simpa using h1⟩
def Z2d{S:List Pt}{p:Pt}(h:ZG S p=none):∀l∈ZB S,hd l p=true:=by unfold ZG at h;intro l hl;have:=List.find?_eq_none.mp h l hl;simpa using this
def nQ(a b c p:Pt):List Int:=[tn p b c,tn a p c,tn a b p]
noncomputable def ji(a b p:Pt):List Int:=
 let g:=(b.1-a.1)*(p.1-a.1)+(b.2-a.2)*(p.2-a.2)
 [(b.1-a.1)*(b.1-a.1)+(b.2-a.2)*(b.2-a.2)-g,g]
def Zv(w:List Int):Bool:=decide (w.sum≠0) && w.all λs=>decide (0<=s*w.sum)
def Z2S{a b c p:Pt}:Zv (nQ a b c p)=true↔zk a b c p:=by
 unfold Zv nQ zk;have e:[tn p b c,tn a p c,tn a b p].sum=tn a b c:=by simp;have:=XD a b c p;lia
 rw[e];simp[and_assoc]
def at_(S:List Pt)(i:Nat):Pt:=S.getD i (0,0)
def Vt{S:List Pt}{i:Nat}(h:i<S.length):at_ S i∈S:=by unfold at_;rw[Ϫ,Ō h];exact cz h
def Vu{S:List Pt}{x:Pt}(h:x∈S):∃i,i<S.length/\at_ S i=x:=by obtain⟨i,hi,e⟩:=ka.mp h;exact⟨i,hi,by unfold at_;rw[Ϫ,Ō hi];exact e⟩
def Zf(n:Nat):List (Nat×Nat):=(Ò n).flatMap λj=>(Ò j).map λi=>(i,j)
def Zk(n:Nat):List (Nat×Nat×Nat):=(Ò n).flatMap λk=>(Zf k).map λq=>(q.1,q.2,k)
def ZL{n i j:Nat}:(i,j)∈Zf n↔i<j/\j<n:=by
 unfold Zf;simp only[kf,ĸ,aE,Prod.mk.injEq];constructor
 ·rintro ⟨k,hk,m,hm,rfl,rfl⟩;exact⟨hm,hk⟩
 ·rintro ⟨h1,h2⟩;exact⟨j,h2,i,h1,rfl,rfl⟩
def Zp{n i j k:Nat}:(i,j,k)∈Zk n↔i<j/\j<k/\k<n:=by
 unfold Zk;simp only[kf,ĸ,aE,Prod.mk.injEq];constructor
 ·rintro ⟨m,hm,⟨a,b⟩,hq,rfl,rfl,rfl⟩;have:=ZL.mp hq;exact⟨this.1,this.2,hm⟩
 ·rintro ⟨h1,h2,h3⟩;exact⟨k,h3,(i,j),ZL.mpr ⟨h1,h2⟩,rfl,rfl,rfl⟩
def XG(S:List Pt)(p:Pt):Option (List Int×List Nat):=(Zk S.length).findSome? λq=>if Zv (nQ (at_ S q.1) (at_ S q.2.1) (at_ S q.2.2) p) then some (nQ (at_ S q.1) (at_ S q.2.1) (at_ S q.2.2) p,[q.1,q.2.1,q.2.2]) else none
def Z2T(S:List Pt)(p:Pt):Option (List Int×List Nat):=(Zf S.length).findSome? λq=>if Zv (ji (at_ S q.1) (at_ S q.2) p) then some (ji (at_ S q.1) (at_ S q.2) p,[q.1,q.2]) else none
def J2(S:List Pt)(p:Pt):List Int×List Nat:=((XG S p).orElse λ_=>Z2T S p).getD ([1],[0])
structure Z2U(S:List Pt)(p:Pt)(w:List Int)(q:List Nat):Prop where
 len:w.length=q.length
 sum:w.sum≠0
 sign:∀s∈w,0<=s*w.sum
 nd:q.Nodup
 lt:∀i∈q,i<S.length
 x:((w.zip q).map λa=>a.1*(at_ S a.2).1).sum=w.sum*p.1
 y:((w.zip q).map λa=>a.1*(at_ S a.2).2).sum=w.sum*p.2
def ZD{w:List Int}:Zv w=true↔w.sum≠0/\∀s∈w,0<=s*w.sum:=by unfold Zv;simp
def Z4O{S:List Pt}{p:Pt}{i j k:Nat}(h1:i<j)(h2:j<k)(h3:k<S.length)(h:Zv (nQ (at_ S i) (at_ S j) (at_ S k) p)=true):Z2U S p (nQ (at_ S i) (at_ S j) (at_ S k) p) [i,j,k]:=by
 have hs:=ZD.mp h;refine⟨rfl,hs.1,hs.2,by simp;lia,by simp;lia,?_,?_⟩
 ·unfold nQ;simp[tn];grind
 ·unfold nQ;simp[tn];grind
def Z4P{S:List Pt}{p:Pt}{i j:Nat}(h1:i<j)(h2:j<S.length)(h:Zv (ji (at_ S i) (at_ S j) p)=true)(on:tn (at_ S i) (at_ S j) p=0):Z2U S p (ji (at_ S i) (at_ S j) p) [i,j]:=by
 have hs:=ZD.mp h;refine⟨rfl,hs.1,hs.2,by simp;lia,by simp;lia,?_,?_⟩
 ·unfold ji;unfold tn at on;simp;grind
 ·unfold ji;unfold tn at on;simp;grind
def XH{a b:Pt}:tn a a b=0/\tn a b a=0/\tn b a a=0:=by simp only[tn];grind
def Z4Q{S:List Pt}{p:Pt}{i j k:Nat}(hi:i<S.length)(hj:j<S.length)(hk:k<S.length)(h:zk (at_ S i) (at_ S j) (at_ S k) p):∃i j k,(i,j,k)∈Zk S.length/\zk (at_ S i) (at_ S j) (at_ S k) p:=by
 have n1:i≠j:=λe=>h.1 (by rw[e];exact XH.1);have n2:j≠k:=λe=>h.1 (by rw[e];exact XH.2.2);have n3:i≠k:=λe=>h.1 (by rw[e];exact XH.2.1);rcases uv n1 with a|a<;>rcases uv n2 with b|b<;>rcases uv n3 with c|c
 ·exact⟨i,j,k,Zp.mpr ⟨a,b,hk⟩,h⟩
 ·lia
 ·exact⟨i,k,j,Zp.mpr ⟨c,b,hj⟩,h.swap.En.swap.En.swap.En.swap.En.swap.En |> λ_=>h.En.swap.En.En⟩
 ·exact⟨k,i,j,Zp.mpr ⟨c,a,hj⟩,h.En.En⟩
 ·exact⟨j,i,k,Zp.mpr ⟨a,c,hk⟩,h.swap⟩
 ·exact⟨j,k,i,Zp.mpr ⟨b,c,hi⟩,h.En⟩
 ·lia
 ·exact⟨k,j,i,Zp.mpr ⟨b,a,hi⟩,h.En.swap⟩
def Z2e{S:List Pt}{p:Pt}(h:XG S p=none):∀x∈S,∀y∈S,∀z∈S,¬zk x y z p:=by intro x hx y hy z hz Tz;obtain⟨i,hi,rfl⟩:=Vu hx;obtain⟨j,hj,rfl⟩:=Vu hy;obtain⟨k,hk,rfl⟩:=Vu hz;obtain⟨i,j,k,hm,h3⟩:=Z4Q hi hj hk Tz;have:=ue.mp h (i,j,k) hm;rw[if_pos (Z2S.mpr h3)] at this;cases this
def Z2f{S:List Pt}{p:Pt}(hS:S≠[])(h:ZG S p=none):Z2U S p (J2 S p).1 (J2 S p).2:=by
 have hl:=Z2d h;unfold J2;cases e3:XG S p with
 |some r=>
  obtain⟨⟨i,j,k⟩,hm,hr⟩:=uf e3;obtain⟨h1,h2,h4⟩:=Zp.mp hm;split at hr
  ·rename_i hw;cases hr;exact Z4O h1 h2 h4 hw
  ·cases hr
 |none=>
  have no:=Z2e e3;have WO:∀x∈S,∀y∈S,∀z∈S,tn x y z=0:=by
   intro x hx y hy z hz;by_cases q:tn x y z=0
   ·exact q
   ·exfalso;obtain⟨a,ha,b,hb,WP,h1,h2⟩:=Z53 ⟨x,hx,y,hy,z,hz,q⟩ no;have:=Tj.mp (hl (Z7 a b) (Ř _ (ZK.mpr ⟨a,ha,b,hb,WP,h1,rfl⟩)));lia
  have on:∀a∈S,∀b∈S,tn a b p=0:=by
   intro a ha b hb;by_cases WP:a=b
   ·subst WP;exact XH.1
   ·have h1:=Tj.mp (hl (Z7 a b) (Ř _ (ZK.mpr ⟨a,ha,b,hb,WP,λs hs=>by rw[WO a ha b hb s hs];exact dg 0,rfl⟩)));have h2:=Tj.mp (hl (Z7 b a) (Ř _ (ZK.mpr ⟨b,hb,a,ha,λe=>WP e.symm,λs hs=>by rw[WO b hb a ha s hs];exact dg 0,rfl⟩)));rw[ZX a b p] at h2;lia
  have bx:∀l∈box S,hd l p=true:=λl hm=>hl l (oE _ hm);have b1:=bx (1,0,mx (S.map (·.1))) (by simp[box]);have b2:=bx (-1,0,- mn (S.map (·.1))) (by simp[box]);have b3:=bx (0,1,mx (S.map (·.2))) (by simp[box]);have b4:=bx (0,-1,- mn (S.map (·.2))) (by simp[box]);simp only[hd,decide_eq_true_iff] at b1 b2 b3 b4;have c1:p.1<=mx (S.map (·.1)):=by lia
  have c2:mn (S.map (·.1))<=p.1:=by lia
  have c3:p.2<=mx (S.map (·.2)):=by lia
  have c4:mn (S.map (·.2))<=p.2:=by lia
  have sq:∀z:Int,0<=z*z:=λz=>by
   rcases e_ 0 z with q|q
   ·exact Ň q q
   ·exact ou q q
  cases e2:Z2T S p with
  |some r=>
   obtain⟨⟨i,j⟩,hm,hr⟩:=uf e2;obtain⟨h1,h2⟩:=ZL.mp hm;split at hr
   ·rename_i hw;cases hr;exact Z4P h1 h2 hw (on _ (Vt (by lia)) _ (Vt h2))
   ·cases hr
  |none=>
   have no2:∀a∈S,∀b∈S,¬(Zv (ji a b p)=true):=by
    intro a ha b hb hw;obtain⟨i,hi,rfl⟩:=Vu ha;obtain⟨j,hj,rfl⟩:=Vu hb;have WQ:∀i j,i<j->j<S.length->Zv (ji (at_ S i) (at_ S j) p)=true->False:=by intro i j h1 h2 hw;have:=ue.mp e2 (i,j) (ZL.mpr ⟨h1,h2⟩);rw[if_pos hw] at this;cases this
    rcases Nat.lt_trichotomy i j with q|q|q
    ·exact WQ i j q hj hw
    ·subst q;refine(ZD.mp hw).1 ?_;simp[ji]
    ·refine WQ j i q hi ?_;rw[ZD] at hw ⊢;have e1:(ji (at_ S j) (at_ S i) p).sum=(ji (at_ S i) (at_ S j) p).sum:=by simp[ji];grind
     refine⟨by rw[e1];exact hw.1,λs hs=>?_⟩;rw[e1];refine hw.2 s ?_;simp[ji] at hs ⊢;rcases hs with e|e
     ·right;rw[e];grind
     ·left;rw[e];grind
   have key:∀a∈S,∀b∈S,(0<b.1-a.1->a.1<=p.1->p.1<=b.1->False)/\(0<b.2-a.2->a.2<=p.2->p.2<=b.2->False):=by
    intro a ha b hb;have o:=on a ha b hb;have e:(b.1-a.1)*(p.2-a.2)=(b.2-a.2)*(p.1-a.1):=by unfold tn at o;lia
    refine⟨λh1 h2 h3=>no2 a ha b hb ?_,λh1 h2 h3=>no2 a ha b hb ?_⟩
    all_goals
     rw[ZD];have jQ:(ji a b p).sum=(b.1-a.1)*(b.1-a.1)+(b.2-a.2)*(b.2-a.2):=by simp[ji]
     have s1:=sq (b.1-a.1);have s2:=sq (b.2-a.2)
    ·have pos:0<(b.1-a.1)*(b.1-a.1):=ub h1 h1;have g1:0<=(b.1-a.1)*(p.1-a.1)+(b.2-a.2)*(p.2-a.2):=by
      have i1:((b.1-a.1)*(p.1-a.1)+(b.2-a.2)*(p.2-a.2))*(b.1-a.1)=((b.1-a.1)*(b.1-a.1)+(b.2-a.2)*(b.2-a.2))*(p.1-a.1):=by grind
      have i2:0<=((b.1-a.1)*(b.1-a.1)+(b.2-a.2)*(b.2-a.2))*(p.1-a.1):=Ň (by lia) (by lia);by_cases q:0<=(b.1-a.1)*(p.1-a.1)+(b.2-a.2)*(p.2-a.2)
      ·exact q
      ·have:=iz (show(b.1-a.1)*(p.1-a.1)+(b.2-a.2)*(p.2-a.2)<0 by lia) h1;lia
     have g2:0<=(b.1-a.1)*(b.1-a.1)+(b.2-a.2)*(b.2-a.2)-((b.1-a.1)*(p.1-a.1)+(b.2-a.2)*(p.2-a.2)):=by
      have i1:((b.1-a.1)*(b.1-a.1)+(b.2-a.2)*(b.2-a.2)-((b.1-a.1)*(p.1-a.1)+(b.2-a.2)*(p.2-a.2)))*(b.1-a.1)=((b.1-a.1)*(b.1-a.1)+(b.2-a.2)*(b.2-a.2))*(b.1-p.1):=by grind
      have i2:0<=((b.1-a.1)*(b.1-a.1)+(b.2-a.2)*(b.2-a.2))*(b.1-p.1):=Ň (by lia) (by lia);by_cases q:0<=(b.1-a.1)*(b.1-a.1)+(b.2-a.2)*(b.2-a.2)-((b.1-a.1)*(p.1-a.1)+(b.2-a.2)*(p.2-a.2))
      ·exact q
      ·have:=iz (show(b.1-a.1)*(b.1-a.1)+(b.2-a.2)*(b.2-a.2)-((b.1-a.1)*(p.1-a.1)+(b.2-a.2)*(p.2-a.2))<0 by lia) h1;lia
     rw[jQ];refine⟨by lia,λs hs=>?_⟩;simp[ji] at hs;rcases hs with e|e<;>rw[e]
     ·exact Ň g2 (by lia)
     ·exact Ň g1 (by lia)
    ·have pos:0<(b.2-a.2)*(b.2-a.2):=ub h1 h1;have g1:0<=(b.1-a.1)*(p.1-a.1)+(b.2-a.2)*(p.2-a.2):=by
      have i1:((b.1-a.1)*(p.1-a.1)+(b.2-a.2)*(p.2-a.2))*(b.2-a.2)=((b.1-a.1)*(b.1-a.1)+(b.2-a.2)*(b.2-a.2))*(p.2-a.2):=by grind
      have i2:0<=((b.1-a.1)*(b.1-a.1)+(b.2-a.2)*(b.2-a.2))*(p.2-a.2):=Ň (by lia) (by lia);by_cases q:0<=(b.1-a.1)*(p.1-a.1)+(b.2-a.2)*(p.2-a.2)
      ·exact q
      ·have:=iz (show(b.1-a.1)*(p.1-a.1)+(b.2-a.2)*(p.2-a.2)<0 by lia) h1;lia
     have g2:0<=(b.1-a.1)*(b.1-a.1)+(b.2-a.2)*(b.2-a.2)-((b.1-a.1)*(p.1-a.1)+(b.2-a.2)*(p.2-a.2)):=by
      have i1:((b.1-a.1)*(b.1-a.1)+(b.2-a.2)*(b.2-a.2)-((b.1-a.1)*(p.1-a.1)+(b.2-a.2)*(p.2-a.2)))*(b.2-a.2)=((b.1-a.1)*(b.1-a.1)+(b.2-a.2)*(b.2-a.2))*(b.2-p.2):=by grind
      have i2:0<=((b.1-a.1)*(b.1-a.1)+(b.2-a.2)*(b.2-a.2))*(b.2-p.2):=Ň (by lia) (by lia);by_cases q:0<=(b.1-a.1)*(b.1-a.1)+(b.2-a.2)*(b.2-a.2)-((b.1-a.1)*(p.1-a.1)+(b.2-a.2)*(p.2-a.2))
      ·exact q
      ·have:=iz (show(b.1-a.1)*(b.1-a.1)+(b.2-a.2)*(b.2-a.2)-((b.1-a.1)*(p.1-a.1)+(b.2-a.2)*(p.2-a.2))<0 by lia) h1;lia
     rw[jQ];refine⟨by lia,λs hs=>?_⟩;simp[ji] at hs;rcases hs with e|e<;>rw[e]
     ·exact Ň g2 (by lia)
     ·exact Ň g1 (by lia)
   have nm:∀f:Pt->Int,S.map f≠[]:=λf e=>hS (List.map_eq_nil_iff.mp e);obtain⟨xa,hxa,exa⟩:=aE.mp (Z3L (nm (·.1)));obtain⟨xb,hxb,exb⟩:=aE.mp (Z3K (nm (·.1)));obtain⟨ya,hya,eya⟩:=aE.mp (Z3L (nm (·.2)));obtain⟨yb,hyb,eyb⟩:=aE.mp (Z3K (nm (·.2)));have h0:at_ S 0∈S:=Vt (ug.mpr hS);have l1:=XE (dq (f:=(·.1)) h0);have l2:=XF (dq (f:=(·.1)) h0);have l3:=XE (dq (f:=(·.2)) h0);have l4:=XF (dq (f:=(·.2)) h0);have ex:p.1=(at_ S 0).1:=by
    by_cases q:mn (S.map (·.1))<mx (S.map (·.1))
    ·exact((key xa hxa xb hxb).1 (by lia) (by lia) (by lia)).elim
    ·lia
   have ey:p.2=(at_ S 0).2:=by
    by_cases q:mn (S.map (·.2))<mx (S.map (·.2))
    ·exact((key ya hya yb hyb).2 (by lia) (by lia) (by lia)).elim
    ·lia
   refine⟨rfl,by simp,by simp,by simp,by simp;exact ug.mpr hS,?_,?_⟩
   ·simp[ex]
   ·simp[ey]
end Hu
namespace Fr
def lay(l:List Int)(a:List (Int×Nat)):List Int:=a.foldl (λď a=>ď.set a.2 a.1) l
end Fr
namespace T
open PySem L2 M2 M3 M4 P
noncomputable section
def top(i:Nat):Ö:=PySem.Challenge.pw_shadowpost_k55_stones_to_watch.main.body.getD i (.Pass ⟨0,0,0,0⟩)
abbrev K2:Ö:=top 77
abbrev K3:Ö:=top 83
abbrev K4:Ö:=bD (top 48) 0
abbrev K5:Ö:=top 59
abbrev K6:Ö:=top 60
abbrev K7:Ö:=top 62
abbrev Vv:Ö:=bD (top 69) 0
abbrev K8:Ö:=top 63
abbrev K9:Ö:=top 64
abbrev Vw:Ö:=top 65
abbrev Vx:Ö:=top 61
abbrev La:Ö:=top 66
abbrev Lb:Ö:=top 75
abbrev Lc:Ö:=top 90
abbrev Ld:Ö:=top 86
abbrev Le:Ö:=top 87
abbrev Lf:Ö:=top 80
abbrev Lg:Ö:=top 81
abbrev Li:Ö:=top 82
abbrev Lj:Ö:=top 88
abbrev Lk:Ö:=top 85
abbrev Ll:Ö:=top 51
abbrev Lm:Ö:=top 49
abbrev Vy:Ö:=top 52
abbrev Lo:Ö:=top 4
abbrev Gs:Ö:=top 6
abbrev Lp:Ö:=top 3
abbrev Lq:Ö:=top 5
abbrev Lr:Ö:=top 7
abbrev Ls:Ö:=top 22
abbrev Lu:Ö:=top 24
abbrev Lv:Ö:=top 23
abbrev Lw:Ö:=top 21
abbrev Lx:Ö:=top 25
abbrev Ly:Ö:=top 26
abbrev Lz:Ö:=top 27
abbrev LA:Ö:=top 33
abbrev LB:Ö:=top 34
abbrev Vz:Ö:=top 18
abbrev LC:Ö:=top 19
abbrev LD:Ö:=top 32
abbrev LF:Ö:=top 28
abbrev VA:Ö:=top 29
abbrev LG:Ö:=top 31
abbrev LH:Ö:=top 30
abbrev LI:Ö:=top 35
abbrev LJ:Ö:=top 36
abbrev LK:Ö:=top 39
abbrev LL:Ö:=top 67
abbrev LM:Ö:=top 68
abbrev LN:Ö:=bD (top 70) 0
abbrev LO:Ö:=bD (top 71) 0
abbrev LP:Ö:=bD (top 72) 0
abbrev LQ:Ö:=bD (top 73) 0
abbrev LR:Ö:=bD (top 74) 0
abbrev LS:Ö:=top 42
abbrev LU:Ö:=top 40
abbrev LW:Ö:=top 43
abbrev LX:Ö:=top 44
abbrev LY:Ö:=top 46
abbrev LZ:Ö:=top 53
abbrev L_:Ö:=top 2
abbrev L5:Ö:=top 38
abbrev L6:Ö:=top 54
abbrev L7:Ö:=top 55
abbrev L8:Ö:=top 78
abbrev L9:Ö:=top 79
abbrev Ma:Ö:=top 84
abbrev Mb:Ö:=top 89
abbrev Mc:Ö:=top 91
abbrev VB:Ö:=bD (top 12) 0
abbrev Za4:Ö:=bD (top 13) 0
abbrev Za5:Ö:=bD (top 14) 0
abbrev Za6:Ö:=bD (top 16) 0
def Z3:List ((String×String)×Bool):=[(("YardError","BadRow"),false),(("YardError","BadThing"),false),(("YardError","NoDay"),false),(("YardError","NoNumber"),false),(("YardError","NoRow"),false),(("YardError","NoTurn"),false),(("YardError","YardError"),true),(("NoNumber","BadRow"),false),(("NoNumber","BadThing"),false),(("NoNumber","NoDay"),false),(("NoNumber","NoNumber"),true),(("NoNumber","NoRow"),false),(("NoNumber","NoTurn"),false),(("NoNumber","YardError"),true),(("BadThing","BadRow"),false),(("BadThing","BadThing"),true),(("BadThing","NoDay"),false),(("BadThing","NoNumber"),false),(("BadThing","NoRow"),false),(("BadThing","NoTurn"),false),(("BadThing","YardError"),true),(("NoStone","BadRow"),false),(("NoStone","BadThing"),false),(("NoStone","NoDay"),false),(("NoStone","NoNumber"),false),(("NoStone","NoRow"),false),(("NoStone","NoTurn"),false),(("NoStone","YardError"),true),(("NoTurn","BadRow"),false),(("NoTurn","BadThing"),false),(("NoTurn","NoDay"),false),(("NoTurn","NoNumber"),false),(("NoTurn","NoRow"),false),(("NoTurn","NoTurn"),true),(("NoTurn","YardError"),true),(("BadRow","BadRow"),true),(("BadRow","BadThing"),false),(("BadRow","NoDay"),false),(("BadRow","NoNumber"),false),(("BadRow","NoRow"),false),(("BadRow","NoTurn"),false),(("BadRow","YardError"),true),(("NoRow","BadRow"),false),(("NoRow","BadThing"),false),(("NoRow","NoDay"),false),(("NoRow","NoNumber"),false),(("NoRow","NoRow"),true),(("NoRow","NoTurn"),false),(("NoRow","YardError"),true),(("NoDay","BadRow"),false),(("NoDay","BadThing"),false),(("NoDay","NoDay"),true),(("NoDay","NoNumber"),false),(("NoDay","NoRow"),false),(("NoDay","NoTurn"),false),(("NoDay","YardError"),true)]
def Z4:List ((String×String)×Bool):=[(("YardError","ValueError"),true),(("NoNumber","ValueError"),true),(("BadThing","ValueError"),true),(("NoStone","ValueError"),true),(("NoTurn","ValueError"),true),(("BadRow","ValueError"),true),(("NoRow","ValueError"),true),(("NoDay","ValueError"),true)]
def Z5:List String:=["BadRow","BadThing","NoDay","NoNumber","NoRow","NoTurn","YardError"]
def Z6:List String:=["ValueError"]
def cmB(c0:À)(c1:À)(c2:À)(c3:À)(c4:À)(c5:À)(c6:À)(c7:À)(c8:À)(c9:À)(c10:À)(c11:À)(c12:À)(c13:À)(VC:À):String->À:=λs=>match s with
 | "YardError" =>c0
 | "NoNumber" =>c1
 | "BadThing" =>c2
 | "NoStone" =>c3
 | "NoTurn" =>c4
 | "BadRow" =>c5
 | "NoRow" =>c6
 | "NoDay" =>c7
 | "Yard" =>c8
 | "Thing" =>c9
 | "Post" =>c10
 | "Fence" =>c11
 | "Sail" =>c12
 | "Cloth" =>c13
 | "House" =>VC
 |_=>0
def Ae:M Fl:=(æ (bq (aN (È sj (Â 1) (ar aZ (Ç (Â 0) â))))
 (Ď (Ń (È ã (Â 0) (Â 1))))
 bF)
 (Ď (Ń (Ä 0))))
def aU:MF:=Ğ 2 2 Ae
def mL:M Fl:=(æ (ü 5 (Ń (È ć (á (ç aU (É 0 (ô (á (Ċ Ą (Â 1) (Â 4))) Þ)))) (È cU (Ä 10) (Ä 12)))))
 (æ (ü 6 (Ń (È Ő (È ć (È Ļ (Â 5) (Ä 3)) (Ä 17)) (Ä 5))))
 (æ (ü 7 (Ń (È Ő (È ć (È Ļ (Â 5) (Ä 51)) (Ä 17)) (Ä 5))))
 (æ (ü 8 (Ċ Ą (Ä 1) (È ć (È Ļ (Â 5) (Ä 867)) (Ä 6))))
 (bq (aN (È Ş (È ć (Â 5) (Ä 3)) (Ä 0)))
 (lf 3 (ķ (Ç (mC (.str "post")) (Ç (á (϶ (Ç (È Ļ (Â 6) (Ä 2)) (Ç (È Ļ (Â 7) (Ä 2)) (Ç (ê 8) â))))) â))))
 (æ (ü 9 (Ń (È ã (á (϶ (Ç (mC (.str "sail")) (Ç (mC (.str "house")) â)))) (È Ő (È ć (Â 5) (Ä 3)) (Ä 1)))))
 (lf 3 (ķ (Ç (ê 9) (Ç (á (϶ (Ç (ê 6) (Ç (ê 7) (Ç (á (Ċ Ą (á (Ċ Ą (Â 6) (Ä 1))) (È ć (È Ļ (Â 5) (Ä 5202)) (Ä 4)))) (Ç (á (Ċ Ą (á (Ċ Ą (Â 7) (Ä 1))) (È ć (È Ļ (Â 5) (Ä 20808)) (Ä 4)))) (Ç (ê 8) â))))))) â))))))))))
def Gu:M Fl:=(æ (ü 3 (϶ â))
 (æ (br (Œ ϑ (Ç (ê 2) â)) (gN 4) mL)
 (Ď (bp 3))))
def yu:MF:=Ğ 3 10 Gu
def Af:M Fl:=(æ (lm 0 ["Yard"] "width" (ê 1))
 (æ (lm 0 ["Yard"] "height" (ê 2))
 (æ (lm 0 ["Yard"] "things" (á (jG cj (Ç (Â 3) â))))
 (lm 0 ["Yard"] "days" (á (ĳ [] 3 (ń 4) (gT 3 (è (gN 0) (è (gN 1) (è (gN 2) ň)))) Ě (ķ (Ç (ê 0) (Ç (ê 1) (Ç (á (jG cj (Ç (Â 2) â))) â))))))))))
def pW:MI:=dP 5 5 "Yard" Af
def Gv:M Fl:=(Ď (Ń (xD lh lh (gB aS (mC (.int (1000000000)))) (Â 0) (mC (.int (1000000000))))))
def nA:MF:=Ğ 1 1 Gv
def Gw:M Fl:=(Ď (Ń (xD lh lh (Ä 1) (Â 0) (mC (.int (1000000000))))))
def yx:MF:=Ğ 1 1 Gw
def Ag:M Fl:=(Ď (Ń (ci (È Ş (ar aZ (Ç (Â 0) â)) (Ä 3)) (ci (á (ç nA (ô (È ã (Â 0) (Ä 0)) Þ))) (ci (á (ç nA (ô (È ã (Â 0) (Ä 1)) Þ))) (á (ç yx (ô (È ã (Â 0) (Ä 2)) Þ))))))))
def yy:MF:=Ğ 1 1 Ag
def gl:M Fl:=(æ (lm 0 ["Thing","Post","Fence","Sail","Cloth","House"] "word" (ê 1))
 (lm 0 ["Thing","Post","Fence","Sail","Cloth","House"] "numbers" (á (jG cj (Ç (Â 2) â)))))
def vS:MI:=dP 3 3 "Post" gl
def qL:MI:=dP 3 3 "Fence" gl
def vT:MI:=dP 3 3 "Sail" gl
def qM:MI:=dP 3 3 "Cloth" gl
def qN:MI:=dP 3 3 "House" gl
def Ah:M Fl:=(Ď (Ń (ci (È Ş (ar aZ (Ç (Â 0) â)) (Ä 5)) (ci (ar mD (Ç (á (ĳ [] 1 (ϡ (á (Cz (Â 0) qv (mP (Ä 4))))) (gN 0) Ě (á (ç nA (É 0 Þ))))) â)) (á (ç yx (ô (È ã (Â 0) (Ä 4)) Þ)))))))
def td:MF:=Ğ 1 1 Ah
def Ai:M Fl:=(Ď (Ń (ci (á (ç td (É 0 Þ))) (È bv (á (Cz (Â 0) qv (mP (Ä 2)))) (á (Cz (Â 0) (mP (Ä 2)) (mP (Ä 4))))))))
def yz:MF:=Ğ 1 1 Ai
def Gx:M Fl:=(Ď (Ń (ci (á (ç td (É 0 Þ))) (ci (È sj (È ã (Â 0) (Ä 0)) (È ã (Â 0) (Ä 2))) (È sj (È ã (Â 0) (Ä 1)) (È ã (Â 0) (Ä 3)))))))
def D0:MF:=Ğ 1 1 Gx
def Md:M Fl:=(Ď (Ń (ci (á (ç nA (ô (È ã (Â 0) (Ä 0)) Þ))) (ci (á (ç nA (ô (È ã (Â 0) (Ä 1)) Þ))) (xD lh lh (Ä 0) (È ã (Â 0) (Ä 2)) (mC (.int (1000000000))))))))
def J3:MF:=Ğ 1 1 Md
def Aj:M Fl:=(Ď (Ń (ci (È Ş (ar aZ (Ç (Â 0) â)) (Ä 9)) (ar mD (Ç (á (ĳ [0] 1 (ϡ (ķ (Ç (Ä 0) (Ç (Ä 3) (Ç (Ä 6) â))))) (gN 1) Ě (á (ç J3 (ô (á (Cz (Â 0) (mP (ê 1)) (mP (á (Ċ Ą (Â 1) (Ä 3)))))) Þ))))) â)))))
def yA:MF:=Ğ 1 1 Aj
def jL:M Fl:=(æ (bq (gR (aN (È Ş (Â 0) (mC (.str "post")))) (cK (á (ç yy (É 1 Þ)))))
 (Ď (Ń (dQ "Post" vS (É 0 (É 1 Þ)))))
 bF)
 (æ (bq (gR (aN (È Ş (Â 0) (mC (.str "fence")))) (cK (á (ç yz (É 1 Þ)))))
 (Ď (Ń (dQ "Fence" qL (É 0 (É 1 Þ)))))
 bF)
 (æ (bq (gR (aN (È Ş (Â 0) (mC (.str "sail")))) (cK (á (ç D0 (É 1 Þ)))))
 (Ď (Ń (dQ "Sail" vT (É 0 (É 1 Þ)))))
 bF)
 (æ (bq (gR (aN (È Ş (Â 0) (mC (.str "cloth")))) (cK (á (ç yA (É 1 Þ)))))
 (Ď (Ń (dQ "Cloth" qM (É 0 (É 1 Þ)))))
 bF)
 (æ (bq (gR (aN (È Ş (Â 0) (mC (.str "house")))) (cK (á (ç D0 (É 1 Þ)))))
 (Ď (Ń (dQ "House" qN (É 0 (É 1 Þ)))))
 bF)
 (zV "BadThing"))))))
def gm:MF:=Ğ 2 2 jL
def Gy:M Fl:=(æ (ü 3 (ĳ [2] 1 (Œ ϑ (Ç (ar aZ (Ç (Â 2) â)) â)) (gN 1) Ě (ķ (Ç (È ã (mC (.str "abc")) (Â 1)) (Ç (á (Ċ Ą (Ä 1) (Â 1))) (Ç (á (jG cj (Ç (È ã (Â 0) (Â 1)) â))) â))))))
 (Ď (Ń (dQ "Yard" pW (ô (È ã (Â 0) (Ä 0)) (ô (È ã (Â 0) (Ä 1)) (ô (á (ĳ [] 2 (ń 1) (gT 2 (è (gN 0) (è (gN 1) ň))) Ě (á (ç gm (É 0 (ô (á (jG cj (Ç (Â 1) â))) Þ)))))) (É 3 Þ))))))))
def yB:MF:=Ğ 3 4 Gy
def qO:M Fl:=(ye 1 (ĳ [2,3] 1 (Œ sR (Ç (á (Ċ Ą (Â 3) (Ä 1))) (Ç (ar aZ (Ç (È ã (Â 0) (Â 2)) â)) â))) (gN 2) Ě (ķ (Ç (ê 0) (Ç (ê 1) (Ç (ê 2) â))))))
def qP:M Fl:=(br (Œ ϑ (Ç (ar aZ (Ç (È ã (Â 0) (Â 2)) â)) â)) (gN 3) qO)
def Gz:M Fl:=(æ (ü 1 (϶ â))
 (æ (br (Œ ϑ (Ç (ar aZ (Ç (Â 0) â)) â)) (gN 2) qP)
 (Ď (bp 1))))
def CW:MF:=Ğ 1 4 Gz
def mM:M Fl:=(bq (le (cK (ar zS (Ç (á (ĳ [6,0,4] 1 (Œ ϑ (Ç (ar aZ (Ç (Â 0) â)) â)) (gN 3) Ě (ci (È Ş (È ć (È gf (Â 2) (Â 3)) (Ä 2)) (Ä 1)) (È ã (È ã (Â 1) (Â 3)) (Â 0))))) â))))
 (ü 5 (Ń (ê 6)))
 bF)
def hV:M Fl:=(æ (ü 5 (Ń (mC .non)))
 (æ (br (Œ yr (Ç (È Ő (Â 1) (Ä 1)) (Ç (gB aS (Ä 1)) (Ç (gB aS (Ä 1)) â)))) (gN 6) mM)
 (æ (lf 2 (ê 5))
 (æ (ü 7 (Ń (ar nO (Ç (á (ĳ [4] 1 (Œ ϑ (Ç (ar aZ (Ç (Â 0) â)) â)) (gN 1) Ě (È ć (È gf (Â 0) (Â 1)) (Ä 2)))) â))))
 (bq (gR (aN (È my (Â 5) (mC .non))) (zL (aN (È my (Â 3) (mC .non))) (aN (È sj (Â 7) (È ã (Â 3) (Ä 1))))))
 (ü 3 (Ń (ķ (Ç (ê 4) (Ç (ê 7) â)))))
 bF)))))
def GA:M Fl:=(æ (ü 2 (϶ â))
 (æ (ü 3 (Ń (mC .non)))
 (æ (br (Œ ϑ (Ç (È xK (Ä 1) (ar aZ (Ç (Â 0) â))) â)) (gN 4) hV)
 (Ď (Ń (ķ (Ç (ê 3) (Ç (ê 2) â))))))))
def CY:MF:=Ğ 2 8 GA
def cq:M Fl:=(æ (bq (aN (È Ş (Â 2) (Ä 0)))
 (æ (bq (aN (xD lh lh (È û (Â 3) (Â 4)) (Ä 0) (È û (Â 3) (Â 5))))
 (Ď (Ń (ķ (Ç (ê 0) (Ç (ê 1) â)))))
 bF)
 (Ď (Ń (ķ (Ç (ķ (Ç (Ä 1) (Ç (Ä 1) â))) (Ç (ķ (Ç (Ä 0) (Ç (Ä 1) â))) â))))))
 bF)
 (æ (ü 6 (Ń (ķ (Ç (È û (Â 3) (Â 4)) (Ç (ê 2) â)))))
 (æ (ü 7 (Ń (ķ (Ç (È û (Â 3) (Â 5)) (Ç (ê 2) â)))))
 (æ (bq (aN (È sj (Â 2) (Ä 0)))
 (UI 6 7 (Ç (ķ (Ç (È Ő (Ä 0) (È ã (Â 7) (Ä 0))) (Ç (È Ő (Ä 0) (Â 2)) â))) (Ç (ķ (Ç (È Ő (Ä 0) (È ã (Â 6) (Ä 0))) (Ç (È Ő (Ä 0) (Â 2)) â))) â)))
 bF)
 (æ (bq (aN (È Qn (È û (È ã (Â 6) (Ä 0)) (È ã (Â 0) (Ä 1))) (È û (È ã (Â 0) (Ä 0)) (È ã (Â 6) (Ä 1)))))
 (ü 0 (Ń (ê 6)))
 bF)
 (æ (bq (aN (È sj (È û (È ã (Â 7) (Ä 0)) (È ã (Â 1) (Ä 1))) (È û (È ã (Â 1) (Ä 0)) (È ã (Â 7) (Ä 1)))))
 (ü 1 (Ń (ê 7)))
 bF)
 (Ď (Ń (ķ (Ç (ê 0) (Ç (ê 1) â)))))))))))
def bB:MF:=Ğ 6 8 cq
def qQ:M Fl:=(æ (mq (gS 3 (è (gN 6) (è (gN 7) (è (gN 8) ň)))) (ê 3))
 (æ (bq (aN (È Ş (Â 0) (mC (.str "post"))))
 (æ (mq (gS 3 (è (gN 14) (è (gN 15) (è (gN 13) ň)))) (ê 1))
 Qg)
 bF)
 (æ (mq (gS 5 (è (gN 9) (è (gN 10) (è (gN 11) (è (gN 12) (è (gN 13) ň)))))) (ê 1))
 (æ (ü 4 (Ń (ķ (Ç (Ä 0) (Ç (Ä 1) â)))))
 (æ (ü 5 (Ń (ķ (Ç (ê 13) (Ç (Ä 1) â)))))
 (æ (bq (aN (È Ş (Â 0) (mC (.str "sail"))))
 (ü 4 (Ń (ķ (Ç (ê 13) (Ç (Ä 1) â)))))
 bF)
 (æ (mq (gS 2 (è (gN 4) (è (gN 5) ň))) (á (ç bB (É 4 (É 5 (É 6 (É 8 (ô (È Ő (È û (Ä 2) (È ã (Â 2) (Ä 0))) (Â 11)) (ô (È Ő (È û (Ä 2) (È ã (Â 2) (Ä 0))) (Â 9)) Þ)))))))))
 (æ (mq (gS 2 (è (gN 4) (è (gN 5) ň))) (á (ç bB (É 4 (É 5 (É 7 (É 8 (ô (È Ő (È û (Ä 2) (È ã (Â 2) (Ä 1))) (Â 12)) (ô (È Ő (È û (Ä 2) (È ã (Â 2) (Ä 1))) (Â 10)) Þ)))))))))
 (Ď (Ń (È lh (È û (È ã (Â 4) (Ä 0)) (È ã (Â 5) (Ä 1))) (È û (È ã (Â 5) (Ä 0)) (È ã (Â 4) (Ä 1))))))))))))))
def pX:MF:=Ğ 4 16 qQ
def vU:M Fl:=(æ (mq (gS 3 (è (gN 6) (è (gN 7) (è (gN 8) ň)))) (ê 3))
 (æ (bq (aN (È Ş (Â 0) (mC (.str "post"))))
 (æ (mq (gS 3 (è (gN 14) (è (gN 15) (è (gN 13) ň)))) (ê 1))
 (Ď (ç pX (ô (mC (.str "house")) (ô (á (϶ (Ç (È Ő (È û (Ä 2) (Â 14)) (Ä 1)) (Ç (È Ő (È û (Ä 2) (Â 15)) (Ä 1)) (Ç (á (Ċ Ą (È û (Ä 2) (Â 14)) (Ä 1))) (Ç (á (Ċ Ą (È û (Ä 2) (Â 15)) (Ä 1))) (Ç (ê 13) â))))))) (É 2 (É 3 Þ)))))))
 bF)
 (æ (mq (gS 5 (è (gN 9) (è (gN 10) (è (gN 11) (è (gN 12) (è (gN 13) ň)))))) (ê 1))
 (æ (ü 4 (Ń (ķ (Ç (Ä 0) (Ç (Ä 1) â)))))
 (æ (ü 5 (Ń (ķ (Ç (ê 13) (Ç (Ä 1) â)))))
 (æ (bq (aN (È Ş (Â 0) (mC (.str "sail"))))
 (ü 4 (Ń (ķ (Ç (ê 13) (Ç (Ä 1) â)))))
 bF)
 (æ (mq (gS 2 (è (gN 4) (è (gN 5) ň))) (á (ç bB (É 4 (É 5 (É 6 (É 8 (ô (È Ő (È û (Ä 2) (È ã (Â 2) (Ä 0))) (Â 11)) (ô (È Ő (È û (Ä 2) (È ã (Â 2) (Ä 0))) (Â 9)) Þ)))))))))
 (æ (mq (gS 2 (è (gN 4) (è (gN 5) ň))) (á (ç bB (É 4 (É 5 (É 7 (É 8 (ô (È Ő (È û (Ä 2) (È ã (Â 2) (Ä 1))) (Â 12)) (ô (È Ő (È û (Ä 2) (È ã (Â 2) (Ä 1))) (Â 10)) Þ)))))))))
 (Ď (Ń (È lh (È û (È ã (Â 4) (Ä 0)) (È ã (Â 5) (Ä 1))) (È û (È ã (Â 5) (Ä 0)) (È ã (Â 4) (Ä 1))))))))))))))
def jw:MF:=Ğ 4 16 vU
def Ak:M Fl:=(æ (bq (aN (È my (Â 2) (mC .non)))
 (Ď (Ń (mC (.bl false))))
 bF)
 (Ď (Ń (Jq (ar zS (Ç (á (ĳ [1,2] 2 (ń 0) (gT 2 (è (gN 2) (è (gN 3) ň))) Ě (á (ç jw (É 2 (É 3 (É 0 (É 1 Þ)))))))) â))))))
def hZ:MF:=Ğ 3 3 Ak
def vV:M Fl:=(æ (ü 7 (Ń (ķ (Ç (È ć (Â 6) (È ã (Â 0) (Ä 0))) (Ç (È Ļ (Â 6) (È ã (Â 0) (Ä 0))) â)))))
 (æ (ü 8 (ĳ [1,7] 1 (ń 2) (gN 2) Ě (á (ĳ [0,1] 1 (ń 2) (gN 2) Ě (á (ç hZ (É 0 (É 1 (É 2 Þ)))))))))
 (lf 5 (á (ĳ [8] 3 (ń 4) (gT 3 (è (gN 1) (è (gN 2) (è (gN 3) ň)))) Ě (È bv (È ã (È ã (Â 0) (Â 1)) (Â 2)) (È ã (È ã (Â 0) (Â 1)) (Â 3))))))))
def Al:M Fl:=(æ (ü 4 (ç CW (É 2 Þ)))
 (æ (ü 5 (϶ â))
 (æ (br (ń 3) (gN 6) vV)
 (æ (mq (gS 2 (è (gN 9) (è (gN 10) ň))) (á (ç CY (É 5 (ô (ar aZ (Ç (Â 4) â)) Þ)))))
 (æ (bq (aN (È my (Â 9) (mC .non)))
 (Ď (Ċ Ą (ķ (Ç (mC (.str "alike")) â)) (È ã (Â 4) (È ã (Â 10) (gB aS (Ä 1))))))
 bF)
 (Ď (Ń (ķ (Ç (mC (.str "choice")) (Ç (È ã (Â 9) (Ä 0)) (Ç (È ã (Â 9) (Ä 1)) (Ç (ê 10) â))))))))))))
def tj:MF:=Ğ 4 11 Al
def Zb(mf:MF):M Fl:=(æ (bq (zL (cK (ar (į Z3 Z4 Z5 Z6) (Ç (Â 1) (Ç (mC (.ty "tuple")) â)))) (cK (ar (į Z3 Z4 Z5 Z6) (Ç (Â 1) (Ç (mC (.ty "list")) â)))))
     (æ (bq (zL (aN (È bv (ar (į Z3 Z4 Z5 Z6) (Ç (Â 1) (Ç (mC (.ty "tuple")) â))) (ar (į Z3 Z4 Z5 Z6) (Ç (Â 0) (Ç (mC (.ty "tuple")) â))))) (aN (È bv (ar (į Z3 Z4 Z5 Z6) (Ç (Â 1) (Ç (mC (.ty "list")) â))) (ar (į Z3 Z4 Z5 Z6) (Ç (Â 0) (Ç (mC (.ty "list")) â))))))
     (Ď (Ń (mC (.bl false))))
     bF)
     (Ď (Ń (ci (È Ş (ar aZ (Ç (Â 0) â)) (ar aZ (Ç (Â 1) â))) (ar mD (Ç (á (ĳ [] 2 (vM (vJ 0) (vJ 1)) (gT 2 (è (gN 0) (è (gN 1) ň))) Ě (á (ç mf (É 0 (É 1 Þ)))))) â))))))
     bF)
     (æ (bq (cK (ar (į Z3 Z4 Z5 Z6) (Ç (Â 1) (Ç (mC (.ty "str")) â))))
     (Ď (Ń (ci (ar (į Z3 Z4 Z5 Z6) (Ç (Â 0) (Ç (mC (.ty "str")) â))) (È Ş (Â 0) (Â 1)))))
     bF)
     (æ (bq (aN (È my (Â 1) (mC .non)))
     (Ď (Ń (È my (Â 0) (mC .non))))
     bF)
     (Ď (Ń (ci (ar (į Z3 Z4 Z5 Z6) (Ç (Â 0) (Ç (mC (.ty "int")) â))) (ci (Jq (ar (į Z3 Z4 Z5 Z6) (Ç (Â 0) (Ç (mC (.ty "bool")) â)))) (È Ş (Â 0) (Â 1)))))))))
def lA:MF:=Ğ 2 2 (Zb λ_=>.bad)
def ı:MF:=Ğ 2 2 (Zb lA)
def lB:MF:=Ğ 2 2 (Zb ı)
def h_:M Fl:=(bq (le (aN (xD lh sj (Ä 0) (Â 2) (È û (gB (bK ["Yard"] "width") (Â 0)) (gB (bK ["Yard"] "height") (Â 0))))))
 (CK "NoStone" 2 [("stone",1)] (Ç (ê 2) â))
 bF)
def Am:M Fl:=(br (ń 1) (gN 2) h_)
def tm:MF:=Ğ 2 3 Am
def GB:M Fl:=(Ď (Ń (È ã (È ã (gB (bK ["Yard"] "days") (Â 0)) (Â 1)) (Ä 2))))
def yC:MF:=Ğ 2 2 GB
def yD:M Fl:=(ye 1 (ĳ [2,4] 1 (Œ sR (Ç (á (Ċ Ą (Â 4) (Ä 1))) (Ç (ê 3) â))) (gN 2) Ě (ķ (Ç (ê 0) (Ç (ê 1) (Ç (ê 2) â))))))
def yE:M Fl:=(æ (ü 3 (Ń (ar aZ (Ç (á (ç yC (É 0 (É 2 Þ)))) â))))
 (br (Œ ϑ (Ç (ê 3) â)) (gN 4) yD))
def Me:M Fl:=(æ (ü 1 (϶ â))
 (æ (br (Œ ϑ (Ç (ar aZ (Ç (gB (bK ["Yard"] "days") (Â 0)) â)) â)) (gN 2) yE)
 (Ď (bp 1))))
def J4:MF:=Ğ 1 5 Me
def An:M Fl:=(Ď (ĳ [1] 2 (yc (F7 0)) (gT 2 (è (gN 1) (è (gN 2) ň))) (cK (È mw (È gf (Â 0) (Â 1)) (Ä 1))) (ê 2)))
def jx:MF:=Ğ 2 2 An
def Ao:M Fl:=(Ď (Ń (Gm [0] (ar nO (Ç (á (ç jx (É 0 (É 1 Þ)))) â)) (Ç (Â 1) â))))
def CZ:MF:=Ğ 2 2 Ao
def vW:M Fl:=(bq (le (cK (È mw (È gf (Â 0) (Â 2)) (Ä 1))))
 (Ď (bp 2))
 bF)
def Ap:M Fl:=(æ (br (Œ ϑ (Ç (ê 1) â)) (gN 2) vW)
 (Ď (Ń (mC .non))))
def tq:MF:=Ğ 2 3 Ap
def Aq:M Fl:=(CQ 3 (ê 4))
def GC:M Fl:=(æ (ü 3 (Ń (ê 2)))
 (æ (br (ϡ (á (ç jx (É 0 (É 1 Þ))))) (gN 4) Aq)
 (Ď (bp 3))))
def yF:MF:=Ğ 3 5 GC
def vX:M Fl:=(æ (ü 4 (ĳ [2,1,3] 1 (Œ ϑ (Ç (È xK (Ä 1) (ar aZ (Ç (Â 0) â))) â)) (gN 3) Ě (á (ç tq (ô (á (ç yF (É 1 (É 3 (É 2 Þ))))) (É 0 Þ))))))
 (æ (bq (aN (È bX (È ã (Â 4) (gB aS (Ä 1))) (mC .non)))
 (Ď (Ń (ķ (Ç (mC (.str "none")) (Ç (È ã (Â 4) (gB aS (Ä 1))) â)))))
 bF)
 (æ (ü 5 (ç CZ (É 0 (ô (á (ĳ [] 2 (yc (JZ 4)) (gT 2 (è (gN 0) (è (gN 1) ň))) (aN (È my (Â 1) (mC .non))) (ê 0))) Þ))))
 (Ď (K1 (vP (mC (.str "choice")) (vP (ê 5) (vP (ar nO (Ç (á (ç jx (É 0 (É 5 Þ)))) â)) (K0 (bp 4))))))))))
def yG:MF:=Ğ 4 6 vX
def GD:M Fl:=(æ (ü 1 (ĳ [] 1 (ń 0) (gN 0) Ě (È ã (Â 0) (Ä 0))))
 (æ (ü 2 (ĳ [] 1 (ń 0) (gN 0) Ě (È ã (Â 0) (Ä 1))))
 (Ď (϶ (Ç (ķ (Ç (Ä 1) (Ç (Ä 0) (Ç (ar sV (Ç (Â 1) â)) â)))) (Ç (ķ (Ç (gB aS (Ä 1)) (Ç (Ä 0) (Ç (gB aS (ar sW (Ç (Â 1) â))) â)))) (Ç (ķ (Ç (Ä 0) (Ç (Ä 1) (Ç (ar sV (Ç (Â 2) â)) â)))) (Ç (ķ (Ç (Ä 0) (Ç (gB aS (Ä 1)) (Ç (gB aS (ar sW (Ç (Â 2) â))) â)))) â))))))))
def C_:MF:=Ğ 1 3 GD
def mO:M Fl:=(bq (aN (È (OK true) (Â 2) (Â 1)))
 (lf 1 (ê 2))
 bF)
def GF:M Fl:=(æ (ü 1 (϶ â))
 (æ (br (ń 0) (gN 2) mO)
 (Ď (bp 1))))
def C0:MF:=Ğ 1 3 GF
def GG:M Fl:=(æ (ü 2 (Ń (È Ő (È ã (Â 1) (Ä 1)) (È ã (Â 0) (Ä 1)))))
 (æ (ü 3 (Ń (È Ő (È ã (Â 0) (Ä 0)) (È ã (Â 1) (Ä 0)))))
 (Ď (Ń (ķ (Ç (ê 2) (Ç (ê 3) (Ç (á (Ċ Ą (È û (Â 2) (È ã (Â 0) (Ä 0))) (È û (Â 3) (È ã (Â 0) (Ä 1))))) â))))))))
def C2:MF:=Ğ 2 4 GG
def GH:M Fl:=(Ď (Ń (È lh (á (Ċ Ą (È û (È ã (Â 0) (Ä 0)) (È ã (Â 1) (Ä 0))) (È û (È ã (Â 0) (Ä 1)) (È ã (Â 1) (Ä 1))))) (È ã (Â 0) (Ä 2)))))
def qR:MF:=Ğ 2 2 GH
def mQ:M Fl:=(æ (ü 5 (ç C2 (É 3 (É 4 Þ))))
 (bq (gR (aN (È bv (Â 3) (Â 4))) (cK (ar mD (Ç (á (ĳ [5] 1 (ń 2) (gN 1) Ě (á (ç qR (É 0 (É 1 Þ)))))) â))))
 (lf 1 (ê 5))
 bF))
def vY:M Fl:=(br (ń 2) (gN 4) mQ)
def GI:M Fl:=(æ (ü 1 (϶ â))
 (æ (ü 2 (ç C0 (É 0 Þ)))
 (æ (br (ń 2) (gN 3) vY)
 (Ď (bp 1)))))
def C3:MF:=Ğ 1 6 GI
def GJ:M Fl:=(Ď (Ċ Ą (á (ç C_ (É 0 Þ))) (á (ç C3 (É 0 Þ)))))
def C4:MF:=Ğ 1 1 GJ
def vZ:M Fl:=(bq (le (cK (á (ç qR (É 2 (É 1 Þ))))))
 (Ď (bp 2))
 bF)
def Ar:M Fl:=(æ (br (ϡ (á (ç C4 (É 0 Þ)))) (gN 2) vZ)
 (Ď (Ń (mC .non))))
def yH:MF:=Ğ 2 3 Ar
def qS:M Fl:=(ye 1 (ĳ [2] 1 (Œ ϑ (Ç (ê 2) â)) (gN 1) Ě (ķ (Ç (ê 1) (Ç (ê 0) â)))))
def GK:M Fl:=(æ (ü 1 (϶ â))
 (æ (br (Œ ϑ (Ç (ê 0) â)) (gN 2) qS)
 (Ď (bp 1))))
def yI:MF:=Ğ 1 3 GK
def qT:M Fl:=(ye 1 (ĳ [2] 1 (Gh (ϡ (á (ç yI (É 2 Þ))))) (gN 1) Ě (ķ (Ç (È ã (Â 1) (Ä 0)) (Ç (È ã (Â 1) (Ä 1)) (Ç (ê 0) â))))))
def GL:M Fl:=(æ (ü 1 (϶ â))
 (æ (br (Œ ϑ (Ç (ê 0) â)) (gN 2) qT)
 (Ď (bp 1))))
def C5:MF:=Ğ 1 3 GL
def Mf:M Fl:=(ϻ (aN (È bv (Â 1) (Ä 0)))
 (æ (ü 2 (Ń (È ć (Â 0) (Â 1))))
 (æ (ü 0 (Ń (ê 1)))
 (ü 1 (Ń (ê 2))))))
def Mg:M Fl:=(æ Mf
 (Ď (Ń (ar JC (Ç (Â 0) â)))))
def J5:MF:=Ğ 2 3 Mg
def As:M Fl:=(æ (bq (aN (È Ş (Â 1) (Ä 0)))
 (zV "NoNumber")
 bF)
 (æ (ü 2 (ç J5 (É 0 (É 1 Þ))))
 (æ (bq (aN (È sj (Â 1) (Ä 0)))
 (ü 2 (Ń (gB aS (Â 2))))
 bF)
 (Ď (Ń (ķ (Ç (È Ļ (Â 0) (Â 2)) (Ç (È Ļ (Â 1) (Â 2)) â))))))))
def nB:MF:=Ğ 2 3 As
def v_:M Fl:=(Fo 4 (ê 6) (á (ç nB (É 5 (É 3 Þ)))))
def qU:M Fl:=(æ (ü 3 (Ń (ar nO (Ç (Â 0) â))))
 (æ (ü 4 (ĳ [3] 1 (Œ ϑ (Ç (ê 2) â)) (gN 1) Ě (á (ç nB (ô (Ä 0) (É 0 Þ))))))
 (æ (br (vM (vJ 0) (vJ 1)) (gT 2 (è (gN 5) (è (gN 6) ň))) v_)
 (Ď (bp 4)))))
def lE:MF:=Ğ 3 7 qU
def GN:M Fl:=(æ (ü 3 (Ń (È û (È Ő (È ã (Â 1) (Ä 0)) (È ã (Â 0) (Ä 0))) (È Ő (È ã (Â 2) (Ä 1)) (È ã (Â 0) (Ä 1))))))
 (Ď (Ń (È Ő (Â 3) (È û (È Ő (È ã (Â 1) (Ä 1)) (È ã (Â 0) (Ä 1))) (È Ő (È ã (Â 2) (Ä 0)) (È ã (Â 0) (Ä 0))))))))
def tw:MF:=Ğ 3 4 GN
def Mh:M Fl:=(æ (ü 2 (Ń (È ã (Â 0) (Ä 0))))
 (æ (ü 3 (Ń (È ã (Â 0) (Ä 1))))
 (æ (ü 4 (Ń (È ã (Â 0) (Ä 2))))
 (Ď (϶ (Ç (á (ç tw (É 1 (É 3 (É 4 Þ))))) (Ç (á (ç tw (É 2 (É 1 (É 4 Þ))))) (Ç (á (ç tw (É 2 (É 3 (É 1 Þ))))) â))))))))
def J6:MF:=Ğ 2 5 Mh
def At:M Fl:=(æ (ü 1 (Ń (ar nO (Ç (Â 0) â))))
 (Ď (Ń (ci (È bv (Â 1) (Ä 0)) (ar mD (Ç (á (ĳ [1] 1 (ń 0) (gN 1) Ě (È Fu (È û (Â 1) (Â 0)) (Ä 0)))) â))))))
def tz:MF:=Ğ 1 2 At
def GO:M Fl:=(æ (ü 2 (Ń (È Ő (È ã (È ã (Â 0) (Ä 1)) (Ä 0)) (È ã (È ã (Â 0) (Ä 0)) (Ä 0)))))
 (æ (ü 3 (Ń (È Ő (È ã (È ã (Â 0) (Ä 1)) (Ä 1)) (È ã (È ã (Â 0) (Ä 0)) (Ä 1)))))
 (æ (ü 4 (Ċ Ą (È û (Â 2) (È Ő (È ã (Â 1) (Ä 0)) (È ã (È ã (Â 0) (Ä 0)) (Ä 0)))) (È û (Â 3) (È Ő (È ã (Â 1) (Ä 1)) (È ã (È ã (Â 0) (Ä 0)) (Ä 1))))))
 (Ď (϶ (Ç (È Ő (á (Ċ Ą (È û (Â 2) (Â 2)) (È û (Â 3) (Â 3)))) (Â 4)) (Ç (ê 4) â)))))))
def C6:MF:=Ğ 2 5 GO
def wa:M Fl:=(æ (ü 4 (ç C6 (ô (á (ĳ [0] 1 (ń 3) (gN 1) Ě (È ã (Â 0) (Â 1)))) (É 1 Þ))))
 (bq (cK (á (ç tz (É 4 Þ))))
 (Ď (ç lE (É 4 (É 3 (É 2 Þ)))))
 bF))
def wb:M Fl:=(æ (ü 4 (ç J6 (ô (á (ĳ [0] 1 (ń 3) (gN 1) Ě (È ã (Â 0) (Â 1)))) (É 1 Þ))))
 (bq (cK (á (ç tz (É 4 Þ))))
 (Ď (ç lE (É 4 (É 3 (É 2 Þ)))))
 bF))
def wc:M Fl:=(æ (ü 2 (Ń (ar aZ (Ç (Â 0) â))))
 (æ (br (ϡ (á (ç C5 (É 2 Þ)))) (gN 3) wb)
 (æ (br (ϡ (á (ç yI (É 2 Þ)))) (gN 3) wa)
 (Ď (ç lE (ô (á (϶ (Ç (Ä 1) â))) (ô (á (϶ (Ç (Ä 0) â))) (É 2 Þ))))))))
def tD:MF:=Ğ 2 5 wc
def Au:M Fl:=(æ (ü 2 (ç yH (É 0 (É 1 Þ))))
 (æ (bq (aN (È my (Â 2) (mC .non)))
 (Ď (Ń (ķ (Ç (mC (.str "in")) (Ç (á (ç tD (É 0 (É 1 Þ)))) â)))))
 bF)
 (Ď (Ń (ķ (Ç (mC (.str "out")) (Ç (ê 2) â)))))))
def yJ:MF:=Ğ 2 3 Au
def GP:M Fl:=(Ď (Ń (ķ (Ç (á (Ċ Ą (È û (È ã (Â 1) (Ä 2)) (È ã (Â 0) (Ä 0))) (È û (È ã (Â 1) (Ä 0)) (È ã (Â 0) (Ä 2))))) (Ç (á (Ċ Ą (È û (È ã (Â 1) (Ä 2)) (È ã (Â 0) (Ä 1))) (È û (È ã (Â 1) (Ä 1)) (È ã (Â 0) (Ä 2))))) â)))))
def qV:MF:=Ğ 2 2 GP
def GQ:M Fl:=(Ď (϶ (Ç (ķ (Ç (ê 0) (Ç (ê 1) (Ç (ê 4) â)))) (Ç (ķ (Ç (ê 2) (Ç (ê 1) (Ç (ê 4) â)))) (Ç (ķ (Ç (ê 2) (Ç (ê 3) (Ç (ê 4) â)))) (Ç (ķ (Ç (ê 0) (Ç (ê 3) (Ç (ê 4) â)))) â))))))
def tE:MF:=Ğ 5 5 GQ
def GR:M Fl:=(Ď (Ċ Ą (á (ç tE (É 0 (É 1 (É 2 (É 3 (ô (Ä 0) Þ))))))) (á (ç tE (É 0 (É 1 (É 2 (É 3 (É 4 Þ)))))))))
def yK:MF:=Ğ 5 5 GR
def GS:M Fl:=(æ (ü 1 (Ń (È û (Ä 2) (È ã (gB (bK ["Thing","Post","Fence","Sail","Cloth","House"] "numbers") (Â 0)) (Ä 0)))))
 (æ (ü 2 (Ń (È û (Ä 2) (È ã (gB (bK ["Thing","Post","Fence","Sail","Cloth","House"] "numbers") (Â 0)) (Ä 1)))))
 (Ď (ç yK (ô (È Ő (Â 1) (Ä 1)) (ô (È Ő (Â 2) (Ä 1)) (ô (á (Ċ Ą (Â 1) (Ä 1))) (ô (á (Ċ Ą (Â 2) (Ä 1))) (ô (È ã (gB (bK ["Thing","Post","Fence","Sail","Cloth","House"] "numbers") (Â 0)) (Ä 2)) Þ)))))))))
def nC:MF:=Ğ 1 3 GS
def GU:M Fl:=(æ (ü 1 (Ń (gB (bK ["Thing","Post","Fence","Sail","Cloth","House"] "numbers") (Â 0))))
 (æ (ü 2 (Ń (ķ (Ç (È ã (Â 1) (Ä 0)) (Ç (È ã (Â 1) (Ä 1)) â)))))
 (æ (ü 3 (Ń (ķ (Ç (È ã (Â 1) (Ä 2)) (Ç (È ã (Â 1) (Ä 3)) â)))))
 (Ď (϶ (Ç (á (Ċ Ą (Â 2) (ķ (Ç (Ä 0) â)))) (Ç (á (Ċ Ą (Â 3) (ķ (Ç (Ä 0) â)))) (Ç (á (Ċ Ą (Â 3) (ķ (Ç (È ã (Â 1) (Ä 4)) â)))) (Ç (á (Ċ Ą (Â 2) (ķ (Ç (È ã (Â 1) (Ä 4)) â)))) â)))))))))
def nD:MF:=Ğ 1 4 GU
def GV:M Fl:=(æ (ü 1 (Ń (gB (bK ["Thing","Post","Fence","Sail","Cloth","House"] "numbers") (Â 0))))
 (Ď (ç tE (ô (È ã (Â 1) (Ä 0)) (ô (È ã (Â 1) (Ä 1)) (ô (È ã (Â 1) (Ä 2)) (ô (È ã (Â 1) (Ä 3)) (ô (È ã (Â 1) (Ä 4)) Þ))))))))
def nE:MF:=Ğ 1 2 GV
def GW:M Fl:=(Ď (ĳ [0] 1 (ϡ (ķ (Ç (Ä 0) (Ç (Ä 3) (Ç (Ä 6) â))))) (gN 1) Ě (ar qw (Ç (á (Cz (gB (bK ["Thing","Post","Fence","Sail","Cloth","House"] "numbers") (Â 0)) (mP (ê 1)) (mP (á (Ċ Ą (Â 1) (Ä 3)))))) â))))
def nF:MF:=Ğ 1 1 GW
def GX:M Fl:=(æ (ü 1 (Ń (gB (bK ["Thing","Post","Fence","Sail","Cloth","House"] "numbers") (Â 0))))
 (Ď (ç yK (ô (È ã (Â 1) (Ä 0)) (ô (È ã (Â 1) (Ä 1)) (ô (È ã (Â 1) (Ä 2)) (ô (È ã (Â 1) (Ä 3)) (ô (È ã (Â 1) (Ä 4)) Þ))))))))
def nG:MF:=Ğ 1 2 GX
def GY:M Fl:=(Ď (ĳ [1] 1 (Gh (ϡ (á (qz "corners" [("Post",nC),("Fence",nD),("Sail",nE),("Cloth",nF),("House",nG)] (ê 0) Þ)))) (gN 1) Ě (á (ç qV (É 1 (É 0 Þ))))))
def C7:MF:=Ğ 2 2 GY
def GZ:M Fl:=(Ď (ç qV (ô (ķ (Ç (È û (Ä 2) (È ã (Â 0) (Ä 0))) (Ç (È û (Ä 2) (È ã (Â 0) (Ä 1))) (Ç (Ä 0) â)))) (É 1 Þ))))
def C8:MF:=Ğ 2 2 GZ
def G_:M Fl:=(Ď (ç yJ (ô (á (ç C7 (É 0 (É 2 Þ)))) (ô (á (ç C8 (É 1 (É 2 Þ)))) Þ))))
def C9:MF:=Ğ 3 3 G_
def Av:M Fl:=(Ď (Ń (È Ş (È ã (á (ç C9 (É 0 (É 1 (É 2 Þ))))) (Ä 0)) (mC (.str "in")))))
def tF:MF:=Ğ 3 3 Av
def we:M Fl:=(bq (cK (á (ç tF (É 3 (É 2 (É 1 Þ))))))
 (Ď (Ń (mC (.bl true))))
 bF)
def wf:M Fl:=(æ (bq (aN (È my (Â 1) (mC .non)))
 (Ď (Ń (mC (.bl true))))
 bF)
 (æ (br (ϡ (gB (bK ["Yard"] "things") (Â 0))) (gN 3) we)
 (Ď (Ń (mC (.bl false))))))
def lF:MF:=Ğ 3 4 wf
def wg:M Fl:=(lf 2 (á (ĳ [0,1] 1 (Gh (ϡ (á (ç yC (É 0 (É 3 Þ)))))) (gN 2) Ě (á (ç lF (É 0 (É 2 (É 1 Þ))))))))
def G0:M Fl:=(æ (ü 2 (϶ â))
 (æ (br (Œ ϑ (Ç (ar aZ (Ç (gB (bK ["Yard"] "days") (Â 0)) â)) â)) (gN 3) wg)
 (Ď (bp 2))))
def Db:MF:=Ğ 2 4 G0
def qW:M Fl:=(bq (cK (Â 3))
 (CQ 1 (È xK (Ä 1) (Â 2)))
 bF)
def G1:M Fl:=(æ (ü 1 (Ń (Ä 0)))
 (æ (br (yc (F7 0)) (gT 2 (è (gN 2) (è (gN 3) ň))) qW)
 (Ď (bp 1))))
def Dc:MF:=Ğ 1 4 G1
def G2:M Fl:=(Ď (Ń (ķ (Ç (È ć (Â 0) (Â 1)) (Ç (È Ļ (Â 0) (Â 1)) â)))))
def yL:MF:=Ğ 2 2 G2
def G3:M Fl:=(æ (ü 3 (ç Db (É 0 (ô (á (ç yL (É 1 (ô (gB (bK ["Yard"] "width") (Â 0)) Þ)))) Þ))))
 (Ď (ç Dc (ô (á (ĳ [3] 3 (ń 2) (gT 3 (è (gN 1) (è (gN 2) (è (gN 3) ň)))) Ě (È bv (È ã (È ã (Â 0) (Â 1)) (Â 2)) (È ã (È ã (Â 0) (Â 1)) (Â 3))))) Þ))))
def yM:MF:=Ğ 3 4 G3
def wj:M Fl:=(æ (KG (á (ç tm (É 0 (É 1 Þ)))))
 (æ (ü 2 (ç J4 (É 0 Þ)))
 (æ (ü 3 (ĳ [0,2] 1 (ń 1) (gN 2) Ě (á (ç yM (É 0 (É 2 (É 1 Þ)))))))
 (æ (ü 4 (qJ yG [~~~0] (ô (á (ĳ [] 1 (ń 1) (gN 0) Ě (Ä 1))) (É 3 (ô (ar aZ (Ç (Â 2) â)) Þ)))))
 (æ (bq (nv 4 (aN (È Ş (È ã (Â 4) (Ä 0)) (mC (.str "none")))))
 (Ď (Ċ Ą (ķ (Ç (mC (.str "alike")) â)) (È ã (Â 2) (È ã (Â 4) (Ä 1)))))
 bF)
 (Ď (vR 4)))))))
def ia:MF:=Ğ 2 5 wj
def G4:M Fl:=(æ (ü 0 (Ċ Ą (á (Ċ Ą (È ć (Â 0) (Ä 1073741789)) (È û (Ä 3) (Â 1)))) (Ä 1)))
 (æ (mq (gS 2 (è (gN 2) (è (gN 3) ň))) (ar ll (Ç (á (Ċ Ą (È û (Â 0) (Ä 40009)) (È û (Â 1) (Ä 5501)))) (Ç (Ä 32749) â))))
 (Ď (Ń (È ć (á (Ċ Ą (á (Ċ Ą (È û (Â 2) (Â 2)) (È û (Â 3) (á (Ċ Ą (Â 3) (Ä 613)))))) (Â 1))) (Ä 1500450271))))))
def yN:MF:=Ğ 2 4 G4
def mR:M Fl:=(bq (aN (È Ş (Â 2) (Ä 0)))
 (æ (lf 3 (È ć (Â 0) (È cU (Ä 10) (Ä 6))))
 (ü 0 (Ń (È Ļ (Â 0) (È cU (Ä 10) (Ä 6))))))
 (lf 3 (á (ç yN (ô (á (Ċ Ą (á (ç yN (É 0 (É 4 Þ)))) (Â 0))) (É 4 Þ))))))
def G5:M Fl:=(æ (ü 2 (Ń (È ć (Â 0) (Ä 2))))
 (æ (ü 0 (Ń (È ć (È Ļ (Â 0) (Ä 2)) (È û (È û (È cU (Ä 10) (Ä 60)) (È cU (Ä 10) (Ä 60))) (È cU (Ä 10) (Ä 60))))))
 (æ (ü 3 (϶ â))
 (æ (br (Œ ϑ (Ç (ê 1) â)) (gN 4) mR)
 (Ď (bp 3))))))
def Dd:MF:=Ğ 2 5 G5
def qX:M Fl:=(bq (aN (È Ş (È ć (Â 3) (Ä 8)) (Ä 7)))
 (lf 2 (mC .non))
 (lf 2 (ķ (Ç (È Ő (È ć (È Ļ (Â 3) (Ä 8)) (Ä 7)) (Ä 3)) (Ç (È Ő (È ć (È Ļ (Â 3) (Ä 56)) (Ä 7)) (Ä 3)) (Ç (á (Ċ Ą (Ä 1) (È ć (È Ļ (Â 3) (Ä 392)) (Ä 3)))) â))))))
def G6:M Fl:=(æ (ü 2 (϶ â))
 (æ (br (ϡ (á (ç Dd (É 0 (É 1 Þ))))) (gN 3) qX)
 (Ď (bp 2))))
def De:MF:=Ğ 2 4 G6
def G7:M Fl:=(æ (bq (zL (le (cK (ar (į Z3 Z4 Z5 Z6) (Ç (Â 0) (Ç (mC (.cls "YardError")) â))))) (le (cK (ar (į Z3 Z4 Z5 Z6) (Ç (Â 0) (Ç (mC (.ty "ValueError")) â))))))
 (Ď (Ń (mC (.bl false))))
 bF)
 (æ (ü 2 (϶ (Ç (ar (į Z3 Z4 Z5 Z6) (Ç (Â 0) (Ç (mC (.cls "NoNumber")) â))) (Ç (ar (į Z3 Z4 Z5 Z6) (Ç (Â 0) (Ç (mC (.cls "BadThing")) â))) (Ç (ar (į Z3 Z4 Z5 Z6) (Ç (Â 0) (Ç (mC (.cls "NoTurn")) â))) (Ç (ar (į Z3 Z4 Z5 Z6) (Ç (Â 0) (Ç (mC (.cls "BadRow")) â))) â))))))
 (æ (bq (aN (È (OK false) (mC (.bl true)) (á (Ċ Ą (Â 2) (á (϶ (Ç (ar (į Z3 Z4 Z5 Z6) (Ç (Â 0) (Ç (mC (.cls "NoRow")) â))) (Ç (ar (į Z3 Z4 Z5 Z6) (Ç (Â 0) (Ç (mC (.cls "NoDay")) â))) â))))))))
 (Ď (Ń (mC (.bl false))))
 bF)
 (Ď (Ń (ci (ar (į Z3 Z4 Z5 Z6) (Ç (gB (qC ["NoStone"] "stone") (ê 0)) (Ç (mC (.ty "int")) â))) (ci (Jq (ar (į Z3 Z4 Z5 Z6) (Ç (gB (qC ["NoStone"] "stone") (ê 0)) (Ç (mC (.ty "bool")) â)))) (È Ş (gB (qC ["NoStone"] "stone") (ê 0)) (Â 1)))))))))
def tH:MF:=Ğ 2 3 G7
def qY:M Fl:=(lf 4 (á (ç De (ô (á (ç aU (É 0 (ô (á (Ċ Ą (Ä 5) (Â 5))) Þ)))) (ô (á (Ċ Ą (Ä 1) (È ć (È Ļ (È Ļ (Â 1) (Ä 125)) (á (Ċ Ą (Â 5) (Ä 1)))) (Ä 4)))) Þ)))))
def Aw:M Fl:=(æ (ü 1 (Ń (È ć (á (ç aU (É 0 (ô (Ä 0) Þ)))) (È cU (Ä 10) (Ä 9)))))
 (æ (ü 2 (Ń (ķ (Ç (á (Ċ Ą (Ä 1) (È ć (Â 1) (Ä 5)))) (Ç (á (Ċ Ą (Ä 1) (È ć (È Ļ (Â 1) (Ä 5)) (Ä 5)))) â)))))
 (æ (ü 3 (ç yu (É 0 (ô (Ä 1) (ô (È ć (È Ļ (Â 1) (Ä 25)) (Ä 5)) Þ)))))
 (æ (ü 4 (϶ â))
 (æ (br (Œ ϑ (Ç (á (Ċ Ą (Ä 1) (È ć (È Ļ (Â 1) (Ä 3000)) (Ä 3)))) â)) (gN 5) qY)
 (æ (bq (aN (È Ş (È ć (È Ļ (Â 1) (Ä 3888000)) (Ä 16)) (Ä 9)))
 (ü 4 (϶ â))
 bF)
 (æ (ü 6 (ĳ [0,2] 1 (Œ ϑ (Ç (È ć (È Ļ (Â 1) (Ä 9000)) (Ä 6)) â)) (gN 2) Ě (È ć (á (ç aU (É 0 (ô (á (Ċ Ą (Ä 8) (Â 2))) Þ)))) (È û (È ã (Â 1) (Ä 0)) (È ã (Â 1) (Ä 1))))))
 (æ (bq (gR (aN (È Ş (È ć (È Ļ (Â 1) (Ä 108000)) (Ä 8)) (Ä 3))) (aN (È Ş (ar aZ (Ç (Â 4) â)) (Ä 1))))
 (æ (ü 6 (Cz (á (Ċ Ą (Â 6) (á (϶ (Ç (Ä 0) (Ç (Ä 1) (Ç (Ä 2) (Ç (Ä 3) (Ç (Ä 4) (Ç (Ä 5) (Ç (Ä 6) (Ç (Ä 7) â)))))))))))) qv (mP (Ä 8))))
 (ü 6 (ĳ [2] 1 (ń 6) (gN 1) Ě (È ć (Â 1) (È û (È ã (Â 0) (Ä 0)) (È ã (Â 0) (Ä 1)))))))
 bF)
 (æ (ü 7 (Ń (mC .non)))
 (æ (bq (aN (È Ş (È ć (È Ļ (Â 1) (Ä 54000)) (Ä 6)) (Ä 5)))
 (æ (ü 14 (϶ (Ç (gB aS (Ä 1)) (Ç (È û (È ã (Â 2) (Ä 0)) (È ã (Â 2) (Ä 1))) (Ç (È cU (Ä 10) (Ä 6)) (Ç (gB aS (È cU (Ä 10) (Ä 6))) (Ç (gB aS (Ä 2)) (Ç (á (Ċ Ą (È û (È ã (Â 2) (Ä 0)) (È ã (Â 2) (Ä 1))) (Ä 1))) â))))))))
 (æ (ü 7 (Ń (È ã (Â 14) (È ć (È Ļ (Â 1) (Ä 324000)) (Ä 6)))))
 (æ (ü 6 (Cz (Â 6) qv (mP (Ä 6))))
 (æ (ü 15 (Ń (È ć (á (ç aU (É 0 (ô (Ä 13) Þ)))) (á (Ċ Ą (ar aZ (Ç (Â 6) â)) (Ä 1))))))
 (æ (ü 16 (Fw (Ç (È ã (Â 14) (È ć (á (ç aU (É 0 (ô (Ä 14) Þ)))) (Ä 6))) â) (È ć (È Ļ (Â 1) (Ä 1944000)) (Ä 2))))
 (ü 6 (Ċ Ą (á (Ċ Ą (á (Ċ Ą (á (Cz (Â 6) qv (mP (ê 15)))) (á (϶ (Ç (ê 7) â))))) (á (Cz (Â 6) (mP (ê 15)) qv)))) (Â 16))))))))
 bF)
 (æ (ü 8 (ç yB (É 2 (É 3 (É 4 Þ)))))
 (æ (ü 9 (jG cj (Ç (Â 6) â)))
 (æ (ü 10 (Ń (mC .non)))
 (æ (ü 11 (Ń (mC .non)))
 (æ (zW (ü 11 (ç ia (É 8 (É 9 Þ)))) (jd 12 ["NoStone"] ["YardError","NoNumber","BadThing","NoTurn","BadRow","NoRow","NoDay"] (ü 10 (Ń (ê 12))) qB))
 (æ (bq (aN (È bv (Â 9) (Â 6)))
 (Ď (Ń (mC (.bl false))))
 bF)
 (æ (bq (aN (È bX (Â 7) (mC .non)))
 (Ď (Ń (ci (È bX (Â 10) (mC .non)) (á (ç tH (É 10 (É 7 Þ)))))))
 bF)
 (æ (ü 13 (ç tj (É 2 (É 3 (É 4 (É 6 Þ))))))
 (æ (bq (nv 11 (zL (aN (È bX (Â 10) (mC .non))) (le (cK (á (ç lB (É 11 (É 13 Þ))))))))
 (Ď (Ń (mC (.bl false))))
 bF)
 (æ (bq (nv 11 (aN (È Ş (È ã (Â 11) (Ä 0)) (mC (.str "choice")))))
 (CU 11 3 (mC .non))
 bF)
 (Ď (ç lB (ô (á (ç ia (É 8 (É 6 Þ)))) (É 13 Þ))))))))))))))))))))))))
def qZ:MF:=Ğ 1 17 Aw
set_option genInjectivity false
set_option genSizeOf false
set_option genInjectivity false in
set_option genSizeOf false in
structure wl where
 {Mi Mj G8 Ml Mm Mn nR Mo Mp VD VE Mq Mr Ms Mt Mu Mv G9 Mw Mx yO Mz MA VF MB Ha MC MD ME MG MJ MK ML MM MN MO MP MQ VG MR MS MT VH MU MV MW MX MY MZ M_ Hb Hd He Hf Hg M0 M1 M6 M7 M8 M9 Na Nb Nc Nd Nf Ng Nh Ni Nj QX VI VJ VL nH q_ re mS rg rh Dg wo Ax wp Ay wr Az wu wv:À}
 {Nk Nl Nm Nn No Np D3 Nq Nr VM VN Nt Nu Nv Nw Nx Ny Hh Nz NA yP NB NC VO ND NE NF NG NH NI NJ NK NL NM NN NO NP NQ VP NR NT NU VQ NV NW NX NY NZ N_ N1 N2 N3 N4 N5 N6 N7 N8 N9 Oa Ob Oc Od Oe Of Og Oh Oi Oj Ol Hi VR Za7 Za8 Za9:ě}
 {su ww:Tok}
def đ(a:wl):String->À:=cmB a.nH a.q_ a.re a.mS a.rg a.rh a.Dg a.wo a.Ax a.wp a.Ay a.wr a.Az a.wu a.wv
set_option genInjectivity false in
set_option genSizeOf false in
structure Tx(K:Ñ)(mg:Str->Option Á)(a:wl):Prop where
 yQ:mg "YardError" =some (.ref a.nH)
 AA:mg "NoNumber" =some (.ref a.q_)
 AB:mg "BadThing" =some (.ref a.re)
 D4:mg "NoStone" =some (.ref a.mS)
 Hj:mg "NoTurn" =some (.ref a.rg)
 Hk:mg "BadRow" =some (.ref a.rh)
 J7:mg "NoRow" =some (.ref a.Dg)
 J8:mg "NoDay" =some (.ref a.wo)
 QY:mg "Yard" =some (.ref a.Ax)
 XI:mg "Thing" =some (.ref a.wp)
 QZ:mg "Post" =some (.ref a.Ay)
 J9:mg "Fence" =some (.ref a.wr)
 Q_:mg "Sail" =some (.ref a.Az)
 Ka:mg "Cloth" =some (.ref a.wu)
 Kb:mg "House" =some (.ref a.wv)
 af:Df K mg "_law_cell" K2 ["_law_script","_law_at"] a.Mi a.Nk
 lG:Df K mg "_law_boxes" K3 ["_law_script","_law_at","_law_many"] a.Mj a.Nl
 gn:Dm K a.Ax "__init__" "Yard.__init__" K4 ["self","width","height","things","days"] a.G8 a.Nm
 bL:Df K mg "is_place" K5 ["number"] a.Ml a.Nn
 ib:Df K mg "is_height" K6 ["number"] a.Mm a.No
 lH:Df K mg "makes_post" K7 ["numbers"] a.Mn a.Np
 Ī:Dm K a.wp "__init__" "Thing.__init__" Vv ["self","word","numbers"] a.nR a.D3
 cX:Df K mg "has_two_ends" K8 ["numbers"] a.Mo a.Nq
 jy:Df K mg "makes_fence" K9 ["numbers"] a.Mp a.Nr
 ϣ:Df K mg "makes_sail_or_house" Vw ["numbers"] a.VD a.VM
 dU:Df K mg "is_cloth_corner" Vx ["numbers"] a.VE a.VN
 jz:Df K mg "makes_cloth" La ["numbers"] a.Mq a.Nt
 rj:Df K mg "thing_of" Lb ["word","numbers"] a.Mr a.Nu
 nI:Df K mg "_law_yard" Lc ["_law_sides","_law_things","_law_days"] a.Ms a.Nv
 lI:Df K mg "_law_pairs" Ld ["_law_days"] a.Mt a.Nw
 lJ:Df K mg "_law_least" Le ["_law_met","_law_many"] a.Mu a.Nx
 aB:Df K mg "_law_bounds" Lf ["_law_low","_law_high","_law_slope","_law_c","_law_least_here","_law_most"] a.Mv a.Ny
 Ϡ:Df K mg "_law_shaded" Lg ["_law_word","_law_numbers","_law_stone","_law_ray"] a.G9 a.Hh
 jA:Df K mg "_law_is_lit" Li ["_law_things","_law_stone","_law_ray"] a.Mw a.Nz
 rk:Df K mg "_law_due" Lj ["_law_sides","_law_things","_law_days","_law_numbers"] a.Mx a.NA
 aV:Df K mg "_law_same" Lk ["_law_found","_law_due_here"] a.yO a.yP
 gp:Df K mg "check_numbers" Ll ["yard","numbers"] a.Mz a.NB
 jM:Df K mg "turns_of" Lm ["yard","day"] a.MA a.NC
 eU:Df K mg "pairs_of_turns" Vy ["yard"] a.VF a.VO
 lK:Df K mg "chosen" Lo ["values","choice"] a.MB a.ND
 rm:Df K mg "cheapest" Gs ["prices","choices"] a.Ha a.NE
 gq:Df K mg "least_missing" Lp ["met","many"] a.MC a.NF
 yR:Df K mg "met_by" Lq ["covers","choice","base"] a.MD a.NG
 bC:Dp K mg "least_choice" Lr ["prices","covers","many","base"] 0 a.ME a.NH
 nJ:Df K mg "box_lines" Ls ["points"] a.MG a.NI
 nK:Df K mg "each_once" Lu ["points"] a.MJ a.NJ
 ie:Df K mg "line_through" Lv ["one","other"] a.MK a.NK
 wx:Df K mg "holds" Lw ["line","pair"] a.ML a.NL
 lL:Df K mg "edge_lines" Lx ["points"] a.MM a.NM
 jB:Df K mg "lines_about" Ly ["points"] a.MN a.NN
 ig:Df K mg "parting_line" Lz ["points","point"] a.MO a.NO
 ek:Df K mg "pairs_below" LA ["many"] a.MP a.NP
 gt:Df K mg "triples_below" LB ["many"] a.MQ a.NQ
 cY:Df K mg "greatest_divisor" Vz ["one","other"] a.VG a.VP
 wy:Df K mg "ratio" LC ["top","bottom"] a.MR a.NR
 lM:Df K mg "spread" LD ["shares","places","many"] a.MS a.NT
 lN:Df K mg "turned" LF ["one","other","third"] a.MT a.NU
 dW:Df K mg "shares_of_three" VA ["corners","point"] a.VH a.VQ
 eo:Df K mg "are_weights" LG ["shares"] a.MU a.NV
 gu:Df K mg "shares_of_two" LH ["ends","point"] a.MV a.NW
 lO:Df K mg "weights_of" LI ["points","point"] a.MW a.NX
 Hl:Df K mg "held" LJ ["points","point"] a.MX a.NY
 AC:Df K mg "cast" LK ["point","ray"] a.MY a.NZ
 aK:Df K mg "level_corners" LL ["x","y","u","v","z"] a.MZ a.N_
 cr:Df K mg "block_corners" LM ["x","y","u","v","h"] a.M_ a.N1
 ii:Dm K a.Ay "corners" "Post.corners" LN ["self"] a.Hb a.N2
 gv:Dm K a.wr "corners" "Fence.corners" LO ["self"] a.Hd a.N3
 ij:Dm K a.Az "corners" "Sail.corners" LP ["self"] a.He a.N4
 gw:Dm K a.wu "corners" "Cloth.corners" LQ ["self"] a.Hf a.N5
 gx:Dm K a.wv "corners" "House.corners" LR ["self"] a.Hg a.N6
 ik:Df K mg "corner_casts" LS ["thing","ray"] a.M0 a.N7
 lP:Df K mg "stone_cast" LU ["stone","ray"] a.M1 a.N8
 tJ:Df K mg "shading" LW ["thing","stone","ray"] a.M6 a.N9
 yS:Df K mg "shades" LX ["thing","stone","ray"] a.M7 a.Oa
 tK:Df K mg "is_dark" LY ["yard","turn","stone"] a.M8 a.Ob
 im:Df K mg "darks_by_day" LZ ["yard","stone"] a.M9 a.Oc
 jC:Df K mg "set_of_true" L_ ["truths"] a.Na a.Od
 rn:Df K mg "stone_at" L5 ["number","width"] a.Nb a.Oe
 gy:Df K mg "told_apart_by" L6 ["yard","number","pairs"] a.Nc a.Of
 wz:Df K mg "watch" L7 ["yard","numbers"] a.Nd a.Og
 fY:Df K mg "_law_churn" L8 ["_law_number","_law_k"] a.Nf a.Oh
 rz:Df K mg "_law_row" L9 ["_law_cell_here","_law_many"] a.Ng a.Oi
 rC:Df K mg "_law_sky" Ma ["_law_cell_here","_law_many"] a.Nh a.Oj
 io:Df K mg "_law_refused" Mb ["_law_e","_law_number"] a.Ni a.Ol
 Hm:Df K mg "law" Mc ["_law_script"] a.Nj a.Hi
 cZ:Dm K a.mS "__init__" "NoStone.__init__" VB ["self","stone"] a.QX a.VR
 Dh:Dm K a.rg "__init__" "NoTurn.__init__" Za4 ["self","day","turn"] a.VI a.Za7
 Di:Dm K a.rh "__init__" "BadRow.__init__" Za5 ["self","row"] a.VJ a.Za8
 D5:Dm K a.wo "__init__" "NoDay.__init__" Za6 ["self","name"] a.VL a.Za9
 jD:mg "MOST_HEIGHT" =some (.int (1000000000) a.su)
 lQ:mg "MOST_PLACE" =some (.int (1000000000) a.ww)
 wA:mg "ValueError" =none
 VS:mg "abs" =none
 yT:mg "all" =none
 Om:mg "any" =none
 Hn:mg "bool" =none
 Ho:mg "divmod" =none
 ip:mg "enumerate" =none
 On:mg "int" =none
 č:mg "isinstance" =none
 ax:mg "len" =none
 bM:mg "list" =none
 Oo:mg "max" =none
 Hq:mg "min" =none
 ŕ:mg "range" =none
 Op:mg "str" =none
 yU:mg "sum" =none
 pY:mg "tuple" =none
 Oq:mg "zip" =none
 Ot:fB K (đ a "YardError") CJ Qx=true
 Ou:Ť K (.ref (đ a "YardError"))=true
 Ov:aa K (đ a "YardError")=true
 AD:fB K (đ a "NoNumber") CJ Qx=true
 Q0:Ť K (.ref (đ a "NoNumber"))=true
 Q1:aa K (đ a "NoNumber")=true
 AE:fB K (đ a "BadThing") CJ Qx=true
 Q2:Ť K (.ref (đ a "BadThing"))=true
 Q3:aa K (đ a "BadThing")=true
 D6:QD K (đ a "NoStone") a.QX
 jj:aa K (đ a "NoStone")=true
 aL:ė K (đ a "NoStone") "stone"
 VT:QD K (đ a "NoTurn") a.VI
 VU:aa K (đ a "NoTurn")=true
 Kc:ė K (đ a "NoTurn") "day"
 Iu:ė K (đ a "NoTurn") "turn"
 VV:QD K (đ a "BadRow") a.VJ
 VW:aa K (đ a "BadRow")=true
 Kd:ė K (đ a "BadRow") "row"
 XJ:fB K (đ a "NoRow") CJ Qx=true
 XM:Ť K (.ref (đ a "NoRow"))=true
 XN:aa K (đ a "NoRow")=true
 XO:QD K (đ a "NoDay") a.VL
 XQ:aa K (đ a "NoDay")=true
 Ke:ė K (đ a "NoDay") "name"
 wB:nL K (đ a "Yard")
 Q4:Mk K (đ a "Yard") a.G8
 wC:ė K (đ a "Yard") "width"
 sv:ė K (đ a "Yard") "height"
 sw:ė K (đ a "Yard") "things"
 yV:ė K (đ a "Yard") "days"
 Dj:nL K (đ a "Thing")
 XR:Mk K (đ a "Thing") a.nR
 wD:ė K (đ a "Thing") "word"
 nS:ė K (đ a "Thing") "numbers"
 AF:nL K (đ a "Post")
 Q5:Mk K (đ a "Post") a.nR
 yW:ė K (đ a "Post") "word"
 rD:ė K (đ a "Post") "numbers"
 rE:wU K (đ a "Post") "corners" a.Hb
 wE:nL K (đ a "Fence")
 Kf:Mk K (đ a "Fence") a.nR
 wF:ė K (đ a "Fence") "word"
 nU:ė K (đ a "Fence") "numbers"
 nW:wU K (đ a "Fence") "corners" a.Hd
 AG:nL K (đ a "Sail")
 Q6:Mk K (đ a "Sail") a.nR
 yX:ė K (đ a "Sail") "word"
 rG:ė K (đ a "Sail") "numbers"
 rH:wU K (đ a "Sail") "corners" a.He
 wG:nL K (đ a "Cloth")
 Kg:Mk K (đ a "Cloth") a.nR
 wH:ė K (đ a "Cloth") "word"
 nX:ė K (đ a "Cloth") "numbers"
 nY:wU K (đ a "Cloth") "corners" a.Hf
 wI:nL K (đ a "House")
 Kh:Mk K (đ a "House") a.nR
 wJ:ė K (đ a "House") "word"
 nZ:ė K (đ a "House") "numbers"
 n_:wU K (đ a "House") "corners" a.Hg
 AH:QU K "cheapest" a.Ha=true
 D7:dG K (đ a "NoStone") (.type "BaseException")=some true
 AI:cV (λc=>fC K (.ref (đ a c)) (.ref (đ a "NoStone"))=some true) ["NoStone"]
 AJ:cV (λc=>fC K (.ref (đ a c)) (.ref (đ a "NoStone"))=some false) ["YardError","NoNumber","BadThing","NoTurn","BadRow","NoRow","NoDay"]
 iC:vG (λC D b=>dR K (đ a C)=true/\ō K (.ref (đ a C)) (.ref (đ a D))=some b) Z3
 iT:vG (λC D b=>dR K (đ a C)=true/\ō K (.ref (đ a C)) (.type D)=some b) Z4
 iD:cV (λD=>ō K (.type "NoneType") (.ref (đ a D))=some false) Z5
 iN:cV (λD=>ō K (.type "NoneType") (.type D)=some false) Z6
def Z17{K:Ñ}{mg:Str->Option Á}{a:wl}(T:Tx K mg a):mg "YardError" =some (.ref (đ a "YardError")):=T.yQ
def Z0o{K:Ñ}{mg:Str->Option Á}{a:wl}(T:Tx K mg a):mg "NoNumber" =some (.ref (đ a "NoNumber")):=T.AA
def Z0p{K:Ñ}{mg:Str->Option Á}{a:wl}(T:Tx K mg a):mg "BadThing" =some (.ref (đ a "BadThing")):=T.AB
def Z0C{K:Ñ}{mg:Str->Option Á}{a:wl}(T:Tx K mg a):mg "NoStone" =some (.ref (đ a "NoStone")):=T.D4
def Z2g{K:Ñ}{mg:Str->Option Á}{a:wl}(T:Tx K mg a):mg "NoTurn" =some (.ref (đ a "NoTurn")):=T.Hj
def Z2h{K:Ñ}{mg:Str->Option Á}{a:wl}(T:Tx K mg a):mg "BadRow" =some (.ref (đ a "BadRow")):=T.Hk
def Z2V{K:Ñ}{mg:Str->Option Á}{a:wl}(T:Tx K mg a):mg "NoRow" =some (.ref (đ a "NoRow")):=T.J7
def Z2W{K:Ñ}{mg:Str->Option Á}{a:wl}(T:Tx K mg a):mg "NoDay" =some (.ref (đ a "NoDay")):=T.J8
def Z3U{K:Ñ}{mg:Str->Option Á}{a:wl}(T:Tx K mg a):mg "Yard" =some (.ref (đ a "Yard")):=T.QY
def Z3V{K:Ñ}{mg:Str->Option Á}{a:wl}(T:Tx K mg a):mg "Post" =some (.ref (đ a "Post")):=T.QZ
def Z2X{K:Ñ}{mg:Str->Option Á}{a:wl}(T:Tx K mg a):mg "Fence" =some (.ref (đ a "Fence")):=T.J9
def Z3W{K:Ñ}{mg:Str->Option Á}{a:wl}(T:Tx K mg a):mg "Sail" =some (.ref (đ a "Sail")):=T.Q_
def Z2Y{K:Ñ}{mg:Str->Option Á}{a:wl}(T:Tx K mg a):mg "Cloth" =some (.ref (đ a "Cloth")):=T.Ka
def Z2Z{K:Ñ}{mg:Str->Option Á}{a:wl}(T:Tx K mg a):mg "House" =some (.ref (đ a "House")):=T.Kb
def Q7:à ["_law_script","_law_at"] ["_law_script","_law_at"] (Ô K2):=ac
def iq:à ["_law_script","_law_at","_law_many","_law_things","_law_k","_law_cell_here","_law_x","_law_y","_law_h","_law_word"] ["_law_script","_law_at","_law_many"] (Ô K3):=ac
def Q8:à ["self","width","height","things","days"] ["self","width","height","things","days"] (Ô K4):=ac
def Q9:à ["number"] ["number"] (Ô K5):=ac
def Ra:à ["number"] ["number"] (Ô K6):=ac
def Rb:à ["numbers"] ["numbers"] (Ô K7):=ac
def yY:à ["self","word","numbers"] ["self","word","numbers"] (Ô Vv):=ac
def Rc:à ["numbers"] ["numbers"] (Ô K8):=ac
def Re:à ["numbers"] ["numbers"] (Ô K9):=ac
def VX:à ["numbers"] ["numbers"] (Ô Vw):=ac
def VY:à ["numbers"] ["numbers"] (Ô Vx):=ac
def Rf:à ["numbers"] ["numbers"] (Ô La):=ac
def Rg:à ["word","numbers"] ["word","numbers"] (Ô Lb):=ac
def Hr:à ["_law_sides","_law_things","_law_days","_law_told"] ["_law_sides","_law_things","_law_days"] (Ô Lc):=ac
def wK:à ["_law_days","_law_found","_law_day","_law_t"] ["_law_days"] (Ô Ld):=ac
def fZ:à ["_law_met","_law_many","_law_paper","_law_best","_law_k","_law_left","_law_want","_law_price"] ["_law_met","_law_many"] (Ô Le):=ac
def mV:à ["_law_low","_law_high","_law_slope","_law_c","_law_least_here","_law_most","_law_one","_law_other"] ["_law_low","_law_high","_law_slope","_law_c","_law_least_here","_law_most"] (Ô Lf):=ac
def ĩ:à ["_law_word","_law_numbers","_law_stone","_law_ray","_law_low","_law_high","_law_a","_law_b","_law_c","_law_x","_law_y","_law_u","_law_v","_law_h","_law_p","_law_q"] ["_law_word","_law_numbers","_law_stone","_law_ray"] (Ô Lg):=ac
def Rh:à ["_law_things","_law_stone","_law_ray"] ["_law_things","_law_stone","_law_ray"] (Ô Li):=ac
def ir:à ["_law_sides","_law_things","_law_days","_law_numbers","_law_pairs_here","_law_met","_law_number","_law_stone","_law_lit","_law_best","_law_paper"] ["_law_sides","_law_things","_law_days","_law_numbers"] (Ô Lj):=ac
def Ri:à ["_law_found","_law_due_here"] ["_law_found","_law_due_here"] (Ô Lk):=ac
def Hs:à ["yard","numbers","number"] ["yard","numbers"] (Ô Ll):=ac
def Rj:à ["yard","day"] ["yard","day"] (Ô Lm):=ac
def yZ:à ["yard","pairs","day","many","t"] ["yard"] (Ô Vy):=ac
def Rk:à ["values","choice"] ["values","choice"] (Ô Lo):=ac
def Rl:à ["prices","choices"] ["prices","choices"] (Ô Gs):=ac
def Ht:à ["met","many","want"] ["met","many"] (Ô Lp):=ac
def wL:à ["covers","choice","base","met","cover"] ["covers","choice","base"] (Ô Lq):=ac
def AK:à ["prices","covers","many","base","paper","choice"] ["prices","covers","many","base"] (Ô Lr):=ac
def AL:à ["points","rights","downs"] ["points"] (Ô Ls):=ac
def AM:à ["points","kept","point"] ["points"] (Ô Lu):=ac
def AN:à ["one","other","l","m"] ["one","other"] (Ô Lv):=ac
def Rm:à ["line","pair"] ["line","pair"] (Ô Lw):=ac
def mW:à ["points","lines","apart","one","other","line"] ["points"] (Ô Lx):=ac
def Rn:à ["points"] ["points"] (Ô Ly):=ac
def Hv:à ["points","point","line"] ["points","point"] (Ô Lz):=ac
def AO:à ["many","pairs","second"] ["many"] (Ô LA):=ac
def AQ:à ["many","triples","third"] ["many"] (Ô LB):=ac
def Dk:à ["one","other","rest"] ["one","other"] (Ô Vz):=ac
def AR:à ["top","bottom","divisor"] ["top","bottom"] (Ô LC):=ac
def rJ:à ["shares","places","many","whole","weights","share","place"] ["shares","places","many"] (Ô LD):=ac
def Hw:à ["one","other","third","right"] ["one","other","third"] (Ô LF):=ac
def Dl:à ["corners","point","one","other","third"] ["corners","point"] (Ô VA):=ac
def Hx:à ["shares","whole"] ["shares"] (Ô LG):=ac
def wM:à ["ends","point","right","down","gone"] ["ends","point"] (Ô LH):=ac
def mX:à ["points","point","many","places","shares"] ["points","point"] (Ô LI):=ac
def Hy:à ["points","point","line"] ["points","point"] (Ô LJ):=ac
def Ro:à ["point","ray"] ["point","ray"] (Ô LK):=ac
def Rq:à ["x","y","u","v","z"] ["x","y","u","v","z"] (Ô LL):=ac
def Rr:à ["x","y","u","v","h"] ["x","y","u","v","h"] (Ô LM):=ac
def AS:à ["self","right","down"] ["self"] (Ô LN):=ac
def wN:à ["self","given","one","other"] ["self"] (Ô LO):=ac
def Hz:à ["self","given"] ["self"] (Ô LP):=ac
def Rs:à ["self"] ["self"] (Ô LQ):=ac
def HA:à ["self","given"] ["self"] (Ô LR):=ac
def Rt:à ["thing","ray"] ["thing","ray"] (Ô LS):=ac
def Ru:à ["stone","ray"] ["stone","ray"] (Ô LU):=ac
def Rv:à ["thing","stone","ray"] ["thing","stone","ray"] (Ô LW):=ac
def Rw:à ["thing","stone","ray"] ["thing","stone","ray"] (Ô LX):=ac
def HC:à ["yard","turn","stone","thing"] ["yard","turn","stone"] (Ô LY):=ac
def AT:à ["yard","stone","darks","day"] ["yard","stone"] (Ô LZ):=ac
def rK:à ["truths","bits","number","truth"] ["truths"] (Ô L_):=ac
def Rx:à ["number","width"] ["number","width"] (Ô L5):=ac
def HD:à ["yard","number","pairs","darks"] ["yard","number","pairs"] (Ô L6):=ac
def wO:à ["yard","numbers","pairs","covers","told"] ["yard","numbers"] (Ô L7):=ac
def wP:à ["_law_number","_law_k","_law_high","_law_low"] ["_law_number","_law_k"] (Ô L8):=ac
def mY:à ["_law_cell_here","_law_many","_law_by","_law_found","_law_k"] ["_law_cell_here","_law_many"] (Ô L9):=ac
def AU:à ["_law_cell_here","_law_many","_law_turns","_law_number"] ["_law_cell_here","_law_many"] (Ô Ma):=ac
def HE:à ["_law_e","_law_number","_law_found"] ["_law_e","_law_number"] (Ô Mb):=ac
def Ũ:à ["_law_script","_law_first","_law_sides","_law_things","_law_days","_law_k","_law_numbers","_law_bad","_law_yard_here","_law_handed","_law_refused_here","_law_found","_law_e","_law_due_here","_law_odd","_law_at","_law_more"] ["_law_script"] (Ô Mc):=ac
def VZ:à ["self","stone"] ["self","stone"] (Ô VB):=ac
section
variable{P:î}{w:ß}{K:Ñ}{mg:Str->Option Á}{base:Õ}{a:wl}
seal PE PT PW PA PS fH PG zi PI Ej
def Z04(T:Tx K mg a):cV (λC=>nL K (đ a C)/\ė K (đ a C) "width") ["Yard"]:=⟨⟨T.wB,T.wC⟩,trivial⟩
def Z0q(T:Tx K mg a):cV (λC=>nL K (đ a C)/\ė K (đ a C) "height") ["Yard"]:=⟨⟨T.wB,T.sv⟩,trivial⟩
def Z0r(T:Tx K mg a):cV (λC=>nL K (đ a C)/\ė K (đ a C) "things") ["Yard"]:=⟨⟨T.wB,T.sw⟩,trivial⟩
def ZS(T:Tx K mg a):cV (λC=>nL K (đ a C)/\ė K (đ a C) "days") ["Yard"]:=⟨⟨T.wB,T.yV⟩,trivial⟩
def ZM(T:Tx K mg a):cV (λC=>nL K (đ a C)/\ė K (đ a C) "word") ["Thing","Post","Fence","Sail","Cloth","House"]:=⟨⟨T.Dj,T.wD⟩,⟨⟨T.AF,T.yW⟩,⟨⟨T.wE,T.wF⟩,⟨⟨T.AG,T.yX⟩,⟨⟨T.wG,T.wH⟩,⟨⟨T.wI,T.wJ⟩,trivial⟩⟩⟩⟩⟩⟩
def Zc(T:Tx K mg a):cV (λC=>nL K (đ a C)/\ė K (đ a C) "numbers") ["Thing","Post","Fence","Sail","Cloth","House"]:=⟨⟨T.Dj,T.nS⟩,⟨⟨T.AF,T.rD⟩,⟨⟨T.wE,T.nU⟩,⟨⟨T.AG,T.rG⟩,⟨⟨T.wG,T.nX⟩,⟨⟨T.wI,T.nZ⟩,trivial⟩⟩⟩⟩⟩⟩
def V_(T:Tx K mg a):Ĉ P w K mg base (ż P w) 1 a.QX a.VR ["self","stone"] (U5 2 (đ a "NoStone") [("stone",1)]):=
 fnX T.cZ.F VZ rfl λű A outer s H E=>(JO (U4 T.jj T.aL (pv 0) (pv 1)) QC)
def mZ(T:Tx K mg a):Ĉ P w K mg base (ż P w) 1 a.Mi a.Nk ["_law_script","_law_at"] (ſ ⟨K,đ a⟩ 2 aU):=by refine Ŀ T.af.F Q7 λ_ _ _ _ _ _ _ _=>?_;exact Ü (ũ (az nq ni (Æ 1) (ÿ (ŉ Ÿ Ż T.ax Ŕ (Ú (Æ 0) ù))) (Ľ _)) (Ŗ (Ž (Æ 0) (Æ 1))) Ē) (Ŗ ģ)
def Ry(T:Tx K mg a):Ĉ P w K mg base (ż P w) 2 a.Mj a.Nl ["_law_script","_law_at","_law_many"] (ſ ⟨K,đ a⟩ 3 yu):=by refine Ŀ T.lG.F iq λ_ _ _ _ _ _ hr hu=>?_;exact ğ iq (ŷ í) (Ü (Ϙ ĵ rfl (ŏ rfl T.ŕ (Ë (v_var 2) í)) (ņ iq) (ğ iq (ő (v_mod (ÿ (Ć (Ù (mZ T) T.af hr ā (Ø 0 (ñ (v_add (Æ 1) (Æ 4)) ä))))) (ÿ (aw fT fN Í Í)))) (ğ iq (ő (v_sub (ae (aT (Æ 5) Í) Í) Í)) (ğ iq (ő (v_sub (ae (aT (Æ 5) Í) Í) Í)) (ğ iq (ly Í (ae (aT (Æ 5) Í) Í)) (ă (ũ (eX hu (ae (Æ 5) Í) Í) (ă (PS.wk (Ŷ (ce ύ Ϯ aj ŗ (pv 3) (Ë (ĝ (Ë gc (Ë (Ć (ŷ (Ë (ny (Æ 6) Í) (Ë (ny (Æ 7) Í) (Ë (v_var 8) í))))) í))) í))) λ_ _ _ h=>aJ h)) (ğ iq (ő (Ž (ÿ (Ć (ŷ (Ë gc (Ë gc í))))) (qK (ae (Æ 5) Í) Í))) (ă (PS.wk (Ŷ (ce ύ Ϯ aj ŗ (pv 3) (Ë (ĝ (Ë (v_var 9) (Ë (Ć (ŷ (Ë (v_var 6) (Ë (v_var 7) (Ë (v_add (cW (Æ 6) Í) (ae (aT (Æ 5) Í) Í)) (Ë (v_add (cW (Æ 7) Í) (ae (aT (Æ 5) Í) Í)) (Ë (v_var 8) í))))))) í))) í))) λ_ _ _ h=>aJ h)))))))))) (Ņ (cu 3)))
def HF(T:Tx K mg a):Ĉ P w K mg base (ż P w) 1 a.G8 a.Nm ["self","width","height","things","days"] (Ir ⟨K,đ a⟩ 5 "Yard" pW):=by refine Te (cm:=đ a) (mb:=Af) T.gn.F Q8 rfl rfl rfl λű A outer s H E hr=>?_;have hu:=hr.units;exact Ü (bz ["Yard"] (Z04 T) (pv 0) (v_var 1)) (Ü (bz ["Yard"] (Z0q T) (pv 0) (v_var 2)) (Ü (bz ["Yard"] (Z0r T) (pv 0) (Ć (sr bY bZ T.bM ah (Ú (Æ 3) ù)))) (ă (bz ["Yard"] (ZS T) (pv 0) (Ć (cp (ϐ 4) (jv rfl (ú ž (ú ž (ú ž ź)))) ľ (ĝ (Ë (v_var 0) (Ë (v_var 1) (Ë (Ć (sr bY bZ T.bM ah (Ú (Æ 2) ù))) í))))))))))
def rM(T:Tx K mg a):Ĉ P w K mg base (ż P w) 1 a.Ml a.Nn ["number"] (ſ ⟨K,đ a⟩ 1 nA):=by refine Ŀ T.bL.F Q9 λ_ _ _ _ _ _ _ _=>?_;exact Ŗ (Fk gh gh gb gb (ÿ (lc bu bo (ÿ (lT (.int 1000000000) (bj (v:=.int 1000000000) rfl T.lQ ⟨_,rfl⟩))))) (Æ 0) (ÿ (lT (.int 1000000000) (bj (v:=.int 1000000000) rfl T.lQ ⟨_,rfl⟩))))
def HG(T:Tx K mg a):Ĉ P w K mg base (ż P w) 1 a.Mm a.No ["number"] (ſ ⟨K,đ a⟩ 1 yx):=by refine Ŀ T.ib.F Ra λ_ _ _ _ _ _ _ _=>?_;exact Ŗ (Fk gh gh gb gb Í (Æ 0) (ÿ (lT (.int 1000000000) (bj (v:=.int 1000000000) rfl T.jD ⟨_,rfl⟩))))
def Rz(T:Tx K mg a):Ĉ P w K mg base (ż P w) 2 a.Mn a.Np ["numbers"] (ſ ⟨K,đ a⟩ 1 yy):=by refine Ŀ T.lH.F Rb λ_ _ _ _ _ _ hr hu=>?_;exact Ŗ (v_and (v_eq hu (ÿ (ŉ Ÿ Ż T.ax Ŕ (Ú (Æ 0) ù))) Í) (v_and (Ć (Ù (rM T) T.bL hr ā (ñ (Ž (Æ 0) Í) ä))) (v_and (Ć (Ù (rM T) T.bL hr ā (ñ (Ž (Æ 0) Í) ä))) (eO (Ć (Ù (HG T) T.ib hr ā (ñ (Ž (Æ 0) Í) ä)))))))
def HH(T:Tx K mg a):Ĉ P w K mg base (ż P w) 1 a.nR a.D3 ["self","word","numbers"] (Ir ⟨K,đ a⟩ 3 "Post" vS):=by refine Te (cm:=đ a) (mb:=gl) T.Ī.F yY rfl rfl rfl λű A outer s H E hr=>?_;have hu:=hr.units;exact Ü (bz ["Thing","Post","Fence","Sail","Cloth","House"] (ZM T) (pv 0) (v_var 1)) (ă (bz ["Thing","Post","Fence","Sail","Cloth","House"] (Zc T) (pv 0) (Ć (sr bY bZ T.bM ah (Ú (Æ 2) ù)))))
def D8(T:Tx K mg a):Ĉ P w K mg base (ż P w) 1 a.nR a.D3 ["self","word","numbers"] (Ir ⟨K,đ a⟩ 3 "Fence" qL):=by refine Te (cm:=đ a) (mb:=gl) T.Ī.F yY rfl rfl rfl λű A outer s H E hr=>?_;have hu:=hr.units;exact Ü (bz ["Thing","Post","Fence","Sail","Cloth","House"] (ZM T) (pv 0) (v_var 1)) (ă (bz ["Thing","Post","Fence","Sail","Cloth","House"] (Zc T) (pv 0) (Ć (sr bY bZ T.bM ah (Ú (Æ 2) ù)))))
def HI(T:Tx K mg a):Ĉ P w K mg base (ż P w) 1 a.nR a.D3 ["self","word","numbers"] (Ir ⟨K,đ a⟩ 3 "Sail" vT):=by refine Te (cm:=đ a) (mb:=gl) T.Ī.F yY rfl rfl rfl λű A outer s H E hr=>?_;have hu:=hr.units;exact Ü (bz ["Thing","Post","Fence","Sail","Cloth","House"] (ZM T) (pv 0) (v_var 1)) (ă (bz ["Thing","Post","Fence","Sail","Cloth","House"] (Zc T) (pv 0) (Ć (sr bY bZ T.bM ah (Ú (Æ 2) ù)))))
def D9(T:Tx K mg a):Ĉ P w K mg base (ż P w) 1 a.nR a.D3 ["self","word","numbers"] (Ir ⟨K,đ a⟩ 3 "Cloth" qM):=by refine Te (cm:=đ a) (mb:=gl) T.Ī.F yY rfl rfl rfl λű A outer s H E hr=>?_;have hu:=hr.units;exact Ü (bz ["Thing","Post","Fence","Sail","Cloth","House"] (ZM T) (pv 0) (v_var 1)) (ă (bz ["Thing","Post","Fence","Sail","Cloth","House"] (Zc T) (pv 0) (Ć (sr bY bZ T.bM ah (Ú (Æ 2) ù)))))
def Ea(T:Tx K mg a):Ĉ P w K mg base (ż P w) 1 a.nR a.D3 ["self","word","numbers"] (Ir ⟨K,đ a⟩ 3 "House" qN):=by refine Te (cm:=đ a) (mb:=gl) T.Ī.F yY rfl rfl rfl λű A outer s H E hr=>?_;have hu:=hr.units;exact Ü (bz ["Thing","Post","Fence","Sail","Cloth","House"] (ZM T) (pv 0) (v_var 1)) (ă (bz ["Thing","Post","Fence","Sail","Cloth","House"] (Zc T) (pv 0) (Ć (sr bY bZ T.bM ah (Ú (Æ 2) ù)))))
def HJ(T:Tx K mg a):Ĉ P w K mg base (ż P w) 2 a.Mo a.Nq ["numbers"] (ſ ⟨K,đ a⟩ 1 td):=by refine Ŀ T.cX.F Rc λ_ _ _ _ _ _ hr hu=>?_;exact Ŗ (v_and (v_eq hu (ÿ (ŉ Ÿ Ż T.ax Ŕ (Ú (Æ 0) ù))) Í) (v_and (ŉ (qh rfl) qy T.yT kq (Ú (ÿ (Ć (cp (eQ (Ć (cL (Æ 0) mz (cn ģ)))) ž ľ (Ć (Ù (rM T) T.bL hr Ϣ (Ø 0 ä)))))) ù)) (eO (Ć (Ù (HG T) T.ib hr ā (ñ (Ž (Æ 0) Í) ä))))))
def RA(T:Tx K mg a):Ĉ P w K mg base (ż P w) 3 a.Mp a.Nr ["numbers"] (ſ ⟨K,đ a⟩ 1 yz):=by refine Ŀ T.jy.F Re λ_ _ _ _ _ _ hr hu=>?_;exact Ŗ (v_and (Ć (Ù (HJ T) T.cX hr ā (Ø 0 ä))) (eO (eN xM (qf hu) (ÿ (Ć (cL (Æ 0) mz (cn ģ)))) (ÿ (Ć (cL (Æ 0) (cn ģ) (cn ģ)))) (Ľ _))))
def Ow(T:Tx K mg a):Ĉ P w K mg base (ż P w) 3 a.VD a.VM ["numbers"] (ſ ⟨K,đ a⟩ 1 D0):=by refine Ŀ T.ϣ.F VX λ_ _ _ _ _ _ hr _=>?_;exact Ŗ (v_and (Ć (Ù (HJ T) T.cX hr ā (Ø 0 ä))) (v_and (eN nq ni (ĉ (Æ 0) Í) (ĉ (Æ 0) Í) (Ľ _)) (eO (eN nq ni (ĉ (Æ 0) Í) (ĉ (Æ 0) Í) (Ľ _)))))
def Qqj0(T:Tx K mg a):Ĉ P w K mg base (ż P w) 2 a.VE a.VN ["numbers"] (ſ ⟨K,đ a⟩ 1 J3):=by refine Ŀ T.dU.F VY λ_ _ _ _ _ _ hr _=>?_;exact Ŗ (v_and (Ć (Ù (rM T) T.bL hr ā (ñ (Ž (Æ 0) Í) ä))) (v_and (Ć (Ù (rM T) T.bL hr ā (ñ (Ž (Æ 0) Í) ä))) (eO (Fk gh gh gb gb Í (ĉ (Æ 0) Í) (ÿ (lT (.int 1000000000) (bj (v:=.int 1000000000) rfl T.jD ⟨_,rfl⟩)))))))
def RC(T:Tx K mg a):Ĉ P w K mg base (ż P w) 3 a.Mq a.Nt ["numbers"] (ſ ⟨K,đ a⟩ 1 yA):=by refine Ŀ T.jz.F Rf λ_ _ _ _ _ _ hr hu=>?_;exact Ŗ (v_and (v_eq hu (ÿ (ŉ Ÿ Ż T.ax Ŕ (Ú (Æ 0) ù))) Í) (eO (ŉ (qh rfl) qy T.yT kq (Ú (ÿ (Ć (cp (eQ (ĝ (Ë ģ (Ë ģ (Ë ģ í))))) ž ľ (Ć (Ù (Qqj0 T) T.dU hr Ϣ (ñ (Ć (cL (Æ 0) (cn (v_var 1)) (cn (v_add (Æ 1) Í)))) ä)))))) ù))))
def RE(T:Tx K mg a):Ĉ P w K mg base (ż P w) 4 a.Mr a.Nu ["word","numbers"] (ſ ⟨K,đ a⟩ 2 gm):=by refine Ŀ T.rj.F Rg λ_ _ _ _ _ _ hr hu=>?_;exact Ü (ũ (PW.pt (w_and (eX hu (Æ 0) eT) (gU (aR (ÿ (Ć (Ù (Rz T) T.lH hr ā (Ø 1 ä)))))))) (Ŗ (mF T.Q5 (HH T) cO hr.mo rfl (Z3V T) T.Ī.b ā (Ø 0 (Ø 1 ä)))) Ē) (Ü (ũ (PW.pt (w_and (eX hu (Æ 0) eT) (gU (aR (ÿ (Ć (Ù (RA T) T.jy hr ā (Ø 1 ä)))))))) (Ŗ (mF T.Kf (D8 T) cO hr.mo rfl (Z2X T) T.Ī.b ā (Ø 0 (Ø 1 ä)))) Ē) (Ü (ũ (PW.pt (w_and (eX hu (Æ 0) eT) (gU (aR (ÿ (Ć (Ù (Ow T) T.ϣ hr ā (Ø 1 ä)))))))) (Ŗ (mF T.Q6 (HI T) cO hr.mo rfl (Z3W T) T.Ī.b ā (Ø 0 (Ø 1 ä)))) Ē) (Ü (ũ (PW.pt (w_and (eX hu (Æ 0) eT) (gU (aR (ÿ (Ć (Ù (RC T) T.jz hr ā (Ø 1 ä)))))))) (Ŗ (mF T.Kg (D9 T) cO hr.mo rfl (Z2Y T) T.Ī.b ā (Ø 0 (Ø 1 ä)))) Ē) (Ü (ũ (PW.pt (w_and (eX hu (Æ 0) eT) (gU (aR (ÿ (Ć (Ù (Ow T) T.ϣ hr ā (Ø 1 ä)))))))) (Ŗ (mF T.Kh (Ea T) cO hr.mo rfl (Z2Z T) T.Ī.b ā (Ø 0 (Ø 1 ä)))) Ē) (ă (xR (C:= "BadThing") rfl rfl vE rfl (Z0p T) T.AE))))))
def RF(T:Tx K mg a):Ĉ P w K mg base (ż P w) 5 a.Ms a.Nv ["_law_sides","_law_things","_law_days"] (ſ ⟨K,đ a⟩ 3 yB):=by refine Ŀ T.nI.F Hr λ_ _ _ _ _ _ hr _=>?_;exact Ü (yq Hr (ŏ rfl T.ŕ (Ë (ŉ Ÿ Ż T.ax Ŕ (Ú (Æ 2) ù)) í)) ž ľ (ĝ (Ë (Ž eT (Æ 1)) (Ë (v_add Í (Æ 1)) (Ë (Ć (sr bY bZ T.bM ah (Ú (ĉ (Æ 0) (Æ 1)) ù))) í))))) (Ŗ (mF T.Q4 (HF T) cO hr.mo rfl (Z3U T) T.gn.b ā (ñ (Ž (Æ 0) Í) (ñ (Ž (Æ 0) Í) (ñ (Ć (cp (ϐ 1) (jv rfl (ú ž (ú ž ź))) ľ (Ć (Ù (RE T) T.rj hr Ϣ (Ø 0 (ñ (Ć (sr bY bZ T.bM ah (Ú (Æ 1) ù))) ä)))))) (Ø 3 ä))))))
def RH(T:Tx K mg a):Ĉ P w K mg base (ż P w) 1 a.Mt a.Nw ["_law_days"] (ſ ⟨K,đ a⟩ 1 CW):=by refine Ŀ T.lI.F wK λ_ _ _ _ _ _ _ _=>?_;exact ğ wK (ŷ í) (Ü (Ϙ ĵ rfl (ŏ rfl T.ŕ (Ë (ŉ Ÿ Ż T.ax Ŕ (Ú (Æ 0) ù)) í)) (ņ wK) (ă (Ϙ ĵ rfl (ŏ rfl T.ŕ (Ë (ŉ Ÿ Ż T.ax Ŕ (Ú (ĉ (Æ 0) (Æ 2)) ù)) í)) (ņ wK) (ă (PS.wk (Ŷ (ce ύ kL pG i_ (pv 1) (ϳ (cp (xG rfl T.ŕ (Ë (v_add (Æ 3) Í) (Ë (ŉ Ÿ Ż T.ax Ŕ (Ú (ĉ (Æ 0) (Æ 2)) ù)) í))) ž ľ (ĝ (Ë (v_var 0) (Ë (v_var 1) (Ë (v_var 2) í))))) cT))) λ_ _ _ h=>pV h))))) (Ņ (cu 1)))
def RI(T:Tx K mg a):Ĉ P w K mg base (ż P w) 1 a.Mu a.Nx ["_law_met","_law_many"] (ſ ⟨K,đ a⟩ 2 CY):=by refine Ŀ T.lJ.F fZ λ_ _ _ _ _ _ _ hu=>?_;exact ğ fZ (ŷ í) (ğ fZ (ő jt) (Ü (Ϙ ĵ rfl (ŏ rfl T.ŕ (Ë (aw zP zQ Í (ÿ (ŉ Ÿ Ż T.ax Ŕ (Ú (Æ 0) ù)))) í)) (ņ fZ) (ğ fZ (ő jt) (Ü (Ϙ ĵ rfl (Gq rfl T.ŕ (Ë (v_sub (Æ 1) Í) (Ë (lc bu bo Í) (Ë (lc bu bo Í) í)))) (ņ fZ) (ă (ũ (ql (aR (ÿ (ŉ (E7 rfl) FF T.Om By (Ú (ÿ (Ć (cp (ŏ rfl T.ŕ (Ë (ŉ Ÿ Ż T.ax Ŕ (Ú (Æ 0) ù)) í)) ž ľ (v_and (v_eq hu (ae (ÿ (aw vx vy (Æ 2) (Æ 3))) Í) Í) (eO (Ž (ĉ (Æ 1) (Æ 3)) (Æ 0))))))) ù))))) (ă (lz fZ (ő (v_var 6)))) Ē))) (Ü (PS.wk (Ŷ (ce ύ Ϯ aj ŗ (pv 2) (Ë (v_var 5) í))) λ_ _ _ h=>aJ h) (ğ fZ (ő (ŉ (qE rfl) qF T.yU kr (Ú (ÿ (Ć (cp (ŏ rfl T.ŕ (Ë (ŉ Ÿ Ż T.ax Ŕ (Ú (Æ 0) ù)) í)) ž ľ (v_mod (ÿ (aw vx vy (Æ 0) (Æ 1))) Í)))) ù))) (ă (ũ (PW.pt (w_and (az li fM (Æ 5) eS (Ľ _)) (gU (PW.pt (w_or (az li fM (Æ 3) eS (Ľ _)) (xF (az nq ni (Æ 7) (ĉ (Æ 3) Í) (Ľ _)))))))) (ă (lz fZ (ő (ĝ (Ë (v_var 4) (Ë (v_var 7) í)))))) Ē))))))) (Ŗ (ĝ (Ë (v_var 3) (Ë (v_var 2) í))))))
def wQ(T:Tx K mg a):Ĉ P w K mg base (ż P w) 1 a.Mv a.Ny ["_law_low","_law_high","_law_slope","_law_c","_law_least_here","_law_most"] (ſ ⟨K,đ a⟩ 6 bB):=by refine Ŀ T.aB.F mV λ_ _ _ _ _ _ _ hu=>?_;exact Ü (ũ (eX hu (Æ 2) Í) (Ü (ũ (KE gh gh gb gb (İ (Æ 3) (Æ 4)) Í (İ (Æ 3) (Æ 5))) (Ŗ (ĝ (Ë (v_var 0) (Ë (v_var 1) í)))) Ē) (Ŗ (ĝ (Ë (ĝ (Ë ģ (Ë ģ í))) (Ë (ĝ (Ë ģ (Ë ģ í))) í))))) Ē) (ğ mV (ő (ĝ (Ë (v_mul (Æ 3) (Æ 4)) (Ë (v_var 2) í)))) (ğ mV (ő (ĝ (Ë (v_mul (Æ 3) (Æ 5)) (Ë (v_var 2) í)))) (Ü (ũ (az nq ni (Æ 2) Í (Ľ _)) (ă (PS.wk (O6 (i:=6) (j:=7) rfl mV.nd rfl rfl (by decide) rfl rfl (Ë (ĝ (Ë (v_sub Í (ĉ (Æ 7) Í)) (Ë (v_sub Í (Æ 2)) í))) (Ë (ĝ (Ë (v_sub Í (ĉ (Æ 6) Í)) (Ë (v_sub Í (Æ 2)) í))) í)) rfl) λ_ _ _ h=>Ju h)) Ē) (Ü (ũ (az UL Um (İ (ĉ (Æ 6) Í) (ĉ (Æ 0) Í)) (İ (ĉ (Æ 0) Í) (ĉ (Æ 6) Í)) (Ľ _)) (ă (lz mV (ő (v_var 6)))) Ē) (Ü (ũ (az nq ni (İ (ĉ (Æ 7) Í) (ĉ (Æ 1) Í)) (İ (ĉ (Æ 1) Í) (ĉ (Æ 7) Í)) (Ľ _)) (ă (lz mV (ő (v_var 7)))) Ē) (Ŗ (ĝ (Ë (v_var 0) (Ë (v_var 1) í)))))))))
def HK(T:Tx K mg a):Ĉ P w K mg base (ż P w) 2 a.G9 a.Hh ["_law_word","_law_numbers","_law_stone","_law_ray"] (ſ ⟨K,đ a⟩ 4 pX):=by refine Qqq7 (cm:=đ a) (mb:=qQ) T.Ϡ.F ĩ rfl rfl rfl λű A outer s H E hr=>?_;have hu:=hr.units;exact Ü (ge (v_var 3) (gj rfl (ú (ņ ĩ) (ú (ņ ĩ) (ú (ņ ĩ) ź))))) (Ü (ũ (eX hu (Æ 0) eT) (Ü (ge (v_var 1) (gj rfl (ú (ņ ĩ) (ú (ņ ĩ) (ú (ņ ĩ) ź))))) (ă Jt)) Ē) (Ü (ge (v_var 1) (gj rfl (ú (ņ ĩ) (ú (ņ ĩ) (ú (ņ ĩ) (ú (ņ ĩ) (ú (ņ ĩ) ź))))))) (ğ ĩ (ő (ĝ (Ë ģ (Ë ģ í)))) (ğ ĩ (ő (ĝ (Ë (v_var 13) (Ë ģ í)))) (Ü (ũ (eX hu (Æ 0) eT) (ă (lz ĩ (ő (ĝ (Ë (v_var 13) (Ë ģ í)))))) Ē) (Ü (ge (Ć (Ù (wQ T) T.aB hr ā (Ø 4 (Ø 5 (Ø 6 (Ø 8 (ñ (v_sub (İ Í (ĉ (Æ 2) Í)) (Æ 11)) (ñ (v_sub (İ Í (ĉ (Æ 2) Í)) (Æ 9)) ä)))))))) (gj rfl (ú (ņ ĩ) (ú (ņ ĩ) ź)))) (Ü (ge (Ć (Ù (wQ T) T.aB hr ā (Ø 4 (Ø 5 (Ø 7 (Ø 8 (ñ (v_sub (İ Í (ĉ (Æ 2) Í)) (Æ 12)) (ñ (v_sub (İ Í (ĉ (Æ 2) Í)) (Æ 10)) ä)))))))) (gj rfl (ú (ņ ĩ) (ú (ņ ĩ) ź)))) (Ŗ (eN gh gb (İ (ĉ (Æ 4) Í) (ĉ (Æ 5) Í)) (İ (ĉ (Æ 5) Í) (ĉ (Æ 4) Í)) (Ľ _))))))))))
def RJ(T:Tx K mg a):Ĉ P w K mg base (ż P w) 3 a.G9 a.Hh ["_law_word","_law_numbers","_law_stone","_law_ray"] (ſ ⟨K,đ a⟩ 4 jw):=by refine Ŀ T.Ϡ.F ĩ λ_ _ _ _ _ _ hr hu=>?_;exact Ü (ge (v_var 3) (gj rfl (ú (ņ ĩ) (ú (ņ ĩ) (ú (ņ ĩ) ź))))) (Ü (ũ (eX hu (Æ 0) eT) (Ü (ge (v_var 1) (gj rfl (ú (ņ ĩ) (ú (ņ ĩ) (ú (ņ ĩ) ź))))) (Ņ (zN (HK T) aA hr.mo rfl T.Ϡ.m T.Ϡ.F.kp T.Ϡ.b ā (ñ gc (ñ (Ć (ŷ (Ë (v_sub (İ Í (Æ 14)) Í) (Ë (v_sub (İ Í (Æ 15)) Í) (Ë (v_add (İ Í (Æ 14)) Í) (Ë (v_add (İ Í (Æ 15)) Í) (Ë (v_var 13) í))))))) (Ø 2 (Ø 3 ä))))))) Ē) (Ü (ge (v_var 1) (gj rfl (ú (ņ ĩ) (ú (ņ ĩ) (ú (ņ ĩ) (ú (ņ ĩ) (ú (ņ ĩ) ź))))))) (ğ ĩ (ő (ĝ (Ë ģ (Ë ģ í)))) (ğ ĩ (ő (ĝ (Ë (v_var 13) (Ë ģ í)))) (Ü (ũ (eX hu (Æ 0) eT) (ă (lz ĩ (ő (ĝ (Ë (v_var 13) (Ë ģ í)))))) Ē) (Ü (ge (Ć (Ù (wQ T) T.aB hr ā (Ø 4 (Ø 5 (Ø 6 (Ø 8 (ñ (v_sub (İ Í (ĉ (Æ 2) Í)) (Æ 11)) (ñ (v_sub (İ Í (ĉ (Æ 2) Í)) (Æ 9)) ä)))))))) (gj rfl (ú (ņ ĩ) (ú (ņ ĩ) ź)))) (Ü (ge (Ć (Ù (wQ T) T.aB hr ā (Ø 4 (Ø 5 (Ø 7 (Ø 8 (ñ (v_sub (İ Í (ĉ (Æ 2) Í)) (Æ 12)) (ñ (v_sub (İ Í (ĉ (Æ 2) Í)) (Æ 10)) ä)))))))) (gj rfl (ú (ņ ĩ) (ú (ņ ĩ) ź)))) (Ŗ (eN gh gb (İ (ĉ (Æ 4) Í) (ĉ (Æ 5) Í)) (İ (ĉ (Æ 5) Í) (ĉ (Æ 4) Í)) (Ľ _))))))))))
def RK(T:Tx K mg a):Ĉ P w K mg base (ż P w) 4 a.Mw a.Nz ["_law_things","_law_stone","_law_ray"] (ſ ⟨K,đ a⟩ 3 hZ):=by refine Ŀ T.jA.F Rh λ_ _ _ _ _ _ hr _=>?_;exact Ü (ũ (az li fM (Æ 2) eS (Ľ _)) (Ŗ si) Ē) (Ŗ (v_not (ŉ (E7 rfl) FF T.Om By (Ú (ÿ (Ć (cp (ϐ 0) (jv rfl (ú ž (ú ž ź))) ľ (Ć (Ù (RJ T) T.Ϡ hr Ϣ (Ø 2 (Ø 3 (Ø 0 (Ø 1 ä))))))))) ù))))
def RL(T:Tx K mg a):Ĉ P w K mg base (ż P w) 5 a.Mx a.NA ["_law_sides","_law_things","_law_days","_law_numbers"] (ſ ⟨K,đ a⟩ 4 tj):=by refine Ŀ T.rk.F ir λ_ _ _ _ _ _ hr hu=>?_;exact ğ ir (Ù (RH T) T.lI hr ā (Ø 2 ä)) (ğ ir (ŷ í) (Ü (Ϙ ĵ rfl (ϐ 3) (ņ ir) (ğ ir (ő (ĝ (Ë (v_mod (Æ 6) (ĉ (Æ 0) Í)) (Ë (ny (Æ 6) (ĉ (Æ 0) Í)) í)))) (ğ ir (cp (ϐ 2) ž ľ (Ć (cp (ϐ 2) ž ľ (Ć (Ù (RK T) T.jA hr Ϣ (Ø 0 (Ø 1 (Ø 2 ä)))))))) (ă (PS.wk (Ŷ (ce ύ Ϯ aj ŗ (pv 5) (Ë (Ć (cp (ϐ 4) (jv rfl (ú ž (ú ž (ú ž ź)))) ľ (eN xM (qf hu) (ĉ (ĉ (Æ 0) (Æ 1)) (Æ 2)) (ĉ (ĉ (Æ 0) (Æ 1)) (Æ 3)) (Ľ _)))) í))) λ_ _ _ h=>aJ h))))) (Ü (ge (Ć (Ù (RI T) T.lJ hr ā (Ø 5 (ñ (ŉ Ÿ Ż T.ax Ŕ (Ú (Æ 4) ù)) ä)))) (gj rfl (ú (ņ ir) (ú (ņ ir) ź)))) (Ü (ũ (az li fM (Æ 9) eS (Ľ _)) (Ņ (ly (ÿ (ĝ (Ë gc í))) (ĉ (Æ 4) (ĉ (Æ 10) (ÿ (lc bu bo Í)))))) Ē) (Ŗ (ĝ (Ë gc (Ë (Ž (Æ 9) Í) (Ë (Ž (Æ 9) Í) (Ë (v_var 10) í))))))))))
def ZP(T:Tx K mg a){k:Nat}{mf:MF}(hok:Ĉ P w K mg base (ż P w) k a.yO a.yP ["_law_found","_law_due_here"] (ſ ⟨K,đ a⟩ 2 mf))(W7:∀{ps:List Slot},(∃r,mf ps=r/\∀z,r=z->z≠ .bad)->ps.length=2):Ĉ P w K mg base (ż P w) (k+1) a.yO a.yP ["_law_found","_law_due_here"] (ſ ⟨K,đ a⟩ 2 (Ğ 2 2 (Zb mf))):=by refine Qqq7 (cm:=đ a) (mb:=Zb mf) T.aV.F Ri rfl rfl rfl λű A outer s H E hr=>?_;have hu:=hr.units;exact Ü (ũ (PW.pt (w_or (aR (ÿ (ŉ ť (Ŧ T.iC T.iT T.iD T.iN) T.č ţ (Ú (Æ 1) (Ú (ÿ (lT (.ty "tuple") (ao (v:=.ty "tuple") rfl T.pY oX rfl))) ù))))) (xF (aR (ÿ (ŉ ť (Ŧ T.iC T.iT T.iD T.iN) T.č ţ (Ú (Æ 1) (Ú (ÿ (lT (.ty "list") (ao (v:=.ty "list") rfl T.bM ah rfl))) ù)))))))) (Ü (ũ (PW.pt (w_or (Gp hu (ÿ (ŉ ť (Ŧ T.iC T.iT T.iD T.iN) T.č ţ (Ú (Æ 1) (Ú (ÿ (lT (.ty "tuple") (ao (v:=.ty "tuple") rfl T.pY oX rfl))) ù)))) (ÿ (ŉ ť (Ŧ T.iC T.iT T.iD T.iN) T.č ţ (Ú (Æ 0) (Ú (ÿ (lT (.ty "tuple") (ao (v:=.ty "tuple") rfl T.pY oX rfl))) ù))))) (xF (Gp hu (ÿ (ŉ ť (Ŧ T.iC T.iT T.iD T.iN) T.č ţ (Ú (Æ 1) (Ú (ÿ (lT (.ty "list") (ao (v:=.ty "list") rfl T.bM ah rfl))) ù)))) (ÿ (ŉ ť (Ŧ T.iC T.iT T.iD T.iN) T.č ţ (Ú (Æ 0) (Ú (ÿ (lT (.ty "list") (ao (v:=.ty "list") rfl T.bM ah rfl))) ù)))))))) (Ŗ si) Ē) (Ŗ (v_and (v_eq hu (ÿ (ŉ Ÿ Ż T.ax Ŕ (Ú (Æ 0) ù))) (ÿ (ŉ Ÿ Ż T.ax Ŕ (Ú (Æ 1) ù)))) (eO (ŉ (qh rfl) qy T.yT kq (Ú (ÿ (Ć (cp (K_ rfl T.Oq (CO 0) (CO 1)) (jv rfl (ú ž (ú ž ź))) ľ (Ć (zN hok W7 hr rfl T.aV.m T.aV.F.kp T.aV.b Ϣ (Ø 0 (Ø 1 ä))))))) ù)))))) Ē) (Ü (ũ (aR (ÿ (ŉ ť (Ŧ T.iC T.iT T.iD T.iN) T.č ţ (Ú (Æ 1) (Ú (ÿ (lT (.ty "str") (ao (v:=.ty "str") rfl T.Op Bz rfl))) ù))))) (Ŗ (v_and (ŉ ť (Ŧ T.iC T.iT T.iD T.iN) T.č ţ (Ú (Æ 0) (Ú (ÿ (lT (.ty "str") (ao (v:=.ty "str") rfl T.Op Bz rfl))) ù))) (eO (v_eq hu (Æ 0) (Æ 1))))) Ē) (Ü (ũ (az li fM (Æ 1) eS (Ľ _)) (Ŗ (eN li fM (Æ 0) eS (Ľ _))) Ē) (Ŗ (v_and (ŉ ť (Ŧ T.iC T.iT T.iD T.iN) T.č ţ (Ú (Æ 0) (Ú (ÿ (lT (.ty "int") (ao (v:=.ty "int") rfl T.On BA rfl))) ù))) (v_and (v_not (ŉ ť (Ŧ T.iC T.iT T.iD T.iN) T.č ţ (Ú (Æ 0) (Ú (ÿ (lT (.ty "bool") (ao (v:=.ty "bool") rfl T.Hn BB rfl))) ù)))) (eO (v_eq hu (Æ 0) (Æ 1))))))))
def Z0Z(T:Tx K mg a):Ĉ P w K mg base (ż P w) 0 a.yO a.yP ["_law_found","_law_due_here"] (ſ ⟨K,đ a⟩ 2 λ_=>.bad):=⟨λ_ _ _ _ ⟨_,_,_,_,_,h⟩=>(show False from h).elim,λ_ _ _ _ _ _ _ _ _ _ _ _ _ ⟨_,_,_,_,_,h⟩=>(show False from h).elim⟩
def HL(T:Tx K mg a):Ĉ P w K mg base (ż P w) 3 a.yO a.yP ["_law_found","_law_due_here"] (ſ ⟨K,đ a⟩ 2 lB):=ZP T (ZP T (ZP T (Z0Z T) (λ⟨_,e,h⟩=>(h _ e.symm rfl).elim)) aA) aA
def RM(T:Tx K mg a):Ĉ P w K mg base (ż P w) 3 a.Mz a.NB ["yard","numbers"] (ſ ⟨K,đ a⟩ 2 tm):=by refine Ŀ T.gp.F Hs λ_ _ _ _ _ _ hr _=>?_;exact ă (Ϙ ĵ rfl (ϐ 1) (ņ Hs) (ă (ũ (ql (KE gh nq gb ni Í (Æ 2) (İ (ÿ (dN ["Yard"] (Z04 T) (Æ 0))) (ÿ (dN ["Yard"] (Z0q T) (Æ 0)))))) (ă (FQ (C:= "NoStone") rfl rfl vE T.D6 (V_ T) hr.mo rfl (Z0C T) T.cZ.b ā (Ë (v_var 2) í))) Ē)))
def HM(T:Tx K mg a):Ĉ P w K mg base (ż P w) 1 a.MA a.NC ["yard","day"] (ſ ⟨K,đ a⟩ 2 yC):=by refine Ŀ T.jM.F Rj λ_ _ _ _ _ _ _ _=>?_;exact Ŗ (Ž (ĉ (ÿ (dN ["Yard"] (ZS T) (Æ 0))) (Æ 1)) Í)
def Qqj1(T:Tx K mg a):Ĉ P w K mg base (ż P w) 2 a.VF a.VO ["yard"] (ſ ⟨K,đ a⟩ 1 J4):=by refine Ŀ T.eU.F yZ λ_ _ _ _ _ _ hr _=>?_;exact ğ yZ (ŷ í) (Ü (Ϙ ĵ rfl (ŏ rfl T.ŕ (Ë (ŉ Ÿ Ż T.ax Ŕ (Ú (ÿ (dN ["Yard"] (ZS T) (Æ 0))) ù)) í)) (ņ yZ) (ğ yZ (ő (ŉ Ÿ Ż T.ax Ŕ (Ú (ÿ (Ć (Ù (HM T) T.jM hr ā (Ø 0 (Ø 2 ä))))) ù))) (ă (Ϙ ĵ rfl (ŏ rfl T.ŕ (Ë (v_var 3) í)) (ņ yZ) (ă (PS.wk (Ŷ (ce ύ kL pG i_ (pv 1) (ϳ (cp (xG rfl T.ŕ (Ë (v_add (Æ 4) Í) (Ë (v_var 3) í))) ž ľ (ĝ (Ë (v_var 0) (Ë (v_var 1) (Ë (v_var 2) í))))) cT))) λ_ _ _ h=>pV h)))))) (Ņ (cu 1)))
def AV(T:Tx K mg a):Ĉ P w K mg base (ż P w) 1 a.MB a.ND ["values","choice"] (ſ ⟨K,đ a⟩ 2 jx):=by refine Ŀ T.lK.F Rk λ_ _ _ _ _ _ _ _=>?_;exact Ņ (cp (F8 rfl T.ip (KZ 0)) (jv rfl (ú ž (ú ž ź))) (Fs (aR (ÿ (aw Ct Cu (ÿ (aw vx vy (Æ 0) (Æ 1))) Í)))) (v_var 2))
def RN(T:Tx K mg a):Ĉ P w K mg base (ż P w) 4 a.Ha a.NE ["prices","choices"] (ſ ⟨K,đ a⟩ 2 CZ):=by refine ZaY (cm:=đ a) (mb:=Ao) T.rm.F Rl rfl rfl rfl T.AH λcc Pt wV A outer s H E hr=>?_;have hu:=hr.units;exact Ŗ (QT (k:=1) ["prices"] [0] (Ô Gs) hr.mo rfl rfl (by simp[lams]) wV rfl rfl rfl T.Hq (Ú (Æ 1) ù) (λ_ _ _ _ _ hr hu=>(ŉ (qE rfl) qF T.yU kr (Ú (ÿ (Ć (Ù (AV T) T.lK hr Ϣ (Ø 0 (Ø 1 ä))))) ù))) ⟨rfl,⟨rfl,Ġ rfl⟩,trivial⟩)
def RO(T:Tx K mg a):Ĉ P w K mg base (ż P w) 1 a.MC a.NF ["met","many"] (ſ ⟨K,đ a⟩ 2 tq):=by refine Ŀ T.gq.F Ht λ_ _ _ _ _ _ _ _=>?_;exact Ü (Ϙ ĵ rfl (ŏ rfl T.ŕ (Ë (v_var 1) í)) (ņ Ht) (ă (ũ (ql (aR (ÿ (aw Ct Cu (ÿ (aw vx vy (Æ 0) (Æ 2))) Í)))) (Ņ (cu 2)) Ē))) (Ŗ jt)
def RP(T:Tx K mg a):Ĉ P w K mg base (ż P w) 2 a.MD a.NG ["covers","choice","base"] (ſ ⟨K,đ a⟩ 3 yF):=by refine Ŀ T.yR.F wL λ_ _ _ _ _ _ hr _=>?_;exact ğ wL (ő (v_var 2)) (Ü (Ϙ ĵ rfl (eQ (Ć (Ù (AV T) T.lK hr ā (Ø 0 (Ø 1 ä))))) (ņ wL) (ă (F9 (i:=3) wL.nd rfl (Ġ rfl) (v_var 4)))) (Ņ (cu 3)))
def RQ(T:Tx K mg a):Ĉ P w K mg base (ż P w) 5 a.ME a.NH ["prices","covers","many","base"] (ſ ⟨K,đ a⟩ 4 yG):=by refine ZaZ (cm:=đ a) (mb:=vX) T.bC.F AK rfl rfl rfl λű A outer s H E hr=>?_;have hu:=hr.units;exact Ü (yq AK (ŏ rfl T.ŕ (Ë (aw zP zQ Í (ÿ (ŉ Ÿ Ż T.ax Ŕ (Ú (Æ 0) ù)))) í)) ž ľ (Ć (Ù (RO T) T.gq hr Ϣ (ñ (Ć (Ù (RP T) T.yR hr Ϣ (Ø 1 (Ø 3 (Ø 2 ä))))) (Ø 0 ä))))) (Ü (ũ (az lj pQ (ĉ (Æ 4) (ÿ (lc bu bo Í))) eS (Ľ _)) (Ŗ (ĝ (Ë gc (Ë (Ž (Æ 4) (ÿ (lc bu bo Í))) í)))) Ē) (ğ AK (Ù (RN T) T.rm hr ā (Ø 0 (ñ (Ć (Vp (J_ rfl T.ip (Za0 4)) (jv rfl (ú ž (ú ž ź))) (Fs (az li fM (Æ 1) eS (Ľ _))) (v_var 0))) ä))) (Ņ (QR (vQ gc (vQ (v_var 5) (vQ (ŉ (qE rfl) qF T.yU kr (Ú (ÿ (Ć (Ù (AV T) T.lK hr ā (Ø 0 (Ø 5 ä))))) ù)) (QQ (cu 4)))))))))
def RS(T:Tx K mg a):Ĉ P w K mg base (ż P w) 1 a.MG a.NI ["points"] (ſ ⟨K,đ a⟩ 1 C_):=by refine Ŀ T.nJ.F AL λ_ _ _ _ _ _ _ _=>?_;exact Ü (yq AL (ϐ 0) ž ľ (Ž (Æ 0) Í)) (Ü (yq AL (ϐ 0) ž ľ (Ž (Æ 0) Í)) (Ņ (ŷ (Ë (ĝ (Ë ģ (Ë ģ (Ë (ŉ (FX rfl) FZ T.Oo BC (Ú (Æ 1) ù)) í)))) (Ë (ĝ (Ë (lc bu bo Í) (Ë ģ (Ë (lc bu bo (ÿ (ŉ (FY rfl) F_ T.Hq BD (Ú (Æ 1) ù)))) í)))) (Ë (ĝ (Ë ģ (Ë ģ (Ë (ŉ (FX rfl) FZ T.Oo BC (Ú (Æ 2) ù)) í)))) (Ë (ĝ (Ë ģ (Ë (lc bu bo Í) (Ë (lc bu bo (ÿ (ŉ (FY rfl) F_ T.Hq BD (Ú (Æ 2) ù)))) í)))) í)))))))
def RT(T:Tx K mg a):Ĉ P w K mg base (ż P w) 1 a.MJ a.NJ ["points"] (ſ ⟨K,đ a⟩ 1 C0):=by refine Ŀ T.nK.F AM λ_ _ _ _ _ _ _ hu=>?_;exact ğ AM (ŷ í) (Ü (Ϙ ĵ rfl (ϐ 0) (ņ AM) (ă (ũ (az Gg (DX hu) (Æ 2) (Æ 1) (by with_unfolding_all rfl)) (ă (PS.wk (Ŷ (ce ύ Ϯ aj ŗ (pv 1) (Ë (v_var 2) í))) λ_ _ _ h=>aJ h)) Ē))) (Ņ (cu 1)))
def RU(T:Tx K mg a):Ĉ P w K mg base (ż P w) 1 a.MK a.NK ["one","other"] (ſ ⟨K,đ a⟩ 2 C2):=by refine Ŀ T.ie.F AN λ_ _ _ _ _ _ _ _=>?_;exact ğ AN (ő (v_sub (ĉ (Æ 1) Í) (ĉ (Æ 0) Í))) (ğ AN (ő (v_sub (ĉ (Æ 0) Í) (ĉ (Æ 1) Í))) (Ŗ (ĝ (Ë (v_var 2) (Ë (v_var 3) (Ë (v_add (İ (Æ 2) (ĉ (Æ 0) Í)) (İ (Æ 3) (ĉ (Æ 0) Í))) í))))))
def HN(T:Tx K mg a):Ĉ P w K mg base (ż P w) 1 a.ML a.NL ["line","pair"] (ſ ⟨K,đ a⟩ 2 qR):=by refine Ŀ T.wx.F Rm λ_ _ _ _ _ _ _ _=>?_;exact Ŗ (eN gh gb (cW (İ (ĉ (Æ 0) Í) (ĉ (Æ 1) Í)) (İ (ĉ (Æ 0) Í) (ĉ (Æ 1) Í))) (ĉ (Æ 0) Í) (Ľ _))
def RW(T:Tx K mg a):Ĉ P w K mg base (ż P w) 2 a.MM a.NM ["points"] (ſ ⟨K,đ a⟩ 1 C3):=by refine Ŀ T.lL.F mW λ_ _ _ _ _ _ hr hu=>?_;exact ğ mW (ŷ í) (ğ mW (Ù (RT T) T.nK hr ā (Ø 0 ä)) (Ü (Ϙ ĵ rfl (ϐ 2) (ņ mW) (ă (Ϙ ĵ rfl (ϐ 2) (ņ mW) (ğ mW (Ù (RU T) T.ie hr ā (Ø 3 (Ø 4 ä))) (ă (ũ (PW.pt (w_and (Gp hu (Æ 3) (Æ 4)) (gU (aR (ÿ (ŉ (qh rfl) qy T.yT kq (Ú (ÿ (Ć (cp (ϐ 2) ž ľ (Ć (Ù (HN T) T.wx hr Ϣ (Ø 0 (Ø 1 ä))))))) ù))))))) (ă (PS.wk (Ŷ (ce ύ Ϯ aj ŗ (pv 1) (Ë (v_var 5) í))) λ_ _ _ h=>aJ h)) Ē)))))) (Ņ (cu 1))))
def RX(T:Tx K mg a):Ĉ P w K mg base (ż P w) 3 a.MN a.NN ["points"] (ſ ⟨K,đ a⟩ 1 C4):=by refine Ŀ T.jB.F Rn λ_ _ _ _ _ _ hr _=>?_;exact Ņ (ly (ÿ (Ć (Ù (RS T) T.nJ hr ā (Ø 0 ä)))) (ÿ (Ć (Ù (RW T) T.lL hr ā (Ø 0 ä)))))
def RY(T:Tx K mg a):Ĉ P w K mg base (ż P w) 4 a.MO a.NO ["points","point"] (ſ ⟨K,đ a⟩ 2 yH):=by refine Ŀ T.ig.F Hv λ_ _ _ _ _ _ hr _=>?_;exact Ü (Ϙ ĵ rfl (eQ (Ć (Ù (RX T) T.jB hr ā (Ø 0 ä)))) (ņ Hv) (ă (ũ (ql (aR (ÿ (Ć (Ù (HN T) T.wx hr ā (Ø 2 (Ø 1 ä))))))) (Ņ (cu 2)) Ē))) (Ŗ jt)
def HP(T:Tx K mg a):Ĉ P w K mg base (ż P w) 1 a.MP a.NP ["many"] (ſ ⟨K,đ a⟩ 1 yI):=by refine Ŀ T.ek.F AO λ_ _ _ _ _ _ _ _=>?_;exact ğ AO (ŷ í) (Ü (Ϙ ĵ rfl (ŏ rfl T.ŕ (Ë (v_var 0) í)) (ņ AO) (ă (PS.wk (Ŷ (ce ύ kL pG i_ (pv 1) (ϳ (cp (ŏ rfl T.ŕ (Ë (v_var 2) í)) ž ľ (ĝ (Ë (v_var 1) (Ë (v_var 0) í)))) cT))) λ_ _ _ h=>pV h))) (Ņ (cu 1)))
def RZ(T:Tx K mg a):Ĉ P w K mg base (ż P w) 2 a.MQ a.NQ ["many"] (ſ ⟨K,đ a⟩ 1 C5):=by refine Ŀ T.gt.F AQ λ_ _ _ _ _ _ hr _=>?_;exact ğ AQ (ŷ í) (Ü (Ϙ ĵ rfl (ŏ rfl T.ŕ (Ë (v_var 0) í)) (ņ AQ) (ă (PS.wk (Ŷ (ce ύ kL pG i_ (pv 1) (ϳ (cp (Gi (eQ (Ć (Ù (HP T) T.ek hr Ϣ (Ø 2 ä))))) ž ľ (ĝ (Ë (Ž (Æ 1) Í) (Ë (Ž (Æ 1) Í) (Ë (v_var 0) í))))) cT))) λ_ _ _ h=>pV h))) (Ņ (cu 1)))
def Qqj2(T:Tx K mg a):Ĉ P w K mg base (ż P w) 1 a.VG a.VP ["one","other"] (ſ ⟨K,đ a⟩ 2 J5):=by refine Ŀ T.cY.F Dk λ_ _ _ _ _ _ _ hu=>?_;exact Ü (Jw ĵ (Gp hu (Æ 1) Í) (ğ Dk (ő (v_mod (Æ 0) (Æ 1))) (ğ Dk (ő (v_var 1)) (ă (lz Dk (ő (v_var 2))))))) (Ŗ (ŉ PP Qq T.VS PyProof.Rows.boot_abs (Ú (Æ 0) ù)))
def HQ(T:Tx K mg a):Ĉ P w K mg base (ż P w) 2 a.MR a.NR ["top","bottom"] (ſ ⟨K,đ a⟩ 2 nB):=by refine Ŀ T.wy.F AR λ_ _ _ _ _ _ hr hu=>?_;exact Ü (ũ (eX hu (Æ 1) Í) (ă (xR (C:= "NoNumber") rfl rfl vE rfl (Z0o T) T.AD)) Ē) (ğ AR (Ù (Qqj2 T) T.cY hr ā (Ø 0 (Ø 1 ä))) (Ü (ũ (az nq ni (Æ 1) Í (Ľ _)) (ă (lz AR (ő (lc bu bo (Æ 2))))) Ē) (Ŗ (ĝ (Ë (ny (Æ 0) (Æ 2)) (Ë (ny (Æ 1) (Æ 2)) í))))))
def AW(T:Tx K mg a):Ĉ P w K mg base (ż P w) 3 a.MS a.NT ["shares","places","many"] (ſ ⟨K,đ a⟩ 3 lE):=by refine Ŀ T.lM.F rJ λ_ _ _ _ _ _ hr _=>?_;exact ğ rJ (ő (ŉ (qE rfl) qF T.yU kr (Ú (Æ 0) ù))) (Ü (yq rJ (ŏ rfl T.ŕ (Ë (v_var 2) í)) ž ľ (Ć (Ù (HQ T) T.wy hr Ϣ (ñ ģ (Ø 0 ä))))) (Ü (Ϙ ĵ rfl (K_ rfl T.Oq (CO 0) (CO 1)) (jv rfl (ú (ņ rJ) (ú (ņ rJ) ź))) (ă (Jv (i:=4) (Ć (Ù (HQ T) T.wy hr ā (Ø 5 (Ø 3 ä)))) (v_var 6) (pv 4)))) (Ņ (cu 4))))
def AX(T:Tx K mg a):Ĉ P w K mg base (ż P w) 1 a.MT a.NU ["one","other","third"] (ſ ⟨K,đ a⟩ 3 tw):=by refine Ŀ T.lN.F Hw λ_ _ _ _ _ _ _ _=>?_;exact ğ Hw (ő (v_mul (qK (ĉ (Æ 1) Í) (ĉ (Æ 0) Í)) (qK (ĉ (Æ 2) Í) (ĉ (Æ 0) Í)))) (Ŗ (v_sub (Æ 3) (İ (qK (ĉ (Æ 1) Í) (ĉ (Æ 0) Í)) (qK (ĉ (Æ 2) Í) (ĉ (Æ 0) Í)))))
def Qqj3(T:Tx K mg a):Ĉ P w K mg base (ż P w) 2 a.VH a.VQ ["corners","point"] (ſ ⟨K,đ a⟩ 2 J6):=by refine Ŀ T.dW.F Dl λ_ _ _ _ _ _ hr _=>?_;exact ğ Dl (ő (Ž (Æ 0) Í)) (ğ Dl (ő (Ž (Æ 0) Í)) (ğ Dl (ő (Ž (Æ 0) Í)) (Ņ (ŷ (Ë (Ć (Ù (AX T) T.lN hr ā (Ø 1 (Ø 3 (Ø 4 ä))))) (Ë (Ć (Ù (AX T) T.lN hr ā (Ø 2 (Ø 1 (Ø 4 ä))))) (Ë (Ć (Ù (AX T) T.lN hr ā (Ø 2 (Ø 3 (Ø 1 ä))))) í)))))))
def HR(T:Tx K mg a):Ĉ P w K mg base (ż P w) 1 a.MU a.NV ["shares"] (ſ ⟨K,đ a⟩ 1 tz):=by refine Ŀ T.eo.F Hx λ_ _ _ _ _ _ _ hu=>?_;exact ğ Hx (ő (ŉ (qE rfl) qF T.yU kr (Ú (Æ 0) ù))) (Ŗ (v_and (eN xM (qf hu) (Æ 1) Í (Ľ _)) (eO (ŉ (qh rfl) qy T.yT kq (Ú (ÿ (Ć (cp (ϐ 0) ž ľ (eN UM Uo (İ (Æ 1) (Æ 0)) Í (Ľ _))))) ù)))))
def R_(T:Tx K mg a):Ĉ P w K mg base (ż P w) 1 a.MV a.NW ["ends","point"] (ſ ⟨K,đ a⟩ 2 C6):=by refine Ŀ T.gu.F wM λ_ _ _ _ _ _ _ _=>?_;exact ğ wM (ő (v_sub (ĉ (ĉ (Æ 0) Í) Í) (ĉ (ĉ (Æ 0) Í) Í))) (ğ wM (ő (v_sub (ĉ (ĉ (Æ 0) Í) Í) (ĉ (ĉ (Æ 0) Í) Í))) (ğ wM (ly (İ (Æ 2) (qK (ĉ (Æ 1) Í) (ĉ (ĉ (Æ 0) Í) Í))) (İ (Æ 3) (qK (ĉ (Æ 1) Í) (ĉ (ĉ (Æ 0) Í) Í)))) (Ņ (ŷ (Ë (v_sub (cW (İ (Æ 2) (Æ 2)) (İ (Æ 3) (Æ 3))) (Æ 4)) (Ë (v_var 4) í))))))
def R0(T:Tx K mg a):Ĉ P w K mg base (ż P w) 4 a.MW a.NX ["points","point"] (ſ ⟨K,đ a⟩ 2 tD):=by refine Ŀ T.lO.F mX λ_ _ _ _ _ _ hr _=>?_;exact ğ mX (ő (ŉ Ÿ Ż T.ax Ŕ (Ú (Æ 0) ù))) (Ü (Ϙ ĵ rfl (eQ (Ć (Ù (RZ T) T.gt hr ā (Ø 2 ä)))) (ņ mX) (ğ mX (Ù (Qqj3 T) T.dW hr ā (ñ (Ć (cp (ϐ 3) ž ľ (Ž (Æ 0) (Æ 1)))) (Ø 1 ä))) (ă (ũ (aR (ÿ (Ć (Ù (HR T) T.eo hr ā (Ø 4 ä))))) (Ņ (Ù (AW T) T.lM hr ā (Ø 4 (Ø 3 (Ø 2 ä))))) Ē)))) (Ü (Ϙ ĵ rfl (eQ (Ć (Ù (HP T) T.ek hr ā (Ø 2 ä)))) (ņ mX) (ğ mX (Ù (R_ T) T.gu hr ā (ñ (Ć (cp (ϐ 3) ž ľ (Ž (Æ 0) (Æ 1)))) (Ø 1 ä))) (ă (ũ (aR (ÿ (Ć (Ù (HR T) T.eo hr ā (Ø 4 ä))))) (Ņ (Ù (AW T) T.lM hr ā (Ø 4 (Ø 3 (Ø 2 ä))))) Ē)))) (Ņ (Ù (AW T) T.lM hr ā (ñ (Ć (ŷ (Ë ģ í))) (ñ (Ć (ŷ (Ë ģ í))) (Ø 2 ä)))))))
def R5(T:Tx K mg a):Ĉ P w K mg base (ż P w) 5 a.MX a.NY ["points","point"] (ſ ⟨K,đ a⟩ 2 yJ):=by refine Ŀ T.Hl.F Hy λ_ _ _ _ _ _ hr _=>?_;exact ğ Hy (Ù (RY T) T.ig hr ā (Ø 0 (Ø 1 ä))) (Ü (ũ (az li fM (Æ 2) eS (Ľ _)) (Ŗ (ĝ (Ë gc (Ë (Ć (Ù (R0 T) T.lO hr ā (Ø 0 (Ø 1 ä)))) í)))) Ē) (Ŗ (ĝ (Ë gc (Ë (v_var 2) í)))))
def HS(T:Tx K mg a):Ĉ P w K mg base (ż P w) 1 a.MY a.NZ ["point","ray"] (ſ ⟨K,đ a⟩ 2 qV):=by refine Ŀ T.AC.F Ro λ_ _ _ _ _ _ _ _=>?_;exact Ŗ (ĝ (Ë (v_add (İ (ĉ (Æ 1) Í) (ĉ (Æ 0) Í)) (İ (ĉ (Æ 1) Í) (ĉ (Æ 0) Í))) (Ë (v_add (İ (ĉ (Æ 1) Í) (ĉ (Æ 0) Í)) (İ (ĉ (Æ 1) Í) (ĉ (Æ 0) Í))) í)))
def AY(T:Tx K mg a):Ĉ P w K mg base (ż P w) 1 a.MZ a.N_ ["x","y","u","v","z"] (ſ ⟨K,đ a⟩ 5 tE):=by refine Ŀ T.aK.F Rq λ_ _ _ _ _ _ _ _=>?_;exact Ņ (ŷ (Ë (ĝ (Ë (v_var 0) (Ë (v_var 1) (Ë (v_var 4) í)))) (Ë (ĝ (Ë (v_var 2) (Ë (v_var 1) (Ë (v_var 4) í)))) (Ë (ĝ (Ë (v_var 2) (Ë (v_var 3) (Ë (v_var 4) í)))) (Ë (ĝ (Ë (v_var 0) (Ë (v_var 3) (Ë (v_var 4) í)))) í)))))
def HU(T:Tx K mg a):Ĉ P w K mg base (ż P w) 2 a.M_ a.N1 ["x","y","u","v","h"] (ſ ⟨K,đ a⟩ 5 yK):=by refine Ŀ T.cr.F Rr λ_ _ _ _ _ _ hr _=>?_;exact Ņ (ly (ÿ (Ć (Ù (AY T) T.aK hr ā (Ø 0 (Ø 1 (Ø 2 (Ø 3 (ñ ģ ä)))))))) (ÿ (Ć (Ù (AY T) T.aK hr ā (Ø 0 (Ø 1 (Ø 2 (Ø 3 (Ø 4 ä)))))))))
def R6(T:Tx K mg a):Ĉ P w K mg base (ż P w) 3 a.Hb a.N2 ["self"] (ſ ⟨K,đ a⟩ 1 nC):=by refine Ŀ T.ii.F AS λ_ _ _ _ _ _ hr _=>?_;exact ğ AS (ő (v_mul Í (ĉ (ÿ (dN ["Thing","Post","Fence","Sail","Cloth","House"] (Zc T) (Æ 0))) Í))) (ğ AS (ő (v_mul Í (ĉ (ÿ (dN ["Thing","Post","Fence","Sail","Cloth","House"] (Zc T) (Æ 0))) Í))) (Ņ (Ù (HU T) T.cr hr ā (ñ (v_sub (Æ 1) Í) (ñ (v_sub (Æ 2) Í) (ñ (v_add (Æ 1) Í) (ñ (v_add (Æ 2) Í) (ñ (Ž (ÿ (dN ["Thing","Post","Fence","Sail","Cloth","House"] (Zc T) (Æ 0))) Í) ä))))))))
def R7(T:Tx K mg a):Ĉ P w K mg base (ż P w) 1 a.Hd a.N3 ["self"] (ſ ⟨K,đ a⟩ 1 nD):=by refine Ŀ T.gv.F wN λ_ _ _ _ _ _ _ _=>?_;exact ğ wN (ő (dN ["Thing","Post","Fence","Sail","Cloth","House"] (Zc T) (Æ 0))) (ğ wN (ő (ĝ (Ë (Ž (Æ 1) Í) (Ë (Ž (Æ 1) Í) í)))) (ğ wN (ő (ĝ (Ë (Ž (Æ 1) Í) (Ë (Ž (Æ 1) Í) í)))) (Ņ (ŷ (Ë (v_add (Æ 2) (ÿ (ĝ (Ë ģ í)))) (Ë (v_add (Æ 3) (ÿ (ĝ (Ë ģ í)))) (Ë (v_add (Æ 3) (ÿ (ĝ (Ë (Ž (Æ 1) Í) í)))) (Ë (v_add (Æ 2) (ÿ (ĝ (Ë (Ž (Æ 1) Í) í)))) í))))))))
def R8(T:Tx K mg a):Ĉ P w K mg base (ż P w) 2 a.He a.N4 ["self"] (ſ ⟨K,đ a⟩ 1 nE):=by refine Ŀ T.ij.F Hz λ_ _ _ _ _ _ hr _=>?_;exact ğ Hz (ő (dN ["Thing","Post","Fence","Sail","Cloth","House"] (Zc T) (Æ 0))) (Ņ (Ù (AY T) T.aK hr ā (ñ (Ž (Æ 1) Í) (ñ (Ž (Æ 1) Í) (ñ (Ž (Æ 1) Í) (ñ (Ž (Æ 1) Í) (ñ (Ž (Æ 1) Í) ä)))))))
def R9(T:Tx K mg a):Ĉ P w K mg base (ż P w) 1 a.Hf a.N5 ["self"] (ſ ⟨K,đ a⟩ 1 nF):=by refine Ŀ T.gw.F Rs λ_ _ _ _ _ _ _ _=>?_;exact Ņ (cp (eQ (ĝ (Ë ģ (Ë ģ (Ë ģ í))))) ž ľ (Za1 FD FE T.pY oX (Ú (ÿ (Ć (cL (ÿ (dN ["Thing","Post","Fence","Sail","Cloth","House"] (Zc T) (Æ 0))) (cn (v_var 1)) (cn (v_add (Æ 1) Í))))) ù)))
def Sa(T:Tx K mg a):Ĉ P w K mg base (ż P w) 3 a.Hg a.N6 ["self"] (ſ ⟨K,đ a⟩ 1 nG):=by refine Ŀ T.gx.F HA λ_ _ _ _ _ _ hr _=>?_;exact ğ HA (ő (dN ["Thing","Post","Fence","Sail","Cloth","House"] (Zc T) (Æ 0))) (Ņ (Ù (HU T) T.cr hr ā (ñ (Ž (Æ 1) Í) (ñ (Ž (Æ 1) Í) (ñ (Ž (Æ 1) Í) (ñ (Ž (Æ 1) Í) (ñ (Ž (Æ 1) Í) ä)))))))
def Sb(T:Tx K mg a):Ĉ P w K mg base (ż P w) 4 a.M0 a.N7 ["thing","ray"] (ſ ⟨K,đ a⟩ 2 C7):=by refine Ŀ T.ik.F Rt λ_ _ _ _ _ _ hr _=>?_;exact Ņ (cp (Gi (eQ (Ć (JG (Iq:= "corners") (k:=3) (n:=1) (gK:=[("Post",nC),("Fence",nD),("Sail",nE),("Cloth",nF),("House",nG)]) ⟨⟨T.AF,_,_,_,T.rE,(R6 T).mono (by decide),T.ii.b,aA⟩,⟨⟨T.wE,_,_,_,T.nW,(R7 T).mono (by decide),T.gv.b,aA⟩,⟨⟨T.AG,_,_,_,T.rH,(R8 T).mono (by decide),T.ij.b,aA⟩,⟨⟨T.wG,_,_,_,T.nY,(R9 T).mono (by decide),T.gw.b,aA⟩,⟨⟨T.wI,_,_,_,T.n_,(Sa T).mono (by decide),T.gx.b,aA⟩,trivial⟩⟩⟩⟩⟩ hr.mo Ϣ (v_var 0))))) ž ľ (Ć (Ù (HS T) T.AC hr Ϣ (Ø 1 (Ø 0 ä)))))
def Sc(T:Tx K mg a):Ĉ P w K mg base (ż P w) 2 a.M1 a.N8 ["stone","ray"] (ſ ⟨K,đ a⟩ 2 C8):=by refine Ŀ T.lP.F Ru λ_ _ _ _ _ _ hr _=>?_;exact Ņ (Ù (HS T) T.AC hr ā (ñ (ĝ (Ë (v_mul Í (ĉ (Æ 0) Í)) (Ë (v_mul Í (ĉ (Æ 0) Í)) (Ë ģ í)))) (Ø 1 ä)))
def Sd(T:Tx K mg a):Ĉ P w K mg base (ż P w) 6 a.M6 a.N9 ["thing","stone","ray"] (ſ ⟨K,đ a⟩ 3 C9):=by refine Ŀ T.tJ.F Rv λ_ _ _ _ _ _ hr _=>?_;exact Ņ (Ù (R5 T) T.Hl hr ā (ñ (Ć (Ù (Sb T) T.ik hr ā (Ø 0 (Ø 2 ä)))) (ñ (Ć (Ù (Sc T) T.lP hr ā (Ø 1 (Ø 2 ä)))) ä)))
def Se(T:Tx K mg a):Ĉ P w K mg base (ż P w) 7 a.M7 a.Oa ["thing","stone","ray"] (ſ ⟨K,đ a⟩ 3 tF):=by refine Ŀ T.yS.F Rw λ_ _ _ _ _ _ hr hu=>?_;exact Ŗ (v_eq hu (ĉ (ÿ (Ć (Ù (Sd T) T.tJ hr ā (Ø 0 (Ø 1 (Ø 2 ä)))))) Í) eT)
def Sf(T:Tx K mg a):Ĉ P w K mg base (ż P w) 8 a.M8 a.Ob ["yard","turn","stone"] (ſ ⟨K,đ a⟩ 3 lF):=by refine Ŀ T.tK.F HC λ_ _ _ _ _ _ hr _=>?_;exact Ü (ũ (az li fM (Æ 1) eS (Ľ _)) (Ŗ si) Ē) (Ü (Ϙ ĵ rfl (eQ (dN ["Yard"] (Z0r T) (Æ 0))) (ņ HC) (ă (ũ (aR (ÿ (Ć (Ù (Se T) T.yS hr ā (Ø 3 (Ø 2 (Ø 1 ä))))))) (Ŗ si) Ē))) (Ŗ si))
def Sg(T:Tx K mg a):Ĉ P w K mg base (ż P w) 9 a.M9 a.Oc ["yard","stone"] (ſ ⟨K,đ a⟩ 2 Db):=by refine Ŀ T.im.F AT λ_ _ _ _ _ _ hr _=>?_;exact ğ AT (ŷ í) (Ü (Ϙ ĵ rfl (ŏ rfl T.ŕ (Ë (ŉ Ÿ Ż T.ax Ŕ (Ú (ÿ (dN ["Yard"] (ZS T) (Æ 0))) ù)) í)) (ņ AT) (ă (PS.wk (Ŷ (ce ύ Ϯ aj ŗ (pv 2) (Ë (Ć (cp (Gi (eQ (Ć (Ù (HM T) T.jM hr Ϣ (Ø 0 (Ø 3 ä)))))) ž ľ (Ć (Ù (Sf T) T.tK hr Ϣ (Ø 0 (Ø 2 (Ø 1 ä))))))) í))) λ_ _ _ h=>aJ h))) (Ņ (cu 2)))
def Sh(T:Tx K mg a):Ĉ P w K mg base (ż P w) 1 a.Na a.Od ["truths"] (ſ ⟨K,đ a⟩ 1 Dc):=by refine Ŀ T.jC.F rK λ_ _ _ _ _ _ _ _=>?_;exact ğ rK (ő ģ) (Ü (Ϙ ĵ rfl (F8 rfl T.ip (KZ 0)) (jv rfl (ú (ņ rK) (ú (ņ rK) ź))) (ă (ũ (aR (Æ 3)) (ă (F9 (i:=1) rK.nd rfl (Ġ rfl) (aw zP zQ Í (Æ 2)))) Ē))) (Ņ (cu 1)))
def Si(T:Tx K mg a):Ĉ P w K mg base (ż P w) 1 a.Nb a.Oe ["number","width"] (ſ ⟨K,đ a⟩ 2 yL):=by refine Ŀ T.rn.F Rx λ_ _ _ _ _ _ _ _=>?_;exact Ŗ (ĝ (Ë (v_mod (Æ 0) (Æ 1)) (Ë (ny (Æ 0) (Æ 1)) í)))
def Sj(T:Tx K mg a):Ĉ P w K mg base (ż P w) 10 a.Nc a.Of ["yard","number","pairs"] (ſ ⟨K,đ a⟩ 3 yM):=by refine Ŀ T.gy.F HD λ_ _ _ _ _ _ hr hu=>?_;exact ğ HD (Ù (Sg T) T.im hr ā (Ø 0 (ñ (Ć (Ù (Si T) T.rn hr ā (Ø 1 (ñ (dN ["Yard"] (Z04 T) (Æ 0)) ä)))) ä))) (Ņ (Ù (Sh T) T.jC hr ā (ñ (Ć (cp (ϐ 2) (jv rfl (ú ž (ú ž (ú ž ź)))) ľ (eN xM (qf hu) (ĉ (ĉ (Æ 0) (Æ 1)) (Æ 2)) (ĉ (ĉ (Æ 0) (Æ 1)) (Æ 3)) (Ľ _)))) ä)))
def HV(T:Tx K mg a):Ĉ P w K mg base (ż P w) 11 a.Nd a.Og ["yard","numbers"] (ſ ⟨K,đ a⟩ 2 ia):=by refine Ŀ T.wz.F wO λ_ _ _ _ _ _ hr hu=>?_;exact Ü (Qf (Ć (Ù (RM T) T.gp hr ā (Ø 0 (Ø 1 ä))))) (ğ wO (Ù (Qqj1 T) T.eU hr ā (Ø 0 ä)) (Ü (yq wO (ϐ 1) ž ľ (Ć (Ù (Sj T) T.gy hr Ϣ (Ø 0 (Ø 2 (Ø 1 ä)))))) (ğ wO (Go 0 T.bC.bd (RQ T) aA hr.mo rfl T.bC.m T.bC.F.kp ā (ñ (Ć (cp (ϐ 1) ž ľ ģ)) (Ø 3 (ñ (ŉ Ÿ Ż T.ax Ŕ (Ú (Æ 2) ù)) ä)))) (Ü (ũ (Ab 4 (eX hu (ĉ (Æ 4) Í) eT)) (Ņ (ly (ÿ (ĝ (Ë gc í))) (ĉ (Æ 2) (ĉ (Æ 4) Í)))) Ē) (Ņ (QW 4))))))
def HW(T:Tx K mg a):Ĉ P w K mg base (ż P w) 1 a.Nf a.Oh ["_law_number","_law_k"] (ſ ⟨K,đ a⟩ 2 yN):=by refine Ŀ T.fY.F wP λ_ _ _ _ _ _ _ _=>?_;exact ğ wP (ly (cW (ae (Æ 0) Í) (İ Í (Æ 1))) Í) (Ü (ge (ŉ DN DO T.Ho PyProof.Rows.boot_divmod (Ú (cW (İ (Æ 0) Í) (İ (Æ 1) Í)) (Ú Í ù))) (gj rfl (ú (ņ wP) (ú (ņ wP) ź)))) (Ŗ (v_mod (cW (cW (İ (Æ 2) (Æ 2)) (İ (Æ 3) (cW (Æ 3) Í))) (Æ 1)) Í)))
def Sk(T:Tx K mg a):Ĉ P w K mg base (ż P w) 2 a.Ng a.Oi ["_law_cell_here","_law_many"] (ſ ⟨K,đ a⟩ 2 Dd):=by refine Ŀ T.rz.F mY λ_ _ _ _ _ _ hr hu=>?_;exact ğ mY (ő (v_mod (Æ 0) Í)) (ğ mY (ő (v_mod (aT (Æ 0) Í) (İ (İ (ÿ (aw fT fN Í Í)) (ÿ (aw fT fN Í Í))) (ÿ (aw fT fN Í Í))))) (ğ mY (ŷ í) (Ü (Ϙ ĵ rfl (ŏ rfl T.ŕ (Ë (v_var 1) í)) (ņ mY) (ă (ũ (eX hu (Æ 2) Í) (Ü (PS.wk (Ŷ (ce ύ Ϯ aj ŗ (pv 3) (Ë (v_mod (Æ 0) (ÿ (aw fT fN Í Í))) í))) λ_ _ _ h=>aJ h) (ă (lz mY (ő (ny (Æ 0) (ÿ (aw fT fN Í Í))))))) (ă (PS.wk (Ŷ (ce ύ Ϯ aj ŗ (pv 3) (Ë (Ć (Ù (HW T) T.fY hr ā (ñ (v_add (ÿ (Ć (Ù (HW T) T.fY hr ā (Ø 0 (Ø 4 ä))))) (Æ 0)) (Ø 4 ä)))) í))) λ_ _ _ h=>aJ h))))) (Ņ (cu 3)))))
def Sn(T:Tx K mg a):Ĉ P w K mg base (ż P w) 3 a.Nh a.Oj ["_law_cell_here","_law_many"] (ſ ⟨K,đ a⟩ 2 De):=by refine Ŀ T.rC.F AU λ_ _ _ _ _ _ hr hu=>?_;exact ğ AU (ŷ í) (Ü (Ϙ ĵ rfl (eQ (Ć (Ù (Sk T) T.rz hr ā (Ø 0 (Ø 1 ä))))) (ņ AU) (ă (ũ (eX hu (ae (Æ 3) Í) Í) (ă (PS.wk (Ŷ (ce ύ Ϯ aj ŗ (pv 2) (Ë jt í))) λ_ _ _ h=>aJ h)) (ă (PS.wk (Ŷ (ce ύ Ϯ aj ŗ (pv 2) (Ë (ĝ (Ë (v_sub (ae (aT (Æ 3) Í) Í) Í) (Ë (v_sub (ae (aT (Æ 3) Í) Í) Í) (Ë (v_add Í (ae (aT (Æ 3) Í) Í)) í)))) í))) λ_ _ _ h=>aJ h))))) (Ņ (cu 2)))
def Sq(T:Tx K mg a):Ĉ P w K mg base (ż P w) 1 a.Ni a.Ol ["_law_e","_law_number"] (ſ ⟨K,đ a⟩ 2 tH):=by refine Ŀ T.io.F HE λ_ _ _ _ _ _ _ hu=>?_;exact Ü (ũ (PW.pt (w_or (ql (aR (ÿ (ŉ ť (Ŧ T.iC T.iT T.iD T.iN) T.č ţ (Ú (Æ 0) (Ú (ÿ (lT (.cls "YardError") (bj (v:=.ref (đ a "YardError")) rfl (Z17 T) rfl))) ù)))))) (xF (ql (aR (ÿ (ŉ ť (Ŧ T.iC T.iT T.iD T.iN) T.č ţ (Ú (Æ 0) (Ú (ÿ (lT (.ty "ValueError") (ao (v:=.ty "ValueError") rfl T.wA (show bg "ValueError" =some (.type "ValueError") by kernel_rfl) rfl))) ù))))))))) (Ŗ si) Ē) (ğ HE (ŷ (Ë (ŉ ť (Ŧ T.iC T.iT T.iD T.iN) T.č ţ (Ú (Æ 0) (Ú (ÿ (lT (.cls "NoNumber") (bj (v:=.ref (đ a "NoNumber")) rfl (Z0o T) rfl))) ù))) (Ë (ŉ ť (Ŧ T.iC T.iT T.iD T.iN) T.č ţ (Ú (Æ 0) (Ú (ÿ (lT (.cls "BadThing") (bj (v:=.ref (đ a "BadThing")) rfl (Z0p T) rfl))) ù))) (Ë (ŉ ť (Ŧ T.iC T.iT T.iD T.iN) T.č ţ (Ú (Æ 0) (Ú (ÿ (lT (.cls "NoTurn") (bj (v:=.ref (đ a "NoTurn")) rfl (Z2g T) rfl))) ù))) (Ë (ŉ ť (Ŧ T.iC T.iT T.iD T.iN) T.č ţ (Ú (Æ 0) (Ú (ÿ (lT (.cls "BadRow") (bj (v:=.ref (đ a "BadRow")) rfl (Z2h T) rfl))) ù))) í))))) (Ü (ũ (az Gg (QM hu) (ÿ si) (cW (Æ 2) (ÿ (Ć (ŷ (Ë (ŉ ť (Ŧ T.iC T.iT T.iD T.iN) T.č ţ (Ú (Æ 0) (Ú (ÿ (lT (.cls "NoRow") (bj (v:=.ref (đ a "NoRow")) rfl (Z2V T) rfl))) ù))) (Ë (ŉ ť (Ŧ T.iC T.iT T.iD T.iN) T.č ţ (Ú (Æ 0) (Ú (ÿ (lT (.cls "NoDay") (bj (v:=.ref (đ a "NoDay")) rfl (Z2W T) rfl))) ù))) í)))))) (by with_unfolding_all rfl)) (Ŗ si) Ē) (Ŗ (v_and (ŉ ť (Ŧ T.iC T.iT T.iD T.iN) T.č ţ (Ú (ÿ (zZ ["NoStone"] ⟨⟨T.jj,T.aL⟩,trivial⟩ (v_var 0))) (Ú (ÿ (lT (.ty "int") (ao (v:=.ty "int") rfl T.On BA rfl))) ù))) (v_and (v_not (ŉ ť (Ŧ T.iC T.iT T.iD T.iN) T.č ţ (Ú (ÿ (zZ ["NoStone"] ⟨⟨T.jj,T.aL⟩,trivial⟩ (v_var 0))) (Ú (ÿ (lT (.ty "bool") (ao (v:=.ty "bool") rfl T.Hn BB rfl))) ù)))) (eO (v_eq hu (ÿ (zZ ["NoStone"] ⟨⟨T.jj,T.aL⟩,trivial⟩ (v_var 0))) (Æ 1))))))))
def Sr(T:Tx K mg a):Ĉ P w K mg base (ż P w) 12 a.Nj a.Hi ["_law_script"] (ſ ⟨K,đ a⟩ 1 qZ):=by refine Ŀ T.Hm.F Ũ λ_ _ outer _ _ _ hr hu=>?_;exact ğ Ũ (ő (v_mod (ÿ (Ć (Ù (mZ T) T.af hr ā (Ø 0 (ñ ģ ä))))) (ÿ (aw fT fN Í Í)))) (ğ Ũ (ő (ĝ (Ë (v_add Í (ae (Æ 1) Í)) (Ë (v_add Í (ae (aT (Æ 1) Í) Í)) í)))) (ğ Ũ (Ù (Ry T) T.lG hr ā (Ø 0 (ñ ģ (ñ (v_mod (aT (Æ 1) Í) Í) ä)))) (ğ Ũ (ŷ í) (Ü (Ϙ ĵ rfl (ŏ rfl T.ŕ (Ë (v_add Í (ae (aT (Æ 1) Í) Í)) í)) (ņ Ũ) (ă (PS.wk (Ŷ (ce ύ Ϯ aj ŗ (pv 4) (Ë (Ć (Ù (Sn T) T.rC hr ā (ñ (Ć (Ù (mZ T) T.af hr ā (Ø 0 (ñ (v_add Í (Æ 5)) ä)))) (ñ (v_add Í (ae (aT (aT (Æ 1) Í) (cW (Æ 5) Í)) Í)) ä)))) í))) λ_ _ _ h=>aJ h))) (Ü (ũ (eX hu (ae (aT (Æ 1) Í) Í) Í) (ă (lz Ũ (ŷ í))) Ē) (Ü (yq Ũ (ŏ rfl T.ŕ (Ë (v_mod (aT (Æ 1) Í) Í) í)) ž ľ (v_mod (ÿ (Ć (Ù (mZ T) T.af hr Ϣ (Ø 0 (ñ (v_add Í (Æ 2)) ä))))) (İ (ĉ (Æ 1) Í) (ĉ (Æ 1) Í)))) (Ü (ũ (PW.pt (w_and (eX hu (ae (aT (Æ 1) Í) Í) Í) (gU (eX hu (ÿ (ŉ Ÿ Ż T.ax Ŕ (Ú (Æ 4) ù))) Í)))) (ğ Ũ (cL (cW (Æ 6) (ÿ (Ć (ŷ (Ë ģ (Ë ģ (Ë ģ (Ë ģ (Ë ģ (Ë ģ (Ë ģ (Ë ģ í)))))))))))) mz (cn ģ)) (ă (yq Ũ (ϐ 6) ž ľ (v_mod (Æ 1) (İ (ĉ (Æ 0) Í) (ĉ (Æ 0) Í)))))) Ē) (ğ Ũ (ő jt) (Ü (ũ (eX hu (ae (aT (Æ 1) Í) Í) Í) (ğ Ũ (ŷ (Ë (lc bu bo Í) (Ë (v_mul (ĉ (Æ 2) Í) (ĉ (Æ 2) Í)) (Ë (aw fT fN Í Í) (Ë (lc bu bo (ÿ (aw fT fN Í Í))) (Ë (lc bu bo Í) (Ë (v_add (İ (ĉ (Æ 2) Í) (ĉ (Æ 2) Í)) Í) í))))))) (ğ Ũ (ő (Ž (Æ 14) (ae (aT (Æ 1) Í) Í))) (ğ Ũ (cL (Æ 6) mz (cn ģ)) (ğ Ũ (ő (v_mod (ÿ (Ć (Ù (mZ T) T.af hr ā (Ø 0 (ñ ģ ä))))) (cW (ÿ (ŉ Ÿ Ż T.ax Ŕ (Ú (Æ 6) ù))) Í))) (ğ Ũ (UN (Ë (Ž (Æ 14) (ae (ÿ (Ć (Ù (mZ T) T.af hr ā (Ø 0 (ñ ģ ä))))) Í)) í) (ae (aT (Æ 1) Í) Í)) (ă (lz Ũ (ly (cW (cW (ÿ (Ć (cL (Æ 6) mz (cn (v_var 15))))) (ÿ (Ć (ŷ (Ë (v_var 7) í))))) (ÿ (Ć (cL (Æ 6) (cn (v_var 15)) mz)))) (Æ 16))))))))) Ē) (ğ Ũ (Ù (RF T) T.nI hr ā (Ø 2 (Ø 3 (Ø 4 ä)))) (ğ Ũ (sr bY bZ T.bM ah (Ú (Æ 6) ù)) (ğ Ũ (ő jt) (ğ Ũ (ő jt) (Ü (U1 ⟨_,outer,rfl,rfl,rfl⟩ (λ_ _ _ IA=>(ă (lz Ũ (Ù (HV T) T.wz hr IA (Ø 8 (Ø 9 ä)))))) (ZaI (Dn:= "NoStone") (i:=12) Ũ.nd rfl rfl rfl (Z0C T) T.D7 T.AI T.AJ (λe=>(ă (lz Ũ (ő (v_var 12))))) U0)) (Ü (ũ (Gp hu (Æ 9) (Æ 6)) (Ŗ si) Ē) (Ü (ũ (az lj pQ (Æ 7) eS (Ľ _)) (Ŗ (v_and (eN lj pQ (Æ 10) eS (Ľ _)) (eO (Ć (Ù (Sq T) T.io hr ā (Ø 10 (Ø 7 ä))))))) Ē) (ğ Ũ (Ù (RL T) T.rk hr ā (Ø 2 (Ø 3 (Ø 4 (Ø 6 ä))))) (Ü (ũ (Ab 11 (PW.pt (w_or (az lj pQ (Æ 10) eS (Ľ _)) (xF (ql (aR (ÿ (Ć (Ù (HL T) T.aV hr ā (Ø 11 (Ø 13 ä))))))))))) (Ŗ si) Ē) (Ü (ũ (Ab 11 (eX hu (ĉ (Æ 11) Í) eT)) (ă (PS.wk (Ŷ (ce ύ Ϯ aj ŗ (KA EU (pv 11) Ey (λ_ _=>rfl)) (Ë jt í))) λ_ _ _ h=>Gk h)) Ē) (Ņ (Ù (HL T) T.aV hr ā (ñ (Ć (Ù (HV T) T.wz hr ā (Ø 8 (Ø 6 ä)))) (Ø 13 ä)))))))))))))))))))))))
end
def pt(p:Hu.Pt):PV:=.tup [.int p.1,.int p.2]
def gF(l:Hu.Ln):PV:=.tup [.int l.1,.int l.2.1,.int l.2.2]
def Sm(p:Hu.Pt):Prop:=-100000000000000000<=p.1/\p.1<=100000000000000000/\ -100000000000000000<=p.2/\p.2<=100000000000000000
def Qqj4(l:Hu.Ln):Prop:=-1000000000000000000<=l.1/\l.1<=1000000000000000000/\ -1000000000000000000<=l.2.1/\l.2.1<=1000000000000000000
def Z2i{x y:Hu.Pt}:tQ (pt y) (pt x)=decide (y=x):=by obtain⟨a,b⟩:=x;obtain⟨c,d⟩:=y;unfold pt;rw[QN,jU];simp
def XT(x:Hu.Pt):eE (pt x)=true:=by simp[pt,eE,db]
def Z18(x:Hu.Pt):ze (pt x)=1:=by simp[pt,ze,qt]
def Z4h(S:List Hu.Pt):db (S.map pt)=true:=by
 induction S with
 |nil=>simp[db]
 |cons p S ih=>simp[db,XT,ih]
theorem Z2j(x:Hu.Pt):∀k:List Hu.Pt,(k.map pt).any (λy=>tQ y (pt x))=decide (x∈k)
 | []=>by simp
 |y::k=>by
  rw[ý,di,Z2j x k,Z2i,jU];simp;constructor
  ·rintro (e|e)
   ·exact .inl e.symm
   ·exact .inr e
  ·rintro (e|e)
   ·exact .inl e.symm
   ·exact .inr e
def Z19(x:Hu.Pt)(k:List Hu.Pt):OK true (pt x) (.lst (k.map pt))=some (.bl (!decide (x∈k))):=by unfold OK;simp only[XT,Z4h,Z18,Z2j];rfl
def Z1U(x y:Hu.Pt):bv (pt x) (pt y)=some (.bl (!decide (x=y))):=by unfold bv xL;rw[XT,XT,Z18,Z18,Z2i];rfl
def Z3X{a b:Hu.Pt}(ha:Sm a)(hb:Sm b):C2 [.sh (pt a),.sh (pt b)]=.ret (.sh (gF (Hu.Z7 a b))):=by obtain⟨a1,a2,a3,a4⟩:=ha;obtain⟨b1,b2,b3,b4⟩:=hb;have m1:Ĵ (b.2-a.2) a.1=true:=ϙ (by lia) (by lia);have m2:Ĵ (a.1-b.1) a.2=true:=ϙ (by lia) (by lia);simp[C2,GG,Ï,pt,gF,Hu.Z7,m1,m2]
def Z1a{l:Hu.Ln}(hl:Qqj4 l)(p:Hu.Pt):qR [.sh (gF l),.sh (pt p)]=.ret (.sh (.bl (Hu.hd l p))):=by obtain⟨a1,a2,a3,a4⟩:=hl;have m1:Ĵ l.1 p.1=true:=ϙ (by lia) (by lia);have m2:Ĵ l.2.1 p.2=true:=ϙ (by lia) (by lia);simp[qR,GH,Ï,pt,gF,Hu.hd,m1,m2]
def Z1E{a b:Hu.Pt}(ha:Sm a)(hb:Sm b):Qqj4 (Hu.Z7 a b):=by obtain⟨a1,a2,a3,a4⟩:=ha;obtain⟨b1,b2,b3,b4⟩:=hb;simp only[Qqj4,Hu.Z7];lia
def Sl(s:ϒ)(ps:List PV):Prop:=s=.sh (.lst ps)\/s=.bw ps
def Sl.lend{s:ϒ}{ps:List PV}(h:Sl s ps):gW s=some s:=by rcases h with rfl|rfl<;>rfl
def Sl.it{s:ϒ}{ps:List PV}(h:Sl s ps){i:Nat}{Y:Ĝ}(e:Y[i]?=some s):ń i Y=.ok ps Y:= by
 rcases h with rfl|rfl<;>simp[e]
def Z3Y{S:List Hu.Pt}{sl:ϒ}(hs:Sl sl (S.map pt))(hl:S.length<=1000):C0 [sl]=.ret (.ow ((Hu.Z8 S).map pt)):=by
 have hlen:∀(xs k:List Hu.Pt),(xs.foldl (λk x=>if x∈k then k else k ++ [x]) k).length<=k.length+xs.length:=by
  intro xs
  induction xs with
  |nil=>intro k;simp
  |cons x xs ih=>
   intro k;rw[aC];refine Ĺ (ih _) ?_;split
   ·simp
   ·simp;lia
 have key:∀(xs:List Hu.Pt) (k:List Hu.Pt) (s2:ϒ),k.length+xs.length<=1000->∃Bb,Ĩ (gN 2) mO (xs.map pt) [sl,.ow (k.map pt),s2]=.ok .nx [sl,.ow ((xs.foldl (λk x=>if x∈k then k else k ++ [x]) k).map pt),Bb]:=by
  intro xs
  induction xs with
  |nil=>intro k s2 _;exact⟨s2,rfl⟩
  |cons x xs ih=>
   intro k s2 hk;rw[ŋ] at hk;by_cases hx:x∈k
   ·obtain⟨Bb,e⟩:=ih k (.sh (pt x)) (by lia);refine⟨Bb,?_⟩;have hb:mO [sl,.ow (k.map pt),.sh (pt x)]=.ok .nx [sl,.ow (k.map pt),.sh (pt x)]:=by simp[mO,Z19,hx]
    rw[ý,aC,if_pos hx,Ĩ];simp[hb,e]
   ·obtain⟨Bb,e⟩:=ih (k ++ [x]) (.sh (pt x)) (by simp;lia);refine⟨Bb,?_⟩;have h3:k.length<16777216:=by lia
    have hb:mO [sl,.ow (k.map pt),.sh (pt x)]=.ok .nx [sl,.ow ((k ++ [x]).map pt),.sh (pt x)]:=by simp[mO,Z19,hx,h3]
    rw[ý,aC,if_neg hx,Ĩ];simp only[FG,uh,ui,hb,Ŋ.aq];exact e
 obtain⟨s2,e⟩:=key S [] .no (by simpa using hl);have jq:=hs.it (i:=0) (Y:= [sl,.ow [],.no]) rfl;simp only[be] at e;simp[C0,GF,Ï,-zT,jq,e];rfl
def Z2k(x:Int)(l:List Int):sV [.lst ((x::l).map .int)]=some (.int (Hu.mx (x::l))):=by show((aP ((x::l).map .int)).bind (wY max)).map PV.int=_;rw[jI];rfl
def Z2l(x:Int)(l:List Int):sW [.lst ((x::l).map .int)]=some (.int (Hu.mn (x::l))):=by show((aP ((x::l).map .int)).bind (wY min)).map PV.int=_;rw[jI];rfl
def Z4i{S:List Hu.Pt}{sl:ϒ}(hs:Sl sl (S.map pt))(h0:S≠[])(hl:S.length<=1000):C_ [sl]=.ret (.ow ((Hu.box S).map gF)):=by
 have c1:Ķ (gN 0) Ě (È ã (Â 0) (Ä 0)) (S.map pt) [.no] []=some ((S.map (·.1)).map .int):=by
  have:=Ĕ (g:=gN 0) (mt:=Ě) (me:=È ã (Â 0) (Ä 0)) pt (λp=>.int p.1) (λY=>∃s,Y=[s]) S [.no] [] ⟨_,rfl⟩ (by simp;lia) (by
   rintro x hx Y ⟨s,rfl⟩;exact⟨[.sh (pt x)],[.sh (pt x)],[.sh (pt x)],by simp,by simp,by simp[pt],_,rfl⟩)
  rw[this];simp
 have c2:Ķ (gN 0) Ě (È ã (Â 0) (Ä 1)) (S.map pt) [.no] []=some ((S.map (·.2)).map .int):=by
  have:=Ĕ (g:=gN 0) (mt:=Ě) (me:=È ã (Â 0) (Ä 1)) pt (λp=>.int p.2) (λY=>∃s,Y=[s]) S [.no] [] ⟨_,rfl⟩ (by simp;lia) (by
   rintro x hx Y ⟨s,rfl⟩;exact⟨[.sh (pt x)],[.sh (pt x)],[.sh (pt x)],by simp,by simp,by simp[pt],_,rfl⟩)
  rw[this];simp
 obtain⟨p,R,rfl⟩:=List.exists_cons_of_ne_nil h0;have x1:=Z2k p.1 (R.map (·.1));have x2:=Z2l p.1 (R.map (·.1));have x3:=Z2k p.2 (R.map (·.2));have x4:=Z2l p.2 (R.map (·.2));have jq:∀s1 s2,ń 0 [sl,s1,s2]=.ok ((p::R).map pt) [sl,s1,s2]:=λs1 s2=>hs.it rfl;have b:(Hu.box (p::R)).map gF=[.tup [.int 1,.int 0,.int (Hu.mx (p.1::R.map (·.1)))],.tup [.int (-1),.int 0,.int (- Hu.mn (p.1::R.map (·.1)))],.tup [.int 0,.int 1,.int (Hu.mx (p.2::R.map (·.2)))],.tup [.int 0,.int (-1),.int (- Hu.mn (p.2::R.map (·.2)))]]:=rfl;rw[b];generalize (p::R).map pt=ps at jq c1 c2;rw[ý] at c1 c2;generalize (p.1::R.map (·.1)).map PV.int=us at c1 x1 x2;generalize (p.2::R.map (·.2)).map PV.int=vs at c2 x3 x4;simp[C_,GD,Ï,-zT,-JR,-JS,jq,c1,c2,x1,x2,x3,x4]
theorem ZT:∀l:List Bool,ϵ (l.map .bl)=some l
 | []=>rfl
 |x::l=>by rw[ý,ϵ,ZT l];rfl
def Z2m(l:List Bool):mD [.lst (l.map .bl)]=some (.bl (l.all id)):=by show(ϵ (l.map .bl)).map (λbs=>PV.bl (bs.all id))=_;rw[ZT];rfl
def XU(S:List Hu.Pt):(Hu.Z8 S).length<=S.length:=by
 have:∀(xs k:List Hu.Pt),(xs.foldl (λk x=>if x∈k then k else k ++ [x]) k).length<=k.length+xs.length:=by
  intro xs
  induction xs with
  |nil=>intro k;simp
  |cons x xs ih=>
   intro k;rw[aC];refine Ĺ (ih _) ?_;split
   ·simp
   ·simp;lia
 have h:=this S [];rw[oJ,oU] at h;exact h
def Z2n{S:List Hu.Pt}(hS:∀p∈S,Sm p)(hl:S.length<=1000){a b:Hu.Pt}(ha:a∈S)(hb:b∈S)(s0 s5:ϒ)(L:List Hu.Ln)(hL:L.length<16777216) :
 mQ [s0,.ow (L.map gF),.sh (.lst ((Hu.Z8 S).map pt)),.sh (pt a),.sh (pt b),s5]=.ok .nx [s0,.ow ((L++(if a≠b/\(Hu.Z8 S).all (Hu.hd (Hu.Z7 a b)) then[Hu.Z7 a b] else[])).map gF),.sh (.lst ((Hu.Z8 S).map pt)),.sh (pt a),.sh (pt b),.sh (gF (Hu.Z7 a b))]:=by
 have hsm:=Z1E (hS a ha) (hS b hb);have c1:Ķ (gN 1) Ě (á (ç qR (É 0 (É 1 Þ)))) ((Hu.Z8 S).map pt) [.sh (gF (Hu.Z7 a b)),.no] []=some (((Hu.Z8 S).map (Hu.hd (Hu.Z7 a b))).map .bl):=by
  have hlen:(Hu.Z8 S).length<=16777216:=by have:=XU S;lia
  have:=Ĕ (g:=gN 1) (mt:=Ě) (me:=á (ç qR (É 0 (É 1 Þ)))) pt (λp=>.bl (Hu.hd (Hu.Z7 a b) p)) (λY=>∃s,Y=[.sh (gF (Hu.Z7 a b)),s]) (Hu.Z8 S) [.sh (gF (Hu.Z7 a b)),.no] [] ⟨_,rfl⟩ (by simpa using hlen) (by
   rintro x hx Y ⟨s,rfl⟩;exact⟨[.sh (gF (Hu.Z7 a b)),.sh (pt x)],[.sh (gF (Hu.Z7 a b)),.sh (pt x)],[.sh (gF (Hu.Z7 a b)),.sh (pt x)],by simp,by simp,by simp[Z1a hsm],_,rfl⟩)
  rw[this];simp
 have c2:=Z2m ((Hu.Z8 S).map (Hu.hd (Hu.Z7 a b)));have e1:=Z3X (hS a ha) (hS b hb);have e3:((Hu.Z8 S).map (Hu.hd (Hu.Z7 a b))).all id=(Hu.Z8 S).all (Hu.hd (Hu.Z7 a b)):=by simp
 rw[e3] at c2;generalize ((Hu.Z8 S).map (Hu.hd (Hu.Z7 a b))).map PV.bl=bs at c1 c2;by_cases h1:a=b
 ·subst h1;simp[mQ,e1,Z1U]
 ·by_cases h2:(Hu.Z8 S).all (Hu.hd (Hu.Z7 a b))=true
  ·rw[h2] at c2;simp[mQ,e1,Z1U,h1,c1,c2,h2,hL,-fe]
  ·rw[Bool.not_eq_true] at h2;rw[h2] at c2;simp[mQ,e1,Z1U,h1,c1,c2,h2,hL,-fe,-List.all_eq_false]
def Z30{S:List Hu.Pt}(hS:∀p∈S,Sm p)(hl:S.length<=1000){a:Hu.Pt}(ha:a∈S)(s0:ϒ):∀(xs:List Hu.Pt) (L:List Hu.Ln) (s4 s5:ϒ),(∀x∈xs,x∈S)->L.length+xs.length<16777216->
 ∃oa Em,Ĩ (gN 4) mQ (xs.map pt) [s0,.ow (L.map gF),.sh (.lst ((Hu.Z8 S).map pt)),.sh (pt a),s4,s5]=.ok .nx [s0,.ow ((L++xs.filterMap λb=>if a≠b/\(Hu.Z8 S).all (Hu.hd (Hu.Z7 a b)) then some (Hu.Z7 a b) else none).map gF),.sh (.lst ((Hu.Z8 S).map pt)),.sh (pt a),oa,Em]:=by
 intro xs
 induction xs with
 |nil=>intro L s4 s5 _ _;exact⟨s4,s5,by simp[Ĩ]⟩
 |cons b xs ih=>
  intro L s4 s5 hx hL;rw[ŋ] at hL;have hb:=Z2n hS hl ha (hx b (by simp)) s0 s5 L (by lia);obtain⟨oa,Em,e⟩:=ih (L++(if a≠b/\(Hu.Z8 S).all (Hu.hd (Hu.Z7 a b)) then[Hu.Z7 a b] else[])) (.sh (pt b)) (.sh (gF (Hu.Z7 a b))) (λx h=>hx x (Ă _ h)) (by
   rw[ϩ];split
   ·simp;lia
   ·simp;lia)
  refine⟨oa,Em,?_⟩;rw[ý,Ĩ];simp only[FG,uh,ui,hb,Ŋ.aq];rw[e,oB];by_cases hc:a≠b/\(Hu.Z8 S).all (Hu.hd (Hu.Z7 a b))=true
  ·rw[if_pos hc,if_pos hc];simp only[bO,kc,Ś]
  ·rw[if_neg hc,if_neg hc];simp only[cx]
def Z09{α β:Type}(f:α->Option β)(l:List α):(l.filterMap f).length<=l.length:=List.length_filterMap_le ..
def Z31{S:List Hu.Pt}(hS:∀p∈S,Sm p)(hl:S.length<=1000)(s0:ϒ):∀(xs:List Hu.Pt) (L:List Hu.Ln) (s3 s4 s5:ϒ),(∀x∈xs,x∈S)->L.length+xs.length*1000<10000000->
 ∃tX oa Em,Ĩ (gN 3) vY (xs.map pt) [s0,.ow (L.map gF),.sh (.lst ((Hu.Z8 S).map pt)),s3,s4,s5]=.ok .nx [s0,.ow ((L++xs.flatMap λa=>(Hu.Z8 S).filterMap λb=>if a≠b/\(Hu.Z8 S).all (Hu.hd (Hu.Z7 a b)) then some (Hu.Z7 a b) else none).map gF),.sh (.lst ((Hu.Z8 S).map pt)),tX,oa,Em]:=by
 intro xs
 induction xs with
 |nil=>intro L s3 s4 s5 _ _;exact⟨s3,s4,s5,by simp[Ĩ]⟩
 |cons a xs ih=>
  intro L s3 s4 s5 hx hL;rw[ŋ] at hL;have ho:=XU S;obtain⟨a4,a5,e1⟩:=Z30 hS hl (hx a (by simp)) s0 (Hu.Z8 S) L s4 s5 (λx h=>Hu.Zx.mp h) (by lia);have hf:=Z09 (λb=>if a≠b/\(Hu.Z8 S).all (Hu.hd (Hu.Z7 a b))=true then some (Hu.Z7 a b) else none) (Hu.Z8 S);obtain⟨tX,oa,Em,e2⟩:=ih (L++(Hu.Z8 S).filterMap λb=>if a≠b/\(Hu.Z8 S).all (Hu.hd (Hu.Z7 a b))=true then some (Hu.Z7 a b) else none) (.sh (pt a)) a4 a5 (λx h=>hx x (Ă _ h)) (by rw[ϩ];lia);refine⟨tX,oa,Em,?_⟩;have hb:vY [s0,.ow (L.map gF),.sh (.lst ((Hu.Z8 S).map pt)),.sh (pt a),s4,s5]=.ok .nx [s0,.ow ((L++(Hu.Z8 S).filterMap λb=>if a≠b/\(Hu.Z8 S).all (Hu.hd (Hu.Z7 a b))=true then some (Hu.Z7 a b) else none).map gF),.sh (.lst ((Hu.Z8 S).map pt)),.sh (pt a),a4,a5]:=by unfold vY;simp only[Qs,zT,iF,List.getElem?_cons_zero,Ŋ.aq];exact e1
  rw[ý,Ĩ];simp only[FG,uh,ui,hb,Ŋ.aq];rw[e2,ff,bO]
def Z32{S:List Hu.Pt}{sl:ϒ}(hs:Sl sl (S.map pt))(hS:∀p∈S,Sm p)(hl:S.length<=1000):C3 [sl]=.ret (.ow ((Hu.ZR S).map gF)):=by have h1:=Z3Y hs hl;have ho:=XU S;obtain⟨s3,s4,s5,e⟩:=Z31 hS hl sl (Hu.Z8 S) [] .no .no .no (λx h=>Hu.Zx.mp h) (by simp;lia);have he:[]++((Hu.Z8 S).flatMap λa=>(Hu.Z8 S).filterMap λb=>if a≠b/\(Hu.Z8 S).all (Hu.hd (Hu.Z7 a b))=true then some (Hu.Z7 a b) else none)=Hu.ZR S:=rfl;rw[he] at e;generalize Hu.ZR S=ed at e;generalize (Hu.Z8 S).map pt=os at e h1;simp only[be] at e;simp[C3,GI,Ï,hs.lend,h1,e]
def Z2o(S:List Hu.Pt)(hl:S.length<=1000):(Hu.ZR S).length<=1000000:=by
 have ho:=XU S;have:∀(xs:List Hu.Pt) (f:Hu.Pt->List Hu.Ln),(∀x,(f x).length<=1000)->(xs.flatMap f).length<=xs.length*1000:=by
  intro xs f hf
  induction xs with
  |nil=>simp
  |cons x xs ih=>rw[ff,ϩ,ŋ];have:=hf x;lia
 refine Ĺ (this (Hu.Z8 S) _ λx=>Ĺ (Z09 _ _) (by lia)) (by lia)
def Z33{S:List Hu.Pt}{sl:ϒ}(hs:Sl sl (S.map pt))(hS:∀p∈S,Sm p)(h0:S≠[])(hl:S.length<=1000):C4 [sl]=.ret (.ow ((Hu.ZB S).map gF)):=by
 have h1:=Z4i hs h0 hl;have h2:=Z32 hs hS hl;have h3:Ą (.lst ((Hu.box S).map gF)) (.lst ((Hu.ZR S).map gF))=some (.ow ((Hu.ZB S).map gF)):=by rw[rT (by have:=Z2o S hl;simp[Hu.box];lia),<-š];rfl
 simp[C4,GJ,Ï,hs.lend,h1,h2,h3]
def Z4j{S:List Hu.Pt}{l:Hu.Ln}(h:l∈Hu.ZB S)(hS:∀p∈S,Sm p):Qqj4 l:=by
 rcases cw.mp h with h|h
 ·unfold Hu.box at h;simp only[Ā,bP,or_false] at h;rcases h with e|e|e|e<;>subst e<;>simp only[Qqj4]<;>lia
 ·obtain⟨a,ha,b,hb,_,_,rfl⟩:=Hu.ZK.mp h;exact Z1E (hS a ha) (hS b hb)
def Z1V(n:Nat):bJ 0 n 1=(Ò n).map λ(i:Nat)=>PV.int (i:Int):=by unfold bJ;refine uj λi _=>?_;simp
def Zt{n:Nat}(h:n<=1000):ϑ [.int (n:Int)]=some ((Ò n).map λ(i:Nat)=>PV.int (i:Int)):=by
 have hs:ay (n:Int)=true:=by unfold ay;simp;lia
 unfold ϑ;simp[hs,Z1V]
def Ox(s:ϒ)(ps:List PV):Prop:=s=.sh (.lst ps)\/s=.bw ps
def aO(x:Int):Bool:=decide (-1000000000<=x/\x<=1000000000)
def y_(x:Int):Bool:=decide (1<=x/\x<=1000000000)
def zl(x:Int):Bool:=decide (0<=x/\x<=1000000000)
def Z0u(x:Int):nA [~~~x]=.ret (.sh (.bl (aO x))):=by unfold aO;by_cases h1: -1000000000<=x<;>by_cases h2:x<=1000000000<;>simp[nA,Gv,Ï,h1,h2]
def Z0P(x:Int):yx [~~~x]=.ret (.sh (.bl (y_ x))):=by unfold y_;by_cases h1:1<=x<;>by_cases h2:x<=1000000000<;>simp[yx,Gw,Ï,h1,h2]
def Zq:List Int->Bool
 | [p,q,h]=>aO p && aO q && y_ h
 |_=>false
def Zr:List Int->Bool
 | [x,y,u,v,h]=>aO x && aO y && aO u && aO v && y_ h
 |_=>false
def Zm:List Int->Bool
 | [x,y,u,v,h]=>Zr [x,y,u,v,h] && !(decide (x=u) && decide (y=v))
 |_=>false
def Zi:List Int->Bool
 | [x,y,u,v,h]=>Zr [x,y,u,v,h] && decide (x<u) && decide (y<v)
 |_=>false
def Zn:List Int->Bool
 | [a,b,c,d,e,f,g,h,i]=>aO a && aO b && zl c && (aO d && aO e && zl f) && (aO g && aO h && zl i)
 |_=>false
def Z4k(a b c:Bool):mD [.lst [.bl a,.bl b,.bl c]]=some (.bl (a && b && c)):=by cases a<;>cases b<;>cases c<;>rfl
def Z4l(a b c d:Bool):mD [.lst [.bl a,.bl b,.bl c,.bl d]]=some (.bl (a && b && c && d)):=by cases a<;>cases b<;>cases c<;>cases d<;>rfl
def Z10{xs:List Int}{sl:ϒ}(hs:Ox sl (xs.map .int)):yy [sl]=.ret (.sh (.bl (Zq xs))):=by
 by_cases hl:xs.length=3
 ·match xs,hl with
  | [a,b,c],_=>have h:Zq [a,b,c]=(aO a && aO b && y_ c):=rfl;rw[h];rcases hs with rfl|rfl<;>cases ea:aO a<;>cases eb:aO b<;>cases ec:y_ c<;>simp[yy,Ag,Ï,Z0u,Z0P,ea,eb,ec]
 ·have h:Zq xs=false:=by
   unfold Zq;split
   ·simp at hl
   ·rfl
  rw[h];have Kt:¬((xs.length:Nat):Int)=3:=by lia
  rcases hs with rfl|rfl<;>simp[yy,Ag,Ï,Kt]
def Z1F{xs:List Int}{sl:ϒ}(hs:Ox sl (xs.map .int)):td [sl]=.ret (.sh (.bl (Zr xs))):=by
 by_cases hl:xs.length=5
 ·match xs,hl with
  | [a,b,c,d,e],_=>have h:Zr [a,b,c,d,e]=(aO a && aO b && aO c && aO d && y_ e):=rfl;rw[h];have hc:jn ([.int a,.int b,.int c,.int d,.int e]:List PV) none (some 4)=[.int a,.int b,.int c,.int d]:=rfl;have hb:=Z4l (aO a) (aO b) (aO c) (aO d);rcases hs with rfl|rfl<;>cases ea:(aO a && aO b && aO c && aO d)<;>cases ec:y_ e<;>rw[ea] at hb<;>simp[td,Ah,Ï,Z0u,Z0P,hc,Ķ,hb,ec]
 ·have h:Zr xs=false:=by
   unfold Zr;split
   ·simp at hl
   ·rfl
  rw[h];have Kt:¬((xs.length:Nat):Int)=5:=by lia
  rcases hs with rfl|rfl<;>simp[td,Ah,Ï,Kt]
def Z4m(a b c d:Int):bv (.lst [.int a,.int b]) (.lst [.int c,.int d])=some (.bl (!(decide (a=c) && decide (b=d)))):=by
 have h:tQ (.lst [.int a,.int b]) (.lst [.int c,.int d])=(decide (a=c) && decide (b=d)):=by show(decide (a=c) && (decide (b=d) && true))=_;rw[jU];simp
 unfold bv xL;rw[h];simp[eE,db,ze,qt]
def Z3M{xs:List Int}(hl:¬xs.length=5):Zr xs=false:=by
 unfold Zr;split
 ·simp at hl
 ·rfl
def Z1W{s:ϒ}{ps:List PV}(h:Ox s ps):gW s=some s:=by rcases h with rfl|rfl<;>rfl
def Z34{xs:List Int}{sl:ϒ}(hs:Ox sl (xs.map .int)):yz [sl]=.ret (.sh (.bl (Zm xs))):=by
 have he:=Z1F hs;by_cases hl:xs.length=5
 ·match xs,hl with
  | [a,b,c,d,e],_=>have h:Zm [a,b,c,d,e]=(Zr [a,b,c,d,e] && !(decide (a=c) && decide (b=d))):=rfl;rw[h];have h1:jn ([.int a,.int b,.int c,.int d,.int e]:List PV) none (some 2)=[.int a,.int b]:=rfl;have h2:jn ([.int a,.int b,.int c,.int d,.int e]:List PV) (some 2) (some 4)=[.int c,.int d]:=rfl;have h3:=Z4m a b c d;generalize Zr [a,b,c,d,e]=q at*;generalize (!(decide (a=c) && decide (b=d)))=r at*;rcases hs with rfl|rfl<;>cases q<;>simp_all [yz,Ai,Ï]
 ·have h:Zm xs=false:=by
   unfold Zm;split
   ·simp at hl
   ·rfl
  rw[h];rw[Z3M hl] at he;simp[yz,Ai,Ï,Z1W hs,he]
def Z3Z{xs:List Int}{sl:ϒ}(hs:Ox sl (xs.map .int)):D0 [sl]=.ret (.sh (.bl (Zi xs))):=by
 have he:=Z1F hs;by_cases hl:xs.length=5
 ·match xs,hl with
  | [a,b,c,d,e],_=>have h:Zi [a,b,c,d,e]=(Zr [a,b,c,d,e] && decide (a<c) && decide (b<d)):=rfl;rw[h];generalize Zr [a,b,c,d,e]=q at*;rcases hs with rfl|rfl<;>simp only[ý,be] at he<;>cases q<;>by_cases h1:a<c<;>by_cases h2:b<d<;>simp[D0,Gx,Ï,he,h1,h2]
 ·have h:Zi xs=false:=by
   unfold Zi;split
   ·simp at hl
   ·rfl
  rw[h];rw[Z3M hl] at he;simp[D0,Gx,Ï,Z1W hs,he]
def Z0c(a b c:Int):J3 [.sh (.lst [.int a,.int b,.int c])]=.ret (.sh (.bl (aO a && aO b && zl c))):=by unfold zl;cases ea:aO a<;>cases eb:aO b<;>by_cases h1:0<=c<;>by_cases h2:c<=1000000000<;>simp[J3,Md,Ï,Z0u,ea,eb,h1,h2]
def Z35{xs:List Int}{sl:ϒ}(hs:Ox sl (xs.map .int)):yA [sl]=.ret (.sh (.bl (Zn xs))):=by
 by_cases hl:xs.length=9
 ·match xs,hl with
  | [a,b,c,d,e,f,g,h,i],_=>have hc:Zn [a,b,c,d,e,f,g,h,i]=((aO a && aO b && zl c) && (aO d && aO e && zl f) && (aO g && aO h && zl i)):=rfl;rw[hc];have h1:jn ([.int a,.int b,.int c,.int d,.int e,.int f,.int g,.int h,.int i]:List PV) (some 0) (some 3)=[.int a,.int b,.int c]:=rfl;have h2:jn ([.int a,.int b,.int c,.int d,.int e,.int f,.int g,.int h,.int i]:List PV) (some 3) (some 6)=[.int d,.int e,.int f]:=rfl;have h3:jn ([.int a,.int b,.int c,.int d,.int e,.int f,.int g,.int h,.int i]:List PV) (some 6) (some 9)=[.int g,.int h,.int i]:=rfl;have hb:=Z4k (aO a && aO b && zl c) (aO d && aO e && zl f) (aO g && aO h && zl i);have k1:=Z0c a b c;have k2:=Z0c d e f;have k3:=Z0c g h i;generalize (aO a && aO b && zl c)=q1,(aO d && aO e && zl f)=q2,(aO g && aO h && zl i)=q3 at*;rcases hs with rfl|rfl<;>simp[yA,Aj,Ï,Ķ,h1,h2,h3,k1,k2,k3,hb]
 ·have h:Zn xs=false:=by
   unfold Zn;split
   ·simp at hl
   ·rfl
  rw[h];have Kt:¬((xs.length:Nat):Int)=9:=by lia
  rcases hs with rfl|rfl<;>simp[yA,Aj,Ï,Kt]
def Zj(w:Str):String:=if w= "post" then "Post" else if w= "fence" then "Fence" else if w= "sail" then "Sail" else if w= "cloth" then "Cloth" else "House"
def Za(C:String)(w:Str)(xs:List Int):PV:=.ins C ["word","numbers"] [.str w,.lst (xs.map .int)]
def Zg(w:Str)(xs:List Int):Bool:=if w= "post" then Zq xs else if w= "fence" then Zm xs else if w= "sail" then Zi xs else if w= "cloth" then Zn xs else if w= "house" then Zi xs else false
def wn:((Ì "word")=(Ì "numbers"))=False:=eq_false (by decide +kernel)
def ZY{C:String}(hC:(["Thing","Post","Fence","Sail","Cloth","House"]:List String).contains C=true)(w:Str){xs:List Int}{sl:ϒ}(hs:Ox sl (xs.map .int)):dP 3 3 C gl [.sh (.str w),sl]=.ok ["word","numbers"] [.str w,.lst (xs.map .int)]:=by rcases hs with rfl|rfl<;>simp[dP,gl,lm,IR.of,Ï,putN,vB,hC,wn,-List.contains_eq_mem,-ke]
def s1:Ϝ (Ì "post")=true:=by decide +kernel
def s2:Ϝ (Ì "fence")=true:=by decide +kernel
def s3:Ϝ (Ì "sail")=true:=by decide +kernel
def s4:Ϝ (Ì "cloth")=true:=by decide +kernel
def s5:Ϝ (Ì "house")=true:=by decide +kernel
def d12:(Ì "post" =Ì "fence")=False:=eq_false (by decide +kernel)
def d13:(Ì "post" =Ì "sail")=False:=eq_false (by decide +kernel)
def d14:(Ì "post" =Ì "cloth")=False:=eq_false (by decide +kernel)
def d15:(Ì "post" =Ì "house")=False:=eq_false (by decide +kernel)
def d21:(Ì "fence" =Ì "post")=False:=eq_false (by decide +kernel)
def d23:(Ì "fence" =Ì "sail")=False:=eq_false (by decide +kernel)
def d24:(Ì "fence" =Ì "cloth")=False:=eq_false (by decide +kernel)
def d25:(Ì "fence" =Ì "house")=False:=eq_false (by decide +kernel)
def d31:(Ì "sail" =Ì "post")=False:=eq_false (by decide +kernel)
def d32:(Ì "sail" =Ì "fence")=False:=eq_false (by decide +kernel)
def d34:(Ì "sail" =Ì "cloth")=False:=eq_false (by decide +kernel)
def d35:(Ì "sail" =Ì "house")=False:=eq_false (by decide +kernel)
def d41:(Ì "cloth" =Ì "post")=False:=eq_false (by decide +kernel)
def d42:(Ì "cloth" =Ì "fence")=False:=eq_false (by decide +kernel)
def d43:(Ì "cloth" =Ì "sail")=False:=eq_false (by decide +kernel)
def d45:(Ì "cloth" =Ì "house")=False:=eq_false (by decide +kernel)
def d51:(Ì "house" =Ì "post")=False:=eq_false (by decide +kernel)
def d52:(Ì "house" =Ì "fence")=False:=eq_false (by decide +kernel)
def d53:(Ì "house" =Ì "sail")=False:=eq_false (by decide +kernel)
def d54:(Ì "house" =Ì "cloth")=False:=eq_false (by decide +kernel)
def Z36{w:Str}(hw:Ϝ w=true){xs:List Int}{sl:ϒ}(hs:Ox sl (xs.map .int)):gm [.sh (.str w),sl]=if Zg w xs=true then .ret (.sh (Za (Zj w) w xs)) else .exc ⟨"BadThing",[],[]⟩:=by
 have e1:=ϕ hw s1;have e2:=ϕ hw s2;have e3:=ϕ hw s3;have e4:=ϕ hw s4;have e5:=ϕ hw s5;have p1:=Z10 hs;have p2:=Z34 hs;have p3:=Z3Z hs;have p4:=Z35 hs;have i1:vS [.sh (.str w),sl]=_:=ZY (by decide) w hs;have i2:qL [.sh (.str w),sl]=_:=ZY (by decide) w hs;have i3:vT [.sh (.str w),sl]=_:=ZY (by decide) w hs;have i4:qM [.sh (.str w),sl]=_:=ZY (by decide) w hs;have i5:qN [.sh (.str w),sl]=_:=ZY (by decide) w hs;have hle:=Z1W hs;unfold Zg Zj Za;by_cases h1:w=Ì "post"
 ·have n2:¬w=Ì "fence" := λz=>(d12▸(h1.symm.trans z):False);have n3:¬w=Ì "sail" := λz=>(d13▸(h1.symm.trans z):False);have n4:¬w=Ì "cloth" := λz=>(d14▸(h1.symm.trans z):False);have n5:¬w=Ì "house" := λz=>(d15▸(h1.symm.trans z):False);rw[decide_eq_true h1] at e1;rw[decide_eq_false n2] at e2;rw[decide_eq_false n3] at e3;rw[decide_eq_false n4] at e4;rw[decide_eq_false n5] at e5;have hg:(if w=Ì "post" then Zq xs else if w=Ì "fence" then Zm xs else if w=Ì "sail" then Zi xs else if w=Ì "cloth" then Zn xs else if w=Ì "house" then Zi xs else false)=Zq xs:=by rw[if_pos h1]
  have hc:(if w=Ì "post" then "Post" else if w=Ì "fence" then "Fence" else if w=Ì "sail" then "Sail" else if w=Ì "cloth" then "Cloth" else "House")= "Post" := by rw[if_pos h1]
  rw[hg,hc];cases q:Zq xs<;>rw[q] at p1<;>simp[gm,jL,dQ,Ï,e1,e2,e3,e4,e5,hle,p1,i1]
 ·skip
  by_cases h2:w=Ì "fence"
  ·have n1:=h1;have n3:¬w=Ì "sail" := λz=>(d23▸(h2.symm.trans z):False);have n4:¬w=Ì "cloth" := λz=>(d24▸(h2.symm.trans z):False);have n5:¬w=Ì "house" := λz=>(d25▸(h2.symm.trans z):False);rw[decide_eq_true h2] at e2;rw[decide_eq_false n1] at e1;rw[decide_eq_false n3] at e3;rw[decide_eq_false n4] at e4;rw[decide_eq_false n5] at e5;have hg:(if w=Ì "post" then Zq xs else if w=Ì "fence" then Zm xs else if w=Ì "sail" then Zi xs else if w=Ì "cloth" then Zn xs else if w=Ì "house" then Zi xs else false)=Zm xs:=by rw[if_neg n1,if_pos h2]
   have hc:(if w=Ì "post" then "Post" else if w=Ì "fence" then "Fence" else if w=Ì "sail" then "Sail" else if w=Ì "cloth" then "Cloth" else "House")= "Fence" := by rw[if_neg n1,if_pos h2]
   rw[hg,hc];cases q:Zm xs<;>rw[q] at p2<;>simp[gm,jL,dQ,Ï,e1,e2,e3,e4,e5,hle,p2,i2]
  ·skip
   by_cases h3:w=Ì "sail"
   ·have n1:=h1;have n2:=h2;have n4:¬w=Ì "cloth" := λz=>(d34▸(h3.symm.trans z):False);have n5:¬w=Ì "house" := λz=>(d35▸(h3.symm.trans z):False);rw[decide_eq_true h3] at e3;rw[decide_eq_false n1] at e1;rw[decide_eq_false n2] at e2;rw[decide_eq_false n4] at e4;rw[decide_eq_false n5] at e5;have hg:(if w=Ì "post" then Zq xs else if w=Ì "fence" then Zm xs else if w=Ì "sail" then Zi xs else if w=Ì "cloth" then Zn xs else if w=Ì "house" then Zi xs else false)=Zi xs:=by rw[if_neg n1,if_neg n2,if_pos h3]
    have hc:(if w=Ì "post" then "Post" else if w=Ì "fence" then "Fence" else if w=Ì "sail" then "Sail" else if w=Ì "cloth" then "Cloth" else "House")= "Sail" := by rw[if_neg n1,if_neg n2,if_pos h3]
    rw[hg,hc];cases q:Zi xs<;>rw[q] at p3<;>simp[gm,jL,dQ,Ï,e1,e2,e3,e4,e5,hle,p3,i3]
   ·skip
    by_cases h4:w=Ì "cloth"
    ·have n1:=h1;have n2:=h2;have n3:=h3;have n5:¬w=Ì "house" := λz=>(d45▸(h4.symm.trans z):False);rw[decide_eq_true h4] at e4;rw[decide_eq_false n1] at e1;rw[decide_eq_false n2] at e2;rw[decide_eq_false n3] at e3;rw[decide_eq_false n5] at e5;have hg:(if w=Ì "post" then Zq xs else if w=Ì "fence" then Zm xs else if w=Ì "sail" then Zi xs else if w=Ì "cloth" then Zn xs else if w=Ì "house" then Zi xs else false)=Zn xs:=by rw[if_neg n1,if_neg n2,if_neg n3,if_pos h4]
     have hc:(if w=Ì "post" then "Post" else if w=Ì "fence" then "Fence" else if w=Ì "sail" then "Sail" else if w=Ì "cloth" then "Cloth" else "House")= "Cloth" := by rw[if_neg n1,if_neg n2,if_neg n3,if_pos h4]
     rw[hg,hc];cases q:Zn xs<;>rw[q] at p4<;>simp[gm,jL,dQ,Ï,e1,e2,e3,e4,e5,hle,p4,i4]
    ·skip
     by_cases h5:w=Ì "house"
     ·have n1:=h1;have n2:=h2;have n3:=h3;have n4:=h4;rw[decide_eq_true h5] at e5;rw[decide_eq_false n1] at e1;rw[decide_eq_false n2] at e2;rw[decide_eq_false n3] at e3;rw[decide_eq_false n4] at e4;have hg:(if w=Ì "post" then Zq xs else if w=Ì "fence" then Zm xs else if w=Ì "sail" then Zi xs else if w=Ì "cloth" then Zn xs else if w=Ì "house" then Zi xs else false)=Zi xs:=by rw[if_neg n1,if_neg n2,if_neg n3,if_neg n4,if_pos h5]
      have hc:(if w=Ì "post" then "Post" else if w=Ì "fence" then "Fence" else if w=Ì "sail" then "Sail" else if w=Ì "cloth" then "Cloth" else "House")= "House" := by rw[if_neg n1,if_neg n2,if_neg n3,if_neg n4]
      rw[hg,hc];cases q:Zi xs<;>rw[q] at p3<;>simp[gm,jL,dQ,Ï,e1,e2,e3,e4,e5,hle,p3,i5]
     ·skip
      rw[decide_eq_false h1] at e1;rw[decide_eq_false h2] at e2;rw[decide_eq_false h3] at e3;rw[decide_eq_false h4] at e4;rw[decide_eq_false h5] at e5;rw[if_neg h1,if_neg h2,if_neg h3,if_neg h4,if_neg h5];simp[gm,jL,dQ,Ï,e1,e2,e3,e4,e5]
abbrev P3:=Int×Int×Int
def c3(p:P3):PV:=.tup [.int p.1,.int p.2.1,.int p.2.2]
def Zz(x y u v z:Int):List P3:=[(x,y,z),(u,y,z),(u,v,z),(x,v,z)]
def ZJ(x y u v h:Int):List P3:=Zz x y u v 0++Zz x y u v h
def Z9(C:String)(xs:List Int):List P3:=
 if C= "Post" then(match xs with
  | [p,q,h]=>ZJ (2*p-1) (2*q-1) (2*p+1) (2*q+1) h
  |_=>[])
 else if C= "Fence" then(match xs with
  | [x,y,u,v,h]=>[(x,y,0),(u,v,0),(u,v,h),(x,y,h)]
  |_=>[])
 else if C= "Sail" then(match xs with
  | [x,y,u,v,h]=>Zz x y u v h
  |_=>[])
 else if C= "Cloth" then(match xs with
  | [a,b,c,d,e,f,g,h,i]=>[(a,b,c),(d,e,f),(g,h,i)]
  |_=>[])
 else(match xs with
  | [x,y,u,v,h]=>ZJ x y u v h
  |_=>[])
def Zl(w:Str)(xs:List Int):List P3:=Z9 (Zj w) xs
def Qqj5{C:String}(hC:(["Thing","Post","Fence","Sail","Cloth","House"]:List String).contains C=true)(w:Str)(xs:List Int):bK ["Thing","Post","Fence","Sail","Cloth","House"] (Ì "numbers") (Za C w xs)=some (.lst (xs.map .int)):=by
 unfold bK Za;dsimp only;rw[if_pos hC];have:(Ì "numbers" == Ì "word")=false:=by decide +kernel
 show ba _ [(_,_),(_,_)]=_;rw[ś,this];simp
def Z1b(x y u v z:Int):tE [~~~x,~~~y,~~~u,~~~v,~~~z]=.ret (.ow ((Zz x y u v z).map c3)):=by simp[tE,GQ,Ï,Zz,c3]
def Z1c(x y u v h:Int):yK [~~~x,~~~y,~~~u,~~~v,~~~h]=.ret (.ow ((ZJ x y u v h).map c3)):=by simp[yK,GR,Ï,Z1b,ZJ,Zz,rT]
def Z4n{xs:List Int}(h:Zq xs=true)(w:Str):nC [.sh (Za "Post" w xs)]=.ret (.ow ((Z9 "Post" xs).map c3)):=by
 match xs,h with
 | [p,q,h],hh=>simp[Zq,aO,y_] at hh;have hf:=Qqj5 (C:= "Post") (by decide) w [p,q,h];generalize Za "Post" w [p,q,h]=v at*;have e:=Z1c (2*p-1) (2*q-1) (2*p+1) (2*q+1) h;simp[nC,GS,Ï,hf,e,Z9]
def Z40{xs:List Int}(h:Zm xs=true)(w:Str):nD [.sh (Za "Fence" w xs)]=.ret (.ow ((Z9 "Fence" xs).map c3)):=by
 match xs,h with
 | [x,y,u,v,h],hh=>have hf:=Qqj5 (C:= "Fence") (by decide) w [x,y,u,v,h];generalize Za "Fence" w [x,y,u,v,h]=t at*;simp[nD,GU,Ï,hf,Z9,c3,Ą]
def Z4o{xs:List Int}(h:Zi xs=true)(w:Str):nE [.sh (Za "Sail" w xs)]=.ret (.ow ((Z9 "Sail" xs).map c3)):=by
 match xs,h with
 | [x,y,u,v,h],hh=>have hf:=Qqj5 (C:= "Sail") (by decide) w [x,y,u,v,h];generalize Za "Sail" w [x,y,u,v,h]=t at*;have e:=Z1b x y u v h;simp[nE,GV,Ï,hf,e,Z9]
def Z41{xs:List Int}(h:Zi xs=true)(w:Str):nG [.sh (Za "House" w xs)]=.ret (.ow ((Z9 "House" xs).map c3)):=by
 match xs,h with
 | [x,y,u,v,h],hh=>have hf:=Qqj5 (C:= "House") (by decide) w [x,y,u,v,h];generalize Za "House" w [x,y,u,v,h]=t at*;have e:=Z1c x y u v h;simp[nG,GX,Ï,hf,e,Z9]
def Z42{xs:List Int}(h:Zn xs=true)(w:Str):nF [.sh (Za "Cloth" w xs)]=.ret (.ow ((Z9 "Cloth" xs).map c3)):=by
 match xs,h with
 | [a,b,c,d,e,f,g,i,j],hh=>have hf:=Qqj5 (C:= "Cloth") (by decide) w [a,b,c,d,e,f,g,i,j];generalize Za "Cloth" w [a,b,c,d,e,f,g,i,j]=t at*;simp[nF,GW,Ï,hf,Z9,c3,Ķ,Qp,jn];exact⟨rfl,rfl,rfl⟩
def gE(r p:P3):Hu.Pt:=(r.2.2*p.1+r.1*p.2.2,r.2.2*p.2.1+r.2.1*p.2.2)
def RB(r:P3):Prop:=-1000000<=r.1/\r.1<=1000000/\ -1000000<=r.2.1/\r.2.1<=1000000/\ -1000000<=r.2.2/\r.2.2<=1000000
def PB(p:P3):Prop:=-10000000000<=p.1/\p.1<=10000000000/\ -10000000000<=p.2.1/\p.2.1<=10000000000/\ -10000000000<=p.2.2/\p.2.2<=10000000000
def Z1G{r:P3}(hr:RB r)(p:P3):qV [.sh (c3 p),.sh (c3 r)]=.ret (.sh (pt (gE r p))):=by obtain⟨a1,a2,a3,a4,a5,a6⟩:=hr;have m1:Ĵ r.2.2 p.1=true:=ϙ (by lia) (by lia);have m2:Ĵ r.2.2 p.2.1=true:=ϙ (by lia) (by lia);have m3:Ĵ r.1 p.2.2=true:=ϙ (by lia) (by lia);have m4:Ĵ r.2.1 p.2.2=true:=ϙ (by lia) (by lia);simp[qV,GP,Ï,pt,c3,gE,m1,m2,m3,m4]
def Qqj6{x y A B:Int}(h1: -A<=x)(h2:x<=A)(h3: -B<=y)(h4:y<=B): -(A*B)<=x*y/\x*y<=A*B:=by
 have hA:0<=A:=by lia
 have hB:0<=B:=by lia
 have e:(x*y).natAbs<=A.natAbs*B.natAbs:=by rw[oy];exact du (by lia) (by lia)
 have e2:((A*B).natAbs)=A.natAbs*B.natAbs:=oy A B;have e3:0<=A*B:=Ň hA hB;lia
def Z2p{r p:P3}(hr:RB r)(hp:PB p):Sm (gE r p):=by obtain⟨a1,a2,a3,a4,a5,a6⟩:=hr;obtain⟨b1,b2,b3,b4,b5,b6⟩:=hp;have q1:=Qqj6 a5 a6 b1 b2;have q2:=Qqj6 a5 a6 b3 b4;have q3:=Qqj6 a1 a2 b5 b6;have q4:=Qqj6 a3 a4 b5 b6;simp only[Sm,gE];lia
def Z2q{w:Str}{xs:List Int}(hg:Zg w xs=true){mo:M PV}{Y Y1:List ϒ}(ho:mo Y=.ok (Za (Zj w) w xs) Y1):qz (Ì "corners") [("Post",nC),("Fence",nD),("Sail",nE),("Cloth",nF),("House",nG)] mo Þ Y=.ok (.ow ((Zl w xs).map c3)) Y1:=by
 have hn:(["word","numbers"]:List Str).contains (Ì "corners")=false:=by decide +kernel
 have key:∀(C:String) (mf:MF),Zj w=C->ba C [("Post",nC),("Fence",nD),("Sail",nE),("Cloth",nF),("House",nG)]=some mf->mf [.sh (Za C w xs)]=.ret (.ow ((Z9 C xs).map c3))->qz (Ì "corners") [("Post",nC),("Fence",nD),("Sail",nE),("Cloth",nF),("House",nG)] mo Þ Y=.ok (.ow ((Zl w xs).map c3)) Y1:=by intro C mf hC hl hf;unfold Zl;rw[hC] at ho ⊢;unfold qz;rw[ho];unfold Za at*;simp only[Ŋ.bind];rw[hl];dsimp only;rw[if_neg (by rw[hn];decide)];simp only[Þ,Ŋ.bind];rw[hf]
 unfold Zg at hg;by_cases e1:w= "post"
 ·rw[if_pos e1] at hg;exact key "Post" _ (by unfold Zj;rw[if_pos e1]) rfl (Z4n hg w)
 rw[if_neg e1] at hg;by_cases e2:w= "fence"
 ·rw[if_pos e2] at hg;exact key "Fence" _ (by unfold Zj;rw[if_neg e1,if_pos e2]) rfl (Z40 hg w)
 rw[if_neg e2] at hg;by_cases e3:w= "sail"
 ·rw[if_pos e3] at hg;exact key "Sail" _ (by unfold Zj;rw[if_neg e1,if_neg e2,if_pos e3]) rfl (Z4o hg w)
 rw[if_neg e3] at hg;by_cases e4:w= "cloth"
 ·rw[if_pos e4] at hg;exact key "Cloth" _ (by unfold Zj;rw[if_neg e1,if_neg e2,if_neg e3,if_pos e4]) rfl (Z42 hg w)
 rw[if_neg e4] at hg;by_cases e5:w= "house"
 ·rw[if_pos e5] at hg;exact key "House" _ (by unfold Zj;rw[if_neg e1,if_neg e2,if_neg e3,if_neg e4]) rfl (Z41 hg w)
 ·rw[if_neg e5] at hg;cases hg
def Z1X{r:P3}(hr:RB r){L:List P3}(hl:L.length<=100)(s1:ϒ):Ķ (gN 1) Ě (á (ç qV (É 1 (É 0 Þ)))) (L.map c3) [.sh (c3 r),s1] []=some ((L.map (gE r)).map pt):=by
 have:=Ĕ (g:=gN 1) (mt:=Ě) (me:=á (ç qV (É 1 (É 0 Þ)))) c3 (λp=>pt (gE r p)) (λY=>∃s,Y=[.sh (c3 r),s]) L [.sh (c3 r),s1] [] ⟨_,rfl⟩ (by simp;lia) (by
  rintro p hp Y ⟨s,rfl⟩;have e:=Z1G hr p;generalize c3 r=R,c3 p=Q at*;exact⟨[R |> .sh,.sh Q],[.sh R,.sh Q],[.sh R,.sh Q],by simp,by simp,by simp[e],_,rfl⟩)
 rw[this];simp
def Z37{w:Str}{xs:List Int}(hg:Zg w xs=true)(hl:(Zl w xs).length<=100){r:P3}(hr:RB r):C7 [.sh (Za (Zj w) w xs),.sh (c3 r)]=.ret (.ow (((Zl w xs).map (gE r)).map pt)):=by have h1:=Z2q hg (mo:=ê 0) (Y:= [.sh (Za (Zj w) w xs),.sh (c3 r)]) (Y1:=[.sh (Za (Zj w) w xs),.sh (c3 r)]) (by simp);have h2:=Z1X hr hl;generalize ((Zl w xs).map (gE r)).map pt=Qqq,(Zl w xs).map c3=Z,Za (Zj w) w xs=v,c3 r=R at*;simp[C7,GY,Ï,h1,h2,-JT]
def wR(s:Hu.Pt):P3:=(2*s.1,2*s.2,0)
def Z1d{w:Str}{xs:List Int}(hg:Zg w xs=true):(Zl w xs).length<=8/\Zl w xs≠[]/\∀p∈Zl w xs,PB p:=by
 have hp:Zq xs=true->(Z9 "Post" xs).length<=8/\Z9 "Post" xs≠[]/\∀p∈Z9 "Post" xs,PB p:=by
  intro h
  match xs,h with
  | [a,b,c],h=>simp[Zq,aO,y_] at h;simp[Z9,ZJ,Zz,PB];omega
 have hf:Zm xs=true->(Z9 "Fence" xs).length<=8/\Z9 "Fence" xs≠[]/\∀p∈Z9 "Fence" xs,PB p:=by
  intro h
  match xs,h with
  | [a,b,c,d,e],h=>simp[Zm,Zr,aO,y_] at h;simp[Z9,PB];omega
 have hs:Zi xs=true->(Z9 "Sail" xs).length<=8/\Z9 "Sail" xs≠[]/\∀p∈Z9 "Sail" xs,PB p:=by
  intro h
  match xs,h with
  | [a,b,c,d,e],h=>simp[Zi,Zr,aO,y_] at h;simp[Z9,Zz,PB];omega
 have hh:Zi xs=true->(Z9 "House" xs).length<=8/\Z9 "House" xs≠[]/\∀p∈Z9 "House" xs,PB p:=by
  intro h
  match xs,h with
  | [a,b,c,d,e],h=>simp[Zi,Zr,aO,y_] at h;simp[Z9,ZJ,Zz,PB];omega
 have hc:Zn xs=true->(Z9 "Cloth" xs).length<=8/\Z9 "Cloth" xs≠[]/\∀p∈Z9 "Cloth" xs,PB p:=by
  intro h
  match xs,h with
  | [a,b,c,d,e,f,g,i,j],h=>simp[Zn,aO,zl] at h;simp[Z9,PB];omega
 unfold Zg at hg;unfold Zl Zj;by_cases e1:w= "post"
 ·rw[if_pos e1] at hg ⊢;exact hp hg
 rw[if_neg e1] at hg ⊢;by_cases e2:w= "fence"
 ·rw[if_pos e2] at hg ⊢;exact hf hg
 rw[if_neg e2] at hg ⊢;by_cases e3:w= "sail"
 ·rw[if_pos e3] at hg ⊢;exact hs hg
 rw[if_neg e3] at hg ⊢;by_cases e4:w= "cloth"
 ·rw[if_pos e4] at hg ⊢;exact hc hg
 rw[if_neg e4] at hg ⊢;by_cases e5:w= "house"
 ·rw[if_pos e5] at hg;exact hh hg
 ·rw[if_neg e5] at hg;cases hg
def Tk(S:List Hu.Pt)(p:Hu.Pt):Prop:=∀l m n:Int,(∀s∈S,l*s.1+m*s.2<=n)->l*p.1+m*p.2<=n
theorem Z1H(S:List Hu.Pt)(l m n W:Int):∀(z:List (Int×Nat)),(∀a∈z,0<=a.1*W/\l*(Hu.at_ S a.2).1+m*(Hu.at_ S a.2).2<=n)->W*(l*(z.map λa=>a.1*(Hu.at_ S a.2).1).sum+m*(z.map λa=>a.1*(Hu.at_ S a.2).2).sum)<=W*(z.map (·.1)).sum*n
 | [],_=>by simp
 |a::z,h=>by
  have ih:=Z1H S l m n W z λb hb=>h b (Ă _ hb);obtain⟨h1,h2⟩:=h a (by simp);rw[ý,oP,ý,oP,ý,oP];have:=jW h2 h1;generalize (z.map λa=>a.1*(Hu.at_ S a.2).1).sum=A at*;generalize (z.map λa=>a.1*(Hu.at_ S a.2).2).sum=B at*;generalize (z.map (·.1)).sum=C,(Hu.at_ S a.2).1=x,(Hu.at_ S a.2).2=y,a.1=d at*;have e1:W*(l*(d*x+A)+m*(d*y+B))=d*W*(l*x+m*y)+W*(l*A+m*B):=by grind
  have e2:W*(d+C)*n=d*W*n+W*C*n:=by grind
  rw[e1,e2];lia
def Z43{S:List Hu.Pt}(h0:S≠[]){p:Hu.Pt}:Hu.ZG S p=none↔Tk S p:=by
 constructor
 ·intro h l m n hS;obtain⟨g1,g2,g3,g4,g5,g6,g7⟩:=Hu.Z2f h0 h;generalize (Hu.J2 S p).1=w,(Hu.J2 S p).2=q at*;have:=Z1H S l m n w.sum (w.zip q) (λa ha=>by
   obtain⟨a1,a2⟩:=jZ ha;exact⟨g3 _ a1,hS _ (Hu.Vt (g5 _ a2))⟩)
  rw[g6,g7,List.map_fst_zip (by lia)] at this;generalize w.sum=W at*;have e1:W*(l*(W*p.1)+m*(W*p.2))=W*W*(l*p.1+m*p.2):=by grind
  rw[e1] at this;have hW:0<W*W:=by
   rcases Int.lt_or_gt_of_ne g2 with h|h
   ·exact Int.mul_pos_of_neg_of_neg h h
   ·exact ub h h
  exact Int.le_of_mul_le_mul_left this hW
 ·intro h;cases e:Hu.ZG S p with
  |none=>rfl
  |some l=>obtain⟨h1,h2⟩:=Hu.Z2c e;exfalso;have:=h l.1 l.2.1 l.2.2 (λs hs=>by simpa[Hu.hd] using Hu.Z1S h1 hs);simp[Hu.hd] at h2;lia
def Iv(w:Str)(xs:List Int)(s:Hu.Pt)(r:P3):Bool:=(Hu.ZG ((Zl w xs).map (gE r)) (gE r (wR s))).isNone
def Z0K{w:Str}{xs:List Int}(hg:Zg w xs=true)(s:Hu.Pt)(r:P3):Iv w xs s r=true↔Tk ((Zl w xs).map (gE r)) (gE r (wR s)):=by rw[<-Z43 (by simpa using(Z1d hg).2.1)];unfold Iv;rw[Bw]
def Z2r(b:Nat):iR (b:Int)= -(b:Int)-1:=rfl
def Z2s(a b:Nat):kJ a b=((a ||| b:Nat):Int):=by
 unfold kJ bT;rw[Z2r,Z2r];have h1:decide (0<= -(a:Int)-1)=false:=by simp;lia
 have h2:decide (0<= -(b:Int)-1)=false:=by simp;lia
 rw[h1,h2];have e1:(iR (-(a:Int)-1)).toNat=a:=by unfold iR;lia
 have e2:(iR (-(b:Int)-1)).toNat=b:=by unfold iR;lia
 simp only[e1,e2];unfold iR;lia
def Z44(a k:Nat):(a:Int) / 2 ^ k=((a >>> k:Nat):Int):=by rw[Nat.shiftRight_eq_div_pow];simp
def ZZ(a k:Nat):(a:Int) / 2 ^ k % 2=if a.testBit k then 1 else 0:=by
 rw[Z44];have:(a >>> k) % 2=if a.testBit k then 1 else 0:=by
  rw[Nat.testBit];have h:1 &&& (a >>> k)=(a >>> k) % 2:=by rw[Nat.and_comm];exact Nat.and_one_is_mod _
  rw[h];have:(a >>> k) % 2=0\/(a >>> k) % 2=1:=by lia
  rcases this with e|e<;>simp[e]
 by_cases q:a.testBit k=true
 ·rw[if_pos q] at this ⊢;lia
 ·rw[if_neg q] at this ⊢;lia
def Z1Y(a:Int):bT a 1=a % 2:=PyProof.Rows.bitAnd_m1 a
abbrev Th:=Str×List Int
def zm(t:Th):PV:=Za (Zj t.1) t.1 t.2
def dX:Option P3->PV
 |none=>.non
 |some r=>c3 r
abbrev Dy:=Str×Int×List (Option P3)
def og(d:Dy):PV:=.tup [.str d.1,.int d.2.1,.lst (d.2.2.map dX)]
def Z1(w h:Int)(T:List Th)(D:List Dy):PV:=.ins "Yard" ["width","height","things","days"] [.int w,.int h,.lst (T.map zm),.lst (D.map og)]
def ywh:(Ì "width" =Ì "height")=False:=eq_false (by decide +kernel)
def ywt:(Ì "width" =Ì "things")=False:=eq_false (by decide +kernel)
def ywd:(Ì "width" =Ì "days")=False:=eq_false (by decide +kernel)
def yht:(Ì "height" =Ì "things")=False:=eq_false (by decide +kernel)
def yhd:(Ì "height" =Ì "days")=False:=eq_false (by decide +kernel)
def ytd:(Ì "things" =Ì "days")=False:=eq_false (by decide +kernel)
def XV(w h:Int)(T:List Th)(D:List Dy):bK ["Yard"] (Ì "width") (Z1 w h T D)=some (.int w):=by unfold bK Z1;simp
def y_h(w h:Int)(T:List Th)(D:List Dy):bK ["Yard"] (Ì "height") (Z1 w h T D)=some (.int h):=by
 have:(Ì "height" == Ì "width")=false:=by decide +kernel
 unfold bK Z1;simp[ś,this]
def y_t(w h:Int)(T:List Th)(D:List Dy):bK ["Yard"] (Ì "things") (Z1 w h T D)=some (.lst (T.map zm)):=by
 have e1:(Ì "things" == Ì "width")=false:=by decide +kernel
 have e2:(Ì "things" == Ì "height")=false:=by decide +kernel
 unfold bK Z1;simp[ś,e1,e2]
def y_d(w h:Int)(T:List Th)(D:List Dy):bK ["Yard"] (Ì "days") (Z1 w h T D)=some (.lst (D.map og)):=by
 have e1:(Ì "days" == Ì "width")=false:=by decide +kernel
 have e2:(Ì "days" == Ì "height")=false:=by decide +kernel
 have e3:(Ì "days" == Ì "things")=false:=by decide +kernel
 unfold bK Z1;simp[ś,e1,e2,e3]
def Z2t(D:List Dy)(hD:D.length<=100000)(s0 s1 s2:ϒ):Ķ (gT 3 (è (gN 0) (è (gN 1) (è (gN 2) ň)))) Ě (ķ (Ç (ê 0) (Ç (ê 1) (Ç (á (jG cj (Ç (Â 2) â))) â)))) (D.map og) [s0,s1,s2] []=some (D.map og):=by
 have h:=Ĕ (g:=gT 3 (è (gN 0) (è (gN 1) (è (gN 2) ň)))) (mt:=Ě) (me:=ķ (Ç (ê 0) (Ç (ê 1) (Ç (á (jG cj (Ç (Â 2) â))) â)))) og og (λY=>∃a b c,Y=[a,b,c]) D [s0,s1,s2] [] ⟨_,_,_,rfl⟩ (by simp;lia) (by
  rintro d _ Y ⟨a,b,c,rfl⟩;refine⟨[.sh (.str d.1),.sh (.int d.2.1),.sh (.lst (d.2.2.map dX))],[.sh (.str d.1),.sh (.int d.2.1),.sh (.lst (d.2.2.map dX))],[.sh (.str d.1),.sh (.int d.2.1),.sh (.lst (d.2.2.map dX))],by simp[og],rfl,by simp[og],_,_,_,rfl⟩)
 simpa using h
def Z45(w h:Int){T:List Th}{D:List Dy}(hT:T.length<=100000)(hD:D.length<=100000){s3 s4:ϒ}(h3:Sl s3 (T.map zm))(h4:Sl s4 (D.map og)):pW [~~~w,~~~h,s3,s4]=.ok ["width","height","things","days"] [.int w,.int h,.lst (T.map zm),.lst (D.map og)]:=by have c:=Z2t D hD .no .no .no;generalize hx:T.map zm=tx at*;generalize hy:D.map og=dx at*;rcases h3 with rfl|rfl<;>rcases h4 with rfl|rfl<;>simp[pW,dP,Af,lm,IR.of,Ï,putN,vB,ywh,ywt,ywd,yht,yhd,ytd,c]
def Ze:Nat->(Nat->Bool)->Nat
 |0,_=>0
 |n+1,p=>Ze n p+if p n then 2 ^ n else 0
theorem XW(p:Nat->Bool):∀n,Ze n p<2 ^ n
 |0=>by simp[Ze]
 |n+1=>by have:=XW p n;unfold Ze;rw[Nat.pow_succ];split<;>lia
theorem Z0Q(p:Nat->Bool):∀n k,(Ze n p).testBit k=(decide (k<n) && p k)
 |0,k=>by simp[Ze]
 |n+1,k=>by
  have hl:=XW p n;unfold Ze;by_cases h:k<n
  ·have ih:=Z0Q p n k;have h1:k<n+1:=by lia
   split
   ·rw[oS,Nat.testBit_two_pow_add_gt h,ih];simp[h,h1]
   ·rw[Nat.add_zero,ih];simp[h,h1]
  ·by_cases h2:k=n
   ·subst h2;split
    ·rename_i q;rw[oS,Nat.testBit_two_pow_add_eq,uw hl];simp[q]
    ·rename_i q;rw[Nat.add_zero,uw hl];simp[q]
   ·have h3:¬k<n+1:=by lia
    have:Ze n p+(if p n=true then 2 ^ n else 0)<2 ^ k:=by refine Ţ (XW p (n+1)) (km (by lia) (by lia))
    rw[uw this];simp[h3]
def aW(w k:Nat):Hu.Pt:=(((k % w:Nat):Int),((k / w:Nat):Int))
def xg(t:Th)(s:Hu.Pt)(r:P3):Bool:=Iv t.1 t.2 s r
def wS(w:Nat)(T:List Th):Option P3->Nat->Bool
 |none,_=>true
 |some r,k=>T.any λt=>xg t (aW w k) r
def sx(o:Option P3):Prop:=match o with|none=>True|some r=>RB r/\0<r.2.2
def Qqj7:Option Hu.Ln->PV
 |some l=>gF l
 |none=>.non
def Z1Z{S:List Hu.Pt}{sl:ϒ}(hs:Sl sl (S.map pt))(hS:∀p∈S,Sm p)(h0:S≠[])(hl:S.length<=1000)(p:Hu.Pt):yH [sl,.sh (pt p)]=.ret (.sh (Qqj7 (Hu.ZG S p))):=by
 have h1:=Z33 hs hS h0 hl;have e:(Hu.ZB S).findSome? (λl=>if Hu.hd l p=true then none else some l)=Hu.ZG S p:=by
  unfold Hu.ZG;generalize Hu.ZB S=L
  induction L with
  |nil=>rfl
  |cons l L ih=>
   rw[oO,List.find?_cons];cases q:Hu.hd l p with
   |true=>simpa using ih
   |false=>simp
 rcases cP (g:=gN 2) (mb:=vZ) gF (λl=>if Hu.hd l p=true then none else some l) (λl=>.sh (gF l)) (λY=>∃s2,Y=[sl,.sh (pt p),s2]) (Hu.ZB S) (by
  rintro l hm Y ⟨s2,rfl⟩;refine⟨[sl,.sh (pt p),.sh (gF l)],by simp,?_⟩;have hh:=Z1a (Z4j hm hS) p;cases q:Hu.hd l p with
  |true=>rw[q] at hh;exact .inr ⟨[sl,.sh (pt p),.sh (gF l)],by simp,by simp[vZ,hh],_,rfl⟩
  |false=>rw[q] at hh;exact .inl ⟨l,[sl,.sh (pt p),.sh (gF l)],by simp,by simp[vZ,hh]⟩) [sl,.sh (pt p),.no] ⟨_,rfl⟩ with⟨l,Y',q1,q2⟩|⟨Y',q1,q2,_⟩
 ·rw[e] at q1;rw[q1];simp[yH,Ar,Ï,hs.lend,h1,q2,Qqj7]
 ·rw[e] at q1;rw[q1];simp[yH,Ar,Ï,hs.lend,h1,q2,Qqj7]
def rW(q:Nat×Nat):PV:=.tup [.int q.1,.int q.2]
def Ϥ(q:Nat×Nat×Nat):PV:=.tup [.int q.1,.int q.2.1,.int q.2.2]
def Z2u(j:Nat)(hj:j<=1000)(ď:List PV)(s0:ϒ)(ha:ď.length+j<=16777216):qS [s0,.ow ď,~~~j]=.ok .nx [s0,.ow (ď++((Ò j).map λi=>(i,j)).map rW),~~~j]:=by
 have c1:Ķ (gN 1) Ě (ķ (Ç (ê 1) (Ç (ê 0) â))) ((Ò j).map λ(i:Nat)=>PV.int (i:Int)) [~~~j,.no] []=some (((Ò j).map λi=>(i,j)).map rW):=by
  have:=Ĕ (g:=gN 1) (mt:=Ě) (me:=ķ (Ç (ê 1) (Ç (ê 0) â))) (λ(i:Nat)=>PV.int (i:Int)) (λi=>rW (i,j)) (λY=>∃s,Y=[~~~j,s]) (Ò j) [~~~j,.no] [] ⟨_,rfl⟩ (by simp;lia) (by
   rintro x hx Y ⟨s,rfl⟩;exact⟨[~~~j,~~~x],[~~~j,~~~x],[~~~j,~~~x],by simp,by simp,by simp[rW],_,rfl⟩)
  rw[this,ag];rfl
 have hl:ď.length+(((Ò j).map λi=>(i,j)).map rW).length<=16777216:=by simpa using ha
 generalize ((Ò j).map λi=>(i,j)).map rW=qs at c1 hl;simp[qS,Zt hj,c1,hl]
def Z0E(k:Nat):Hu.Zf (k+1)=Hu.Zf k++(Ò k).map λi=>(i,k):=by unfold Hu.Zf;rw[kg,Bo];simp
theorem ZU:∀n,(Hu.Zf n).length<=n*n
 |0=>by simp[Hu.Zf]
 |n+1=>by have:=ZU n;rw[Z0E,ϩ,ř,oN,uo,Nat.mul_succ];lia
def Z0e(k:Nat):Hu.Zk (k+1)=Hu.Zk k++(Hu.Zf k).map λq=>(q.1,q.2,k):=by unfold Hu.Zk;rw[kg,Bo];simp
theorem XX{g:Tg}{mb:M Fl}(nb:∀Y Y',mb Y≠ .ok .bk Y'):∀(xs ys:List PV) (Y Y1:Ĝ),Ĩ g mb xs Y=.ok .nx Y1->Ĩ g mb (xs++ys) Y=Ĩ g mb ys Y1
 | [],ys,Y,Y1,h=>by have e:Ŋ.ok Fl.nx Y=.ok .nx Y1:=h;cases e;rfl
 |x::xs,ys,Y,Y1,h=>by
  rw[kc,Ĩ];rw[Ĩ] at h;cases e:g x Y with
  |none=>rw[e] at h;cases h
  |some Y2=>
   rw[e] at h;dsimp only at h ⊢;cases e2:mb Y2 with
   |bad=>rw[e2] at h;cases h
   |exc x Y3=>rw[e2] at h;cases h
   |ok f Y3=>
    rw[e2] at h;cases f with
    |nx=>exact XX nb xs ys Y3 Y1 h
    |ct=>exact XX nb xs ys Y3 Y1 h
    |bk=>exact absurd e2 (nb Y2 Y3)
    |rt r=>cases h
def Z1f{g:Tg}{mb:M Fl}{p:PV}{Y Y1 Y2:Ĝ}(h1:g p Y=some Y1)(h2:mb Y1=.ok .nx Y2):Ĩ g mb [p] Y=.ok .nx Y2:=by rw[Ĩ,h1];dsimp only;rw[h2];rfl
def Z2v{i:Nat}{mo:M RV}{Y Y':Ĝ}:ye i mo Y≠ .ok .bk Y':=by
 unfold ye;intro h;split at h
 ·cases e:mo Y with
  |bad=>rw[e] at h;cases h
  |exc x Y1=>rw[e] at h;cases h
  |ok r Y1=>
   rw[e] at h;simp only[Ŋ.aq] at h;split at h
   ·split at h<;>cases h
   ·cases h
 ·cases h
def Z1g(n:Nat)(hn:n<=100):yI [~~~n]=.ret (.ow ((Hu.Zf n).map rW)):=by
 have key:∀k,k<=n->∃s2,Ĩ (gN 2) qS ((Ò k).map λ(i:Nat)=>PV.int (i:Int)) [~~~n,.ow [],.no]=.ok .nx [~~~n,.ow ((Hu.Zf k).map rW),s2]:=by
  intro k
  induction k with
  |zero=>intro _;exact⟨.no,rfl⟩
  |succ k ih=>intro hk;obtain⟨s2,e⟩:=ih (by lia);refine⟨.sh (.int k),?_⟩;rw[kg,š,XX (mb:=qS) (λ_ _=>Z2v) _ _ _ _ e,Z0E,š];have hlen:=ZU k;have hm:k*k<=100*100:=du (by lia) (by lia);exact Z1f rfl (Z2u k (by lia) ((Hu.Zf k).map rW) (~~~n) (by rw[ř];lia))
 obtain⟨s2,e⟩:=key n (õ n);have hr:=Zt (show n<=1000 by lia);simp[yI,GK,Ï,hr,e]
def Z1C(k:Nat)(hk:k<=100)(ď:List PV)(s0:ϒ)(ha:ď.length<=10000000):qT [s0,.ow ď,~~~k]=.ok .nx [s0,.ow (ď++((Hu.Zf k).map λq=>(q.1,q.2,k)).map Ϥ),~~~k]:=by
 have hlen:=ZU k;have hm:k*k<=100*100:=du (by lia) (by lia);have c1:Ķ (gN 1) Ě (ķ (Ç (È ã (Â 1) (Ä 0)) (Ç (È ã (Â 1) (Ä 1)) (Ç (ê 0) â)))) ((Hu.Zf k).map rW) [~~~k,.no] []=some (((Hu.Zf k).map λq=>(q.1,q.2,k)).map Ϥ):=by
  have:=Ĕ (g:=gN 1) (mt:=Ě) (me:=ķ (Ç (È ã (Â 1) (Ä 0)) (Ç (È ã (Â 1) (Ä 1)) (Ç (ê 0) â)))) rW (λq=>Ϥ (q.1,q.2,k)) (λY=>∃s,Y=[~~~k,s]) (Hu.Zf k) [~~~k,.no] [] ⟨_,rfl⟩ (by simp;lia) (by
   rintro x hx Y ⟨s,rfl⟩;exact⟨[~~~k,.sh (rW x)],[~~~k,.sh (rW x)],[~~~k,.sh (rW x)],by simp,by simp,by simp[rW,Ϥ],_,rfl⟩)
  rw[this,ag];rfl
 have hl:ď.length+(((Hu.Zf k).map λq=>(q.1,q.2,k)).map Ϥ).length<=16777216:=by simp;lia
 have hp:=Z1g k hk;generalize ((Hu.Zf k).map λq=>(q.1,q.2,k)).map Ϥ=qs at c1 hl;simp[qT,hp,c1,hl]
theorem Z0s:∀n,n<=100->(Hu.Zk n).length<=n*10000
 |0,_=>by simp[Hu.Zk]
 |n+1,h=>by have:=Z0s n (by lia);have h2:=ZU n;have hm:n*n<=100*100:=du (by lia) (by lia);rw[Z0e,ϩ,ř];lia
def Z20(n:Nat)(hn:n<=100):C5 [~~~n]=.ret (.ow ((Hu.Zk n).map Ϥ)):=by
 have key:∀k,k<=n->∃s2,Ĩ (gN 2) qT ((Ò k).map λ(i:Nat)=>PV.int (i:Int)) [~~~n,.ow [],.no]=.ok .nx [~~~n,.ow ((Hu.Zk k).map Ϥ),s2]:=by
  intro k
  induction k with
  |zero=>intro _;exact⟨.no,rfl⟩
  |succ k ih=>intro hk;obtain⟨s2,e⟩:=ih (by lia);refine⟨.sh (.int k),?_⟩;rw[kg,š,XX (mb:=qT) (λ_ _=>Z2v) _ _ _ _ e,Z0e,š];have hlen:=Z0s k (by lia);exact Z1f rfl (Z1C k (by lia) ((Hu.Zk k).map Ϥ) (~~~n) (by rw[ř];lia))
 obtain⟨s2,e⟩:=key n (õ n);have hr:=Zt (show n<=1000 by lia);simp[C5,GL,Ï,hr,e]
def W(x:Int):Prop:=-100000000000000000000000000000000000000000000000000<x/\x<100000000000000000000000000000000000000000000000000
theorem W.bits{x:Int}(h:W x):bits x<=200:=lw (n:=200) (by have:=h.1;lia) (by have:=h.2;lia)
def OL{a b:Int}(h1: -100000000000000000<=a)(h2:a<=100000000000000000)(h3: -100000000000000000<=b)(h4:b<=100000000000000000): -200000000000000000<=a-b/\a-b<=200000000000000000:=by lia
def Tl{a b c d:Int}(h1: -c<=a)(h2:a<=c)(h3: -d<=b)(h4:b<=d)(hc:0<=c)(hd:0<=d): -(c*d)<=a*b/\a*b<=c*d:=by have e1:(a*b).natAbs=a.natAbs*b.natAbs:=oy a b;have e2:a.natAbs*b.natAbs<=c.natAbs*d.natAbs:=du (by lia) (by lia);have e3:(c*d).natAbs=c.natAbs*d.natAbs:=oy c d;have e4:0<=c*d:=Ň hc hd;lia
def Z0f{a b c:Hu.Pt}(ha:Sm a)(hb:Sm b)(hc:Sm c):tw [.sh (pt a),.sh (pt b),.sh (pt c)]=.ret (~~~(Hu.tn a b c)):=by obtain⟨a1,a2,a3,a4⟩:=ha;obtain⟨b1,b2,b3,b4⟩:=hb;obtain⟨c1,c2,c3,c4⟩:=hc;have m1:Ĵ (b.1-a.1) (c.2-a.2)=true:=ϙ (by lia) (by lia);have m2:Ĵ (b.2-a.2) (c.1-a.1)=true:=ϙ (by lia) (by lia);simp[tw,GN,Ï,pt,Hu.tn,m1,m2]
def Z38{a b c:Hu.Pt}(ha:Sm a)(hb:Sm b)(hc:Sm c): -80000000000000000000000000000000000<=Hu.tn a b c/\Hu.tn a b c<=80000000000000000000000000000000000:=by obtain⟨a1,a2,a3,a4⟩:=ha;obtain⟨b1,b2,b3,b4⟩:=hb;obtain⟨c1,c2,c3,c4⟩:=hc;obtain⟨x1,x2⟩:=OL b1 b2 a1 a2;obtain⟨y1,y2⟩:=OL c3 c4 a3 a4;obtain⟨z1,z2⟩:=OL b3 b4 a3 a4;obtain⟨w1,w2⟩:=OL c1 c2 a1 a2;obtain⟨p1,p2⟩:=Tl x1 x2 y1 y2 (by decide) (by decide);obtain⟨q1,q2⟩:=Tl z1 z2 w1 w2 (by decide) (by decide);unfold Hu.tn;lia
def Z39{a b c p:Hu.Pt}(ha:Sm a)(hb:Sm b)(hc:Sm c)(hp:Sm p):J6 [.sh (.lst [pt a,pt b,pt c]),.sh (pt p)]=.ret (.ow ((Hu.nQ a b c p).map .int)):=by simp[J6,Mh,Ï,Z0f hp hb hc,Z0f ha hp hc,Z0f ha hb hp,Hu.nQ]
def Z4p{a b p:Hu.Pt}(ha:Sm a)(hb:Sm b)(hp:Sm p):C6 [.sh (.lst [pt a,pt b]),.sh (pt p)]=.ret (.ow ((Hu.ji a b p).map .int)):=by obtain⟨a1,a2,a3,a4⟩:=ha;obtain⟨b1,b2,b3,b4⟩:=hb;obtain⟨c1,c2,c3,c4⟩:=hp;have m1:∀x,Ĵ (b.1-a.1) x=true:=λx=>ϙ (by lia) (by lia);have m2:∀x,Ĵ (b.2-a.2) x=true:=λx=>ϙ (by lia) (by lia);simp[C6,GO,Ï,pt,Hu.ji,m1,m2]
def Z4R{a b c p:Hu.Pt}(ha:Sm a)(hb:Sm b)(hc:Sm c)(hp:Sm p):∀s∈Hu.nQ a b c p,-400000000000000000000000000000000000<=s/\s<=400000000000000000000000000000000000:=by have h1:=Z38 hp hb hc;have h2:=Z38 ha hp hc;have h3:=Z38 ha hb hp;intro s hs;simp only[Hu.nQ,Ā,bP,or_false] at hs;rcases hs with e|e|e<;>lia
def Z4S{a b p:Hu.Pt}(ha:Sm a)(hb:Sm b)(hp:Sm p):∀s∈Hu.ji a b p,-400000000000000000000000000000000000<=s/\s<=400000000000000000000000000000000000:=by obtain⟨a1,a2,a3,a4⟩:=ha;obtain⟨b1,b2,b3,b4⟩:=hb;obtain⟨c1,c2,c3,c4⟩:=hp;obtain⟨x1,x2⟩:=OL b1 b2 a1 a2;obtain⟨z1,z2⟩:=OL b3 b4 a3 a4;obtain⟨y1,y2⟩:=OL c1 c2 a1 a2;obtain⟨w1,w2⟩:=OL c3 c4 a3 a4;obtain⟨p1,p2⟩:=Tl x1 x2 y1 y2 (by decide) (by decide);obtain⟨q1,q2⟩:=Tl z1 z2 w1 w2 (by decide) (by decide);obtain⟨r1,r2⟩:=Tl x1 x2 x1 x2 (by decide) (by decide);obtain⟨t1,t2⟩:=Tl z1 z2 z1 z2 (by decide) (by decide);intro s hs;simp only[Hu.ji,Ā,bP,or_false] at hs;rcases hs with e|e<;>lia
def Tn(w:List Int):Prop:=w.length<=3/\∀s∈w,-400000000000000000000000000000000000<=s/\s<=400000000000000000000000000000000000
theorem Tn.sum{w:List Int}(h:Tn w): -2000000000000000000000000000000000000<=w.sum/\w.sum<=2000000000000000000000000000000000000:=by
 obtain⟨h1,h2⟩:=h
 match w,h1,h2 with
 | [],_,_=>simp
 | [a],_,h2=>have:=h2 a (by simp);simp;lia
 | [a,b],_,h2=>have:=h2 a (by simp);have:=h2 b (by simp);simp;lia
 | [a,b,c],_,h2=>have:=h2 a (by simp);have:=h2 b (by simp);have:=h2 c (by simp);simp;lia
def Z0v{x:Int}(h1: -2000000000000000000000000000000000000<=x)(h2:x<=2000000000000000000000000000000000000):bits x<=200:=lw (n:=200) (by lia) (by lia)
def Z3N{w:List Int}(h:Tn w){sl:ϒ}(hs:Sl sl (w.map .int)):tz [sl]=.ret (.sh (.bl (Hu.Zv w))):=by
 obtain⟨s1,s2⟩:=h.sum;have hb:=Z0v s1 s2;have c1:Ķ (gN 1) Ě (È Fu (È û (Â 1) (Â 0)) (Ä 0)) (w.map .int) [.sh (.int w.sum),.no] []=some ((w.map λs=>decide (0<=s*w.sum)).map .bl):=by
  have:=Ĕ (g:=gN 1) (mt:=Ě) (me:=È Fu (È û (Â 1) (Â 0)) (Ä 0)) PV.int (λs=>.bl (decide (0<=s*w.sum))) (λY=>∃s,Y=[.sh (.int w.sum),s]) w [.sh (.int w.sum),.no] [] ⟨_,rfl⟩ (by have:=h.1;simp;lia) (by
   rintro x hx Y ⟨s,rfl⟩;have OB:=h.2 x hx;have hm:Ĵ x w.sum=true:=UW (Ĺ (Z0v (by lia) (by lia)) (by decide)) (Ĺ hb (by decide));exact⟨[.sh (.int w.sum),~~~x],[.sh (.int w.sum),~~~x],[.sh (.int w.sum),~~~x],by simp,by simp,by simp[hm],_,rfl⟩)
  rw[this,ag];rfl
 have c2:=Z2m (w.map λs=>decide (0<=s*w.sum));have c3:(w.map λs=>decide (0<=s*w.sum)).all id=w.all λs=>decide (0<=s*w.sum):=by simp
 rw[c3] at c2;unfold Hu.Zv;have jQ:nO [.lst (w.map .int)]=some (.int w.sum):=by simp
 unfold Sl at hs;generalize (w.map λs=>decide (0<=s*w.sum)).map PV.bl=bs at c1 c2;generalize (w.all λs=>decide (0<=s*w.sum))=q at c2;generalize w.map PV.int=ws at c1 jQ hs;generalize w.sum=S at c1 jQ;by_cases h0:S=0
 ·subst h0;rcases hs with rfl|rfl<;>simp[tz,At,Ï,-je,jQ]
 ·rcases hs with rfl|rfl<;>simp[tz,At,Ï,-je,jQ,c1,c2,h0]
def Z3O(x y:Int):J5 [~~~x,~~~y]=.ret (~~~(My.gd x y)):=by
 obtain⟨⟨u,v,r⟩,e1,e2,e3⟩:=zU (mc:=(aN (È bv (Â 1) (Ä 0)))) (mb:=(æ (ü 2 (Ń (È ć (Â 0) (Â 1)))) (æ (ü 0 (Ń (ê 1))) (ü 1 (Ń (ê 2))))))
  (fun b:Int×Int×ϒ=>[.sh (.int b.1),.sh (.int b.2.1),b.2.2]) (fun b=>My.gd b.1 b.2.1=My.gd x y) (fun b=>b.2.1.natAbs) (b:=(x,y,.no)) (by
    rintro ⟨u,v,r⟩ e;by_cases hv:v=0
    ·left;simp[hv]
    ·right;exact⟨by simp[hv],(v,u.fmod v,~~~(u.fmod v)),by simp[hv],(My.Z3R u v).trans e,My.Z3S u hv⟩) rfl
 have hv:v=0:=by simpa using e3
 subst hv;have Wu:Mf [~~~x,~~~y,.no]=_:=e1;simp[J5,Mg,Ï,Wu,<-e2,My.Z3T]
def Z46(t:Int){b:Int}{n:Nat}(h:b≠0)(hb:bits b<=n):bits (My.gd t b)<=n:=by refine intBits_le_of_natAbs ?_ hb;have h1:=My.Z4M t h;have h2:=My.Z2a t b;lia
def rt(t b:Int):Int×Int:=(t.fdiv (My.dv t b),b.fdiv (My.dv t b))
def Z1h{t b:Int}(h:b≠0)(hz:bits b<=8000):nB [~~~t,~~~b]=.ret (.sh (pt (rt t b))):=by
 have g1:=Z46 t h hz;have g0:=My.Z4f t h;by_cases hn:b<0
 ·have e:My.dv t b= - My.gd t b:=if_pos hn;have c:∀i,gZ i (- My.gd t b)=true:=λi=>xO (by lia) (intBits_neg_le g1);simp[nB,As,Ï,h,Z3O,hn,c,e,pt,rt]
 ·have e:My.dv t b=My.gd t b:=if_neg hn;have c:∀i,gZ i (My.gd t b)=true:=λi=>xO (by lia) g1;simp[nB,As,Ï,h,Z3O,hn,c,e,pt,rt]
def Z0g{w:List Int}{q:List Nat}{n:Nat}(hw:Tn w)(h0:w.sum≠0)(hl:w.length=q.length)(hq:∀i∈q,i<n)(hn:n<=100){s0 s1:ϒ}(hs0:Sl s0 (w.map .int))(WB:s1=.sh (.lst (q.map λ(i:Nat)=>.int (i:Int)))\/s1=.sh (.tup (q.map λ(i:Nat)=>.int (i:Int)))) :
 lE [s0,s1,~~~n]=.ret (.ow ((Fr.lay (Ï n 0) (w.zip q)).map λs=>pt (rt s w.sum))):=by
 obtain⟨b1,b2⟩:=hw.sum;have hb:=Ĺ (Z0v b1 b2) (show 200<=8000 by decide);have jQ:nO [.lst (w.map .int)]=some (.int w.sum):=by simp
 have c1:Ķ (gN 1) Ě (á (ç nB (ô (Ä 0) (É 0 Þ)))) ((Ò n).map λ(i:Nat)=>PV.int (i:Int)) [.sh (.int w.sum),.no] []=some ((Ï n (0:Int)).map λs=>pt (rt s w.sum)):=by
  have:=Ĕ (g:=gN 1) (mt:=Ě) (me:=á (ç nB (ô (Ä 0) (É 0 Þ)))) (λ(i:Nat)=>PV.int (i:Int)) (λ_=>pt (rt 0 w.sum)) (λY=>∃s,Y=[.sh (.int w.sum),s]) (Ò n) [.sh (.int w.sum),.no] [] ⟨_,rfl⟩ (by simp;lia) (by
   rintro x hx Y ⟨s,rfl⟩;exact⟨[.sh (.int w.sum),~~~x],[.sh (.int w.sum),~~~x],[.sh (.int w.sum),~~~x],by simp,by simp,by simp[Z1h h0 hb],_,rfl⟩)
  rw[this];simp[List.map_const']
 have hz:gC (w.map .int) (q.map λ(i:Nat)=>PV.int (i:Int))=(w.zip q).map λa=>.tup [.int a.1,.int (a.2:Int)]:=by
  clear hw h0 hl hq hs0 WB jQ c1 hb b1 b2
  induction w generalizing q with
  |nil=>simp[gC]
  |cons x w ih=>
   cases q with
   |nil=>simp[gC]
   |cons i q=>simp[gC,ih]
 have loop:∀To TD,∃Y',Ĩ (gT 2 (è (gN 5) (è (gN 6) ň))) v_ ((w.zip q).map λa=>.tup [.int a.1,.int (a.2:Int)]) [To,TD,~~~n,.sh (.int w.sum),.ow ((Ï n (0:Int)).map λs=>pt (rt s w.sum)),.no,.no]=.ok .nx Y'/\Y'[4]?=some (.ow ((Fr.lay (Ï n 0) (w.zip q)).map λs=>pt (rt s w.sum))):=by
  intro To TD;obtain⟨Y',e,s5,s6,hρ,_⟩:=jg (g:=gT 2 (è (gN 5) (è (gN 6) ň))) (mb:=v_) (λa:Int×Nat=>.tup [.int a.1,.int (a.2:Int)]) (λď a=>ď.set a.2 a.1)
   (fun ď Y=>∃s5 s6,Y=[To,TD,~~~n,.sh (.int w.sum),.ow (ď.map fun s=>pt (rt s w.sum)),s5,s6]∧ď.length=n) (w.zip q) (by
     rintro ⟨x,i⟩ hx ď Y ⟨s5,s6,rfl,hlen⟩;have hi:i<n:=hq i (jZ hx).2;have hix:zE ď.length (i:Int)=some i:=by unfold zE;rw[if_pos (by lia),if_pos (by lia)];simp
     refine⟨[To,TD,~~~n,.sh (.int w.sum),.ow (ď.map λs=>pt (rt s w.sum)),~~~x,~~~i],[To,TD,~~~n,.sh (.int w.sum),.ow ((ď.set i x).map λs=>pt (rt s w.sum)),~~~x,~~~i],by simp,?_,_,_,rfl,by simpa using hlen⟩;simp[v_,Z1h h0 hb,hix,List.map_set]) (Ï n 0) [To,TD,~~~n,.sh (.int w.sum),.ow ((Ï n (0:Int)).map λs=>pt (rt s w.sum)),.no,.no] ⟨_,_,rfl,by simp⟩
  refine⟨Y',e,?_⟩;subst hρ;rfl
 have hr:=Zt (show n<=1000 by lia);generalize (Ï n (0:Int)).map (λs=>pt (rt s w.sum))=zs at c1 loop;have Tp:(w.map PV.int).length<=(q.map λ(i:Nat)=>PV.int (i:Int)).length:=by simp[hl]
 generalize (Fr.lay (Ï n 0) (w.zip q)).map (λs=>pt (rt s w.sum))=rs at loop;generalize ((w.zip q).map λa=>PV.tup [.int a.1,.int (a.2:Int)])=ls at hz loop;generalize w.map PV.int=ws at hs0 jQ hz Tp;generalize w.sum=S at jQ c1 loop;generalize (q.map λ(i:Nat)=>PV.int (i:Int))=qs at hz WB Tp;rcases hs0 with rfl|rfl<;>rcases WB with rfl|rfl
 ·obtain⟨Y',e,e4⟩:=loop (.sh (.lst ws)) (.sh (.lst qs));simp[lE,qU,Ï,-je,jQ,hr,c1,hz,Tp,vM,e,e4]
 ·obtain⟨Y',e,e4⟩:=loop (.sh (.lst ws)) (.sh (.tup qs));simp[lE,qU,Ï,-je,jQ,hr,c1,hz,Tp,vM,e,e4]
 ·obtain⟨Y',e,e4⟩:=loop (.bw ws) (.sh (.lst qs));simp[lE,qU,Ï,-je,jQ,hr,c1,hz,Tp,vM,e,e4]
 ·obtain⟨Y',e,e4⟩:=loop (.bw ws) (.sh (.tup qs));simp[lE,qU,Ï,-je,jQ,hr,c1,hz,Tp,vM,e,e4]
def Oy(S:List Hu.Pt)(r:List Int×List Nat):List PV:=(Fr.lay (Ï S.length 0) (r.1.zip r.2)).map λs=>pt (rt s r.1.sum)
def gQ{S:List Hu.Pt}{i:Nat}(h:i<S.length):(S.map pt)[i]?=some (pt (Hu.at_ S i)):=by unfold Hu.at_;rw[Ϩ,Ϫ,Ō h];rfl
def Z4T{S:List Hu.Pt}{sl:ϒ}(hs:Sl sl (S.map pt)){i j k:Nat}(hi:i<S.length)(hj:j<S.length)(hk:k<S.length)(s3:ϒ):Ķ (gN 1) Ě (È ã (Â 0) (Â 1)) [.int (i:Int),.int (j:Int),.int (k:Int)] [sl,s3] []=some [pt (Hu.at_ S i),pt (Hu.at_ S j),pt (Hu.at_ S k)]:=by rcases hs with rfl|rfl<;>simp[Ķ,gQ hi,gQ hj,gQ hk,-Ϩ]
def Z4U{S:List Hu.Pt}{sl:ϒ}(hs:Sl sl (S.map pt)){i j:Nat}(hi:i<S.length)(hj:j<S.length)(s3:ϒ):Ķ (gN 1) Ě (È ã (Â 0) (Â 1)) [.int (i:Int),.int (j:Int)] [sl,s3] []=some [pt (Hu.at_ S i),pt (Hu.at_ S j)]:=by rcases hs with rfl|rfl<;>simp[Ķ,gQ hi,gQ hj,-Ϩ]
def Sl.cap{s:ϒ}{ps:List PV}(h:Sl s ps):av s=s:=by rcases h with rfl|rfl<;>rfl
def Z4q{a b c p:Hu.Pt}(ha:Sm a)(hb:Sm b)(hc:Sm c)(hp:Sm p):Tn (Hu.nQ a b c p):=⟨by simp[Hu.nQ],Z4R ha hb hc hp⟩
def Z4r{a b p:Hu.Pt}(ha:Sm a)(hb:Sm b)(hp:Sm p):Tn (Hu.ji a b p):=⟨by simp[Hu.ji],Z4S ha hb hp⟩
def Z21{S:List Hu.Pt}{sl:ϒ}(hs:Sl sl (S.map pt))(hS:∀p∈S,Sm p)(h0:S≠[])(hl:S.length<=100){p:Hu.Pt}(hp:Sm p):tD [sl,.sh (pt p)]=.ret (.ow (Oy S (Hu.J2 S p))):=by
 have Eh:∀i,i<S.length->Sm (Hu.at_ S i):=λi h=>hS _ (Hu.Vt h);have ht:=Z20 S.length hl;have hpr:=Z1g S.length hl;have hlen:aZ [.lst (S.map pt)]=some (.int S.length):=by simp
 have F3:=cP (g:=gN 3) (mb:=wb) Ϥ (λq=>if Hu.Zv (Hu.nQ (Hu.at_ S q.1) (Hu.at_ S q.2.1) (Hu.at_ S q.2.2) p)=true then some (Hu.nQ (Hu.at_ S q.1) (Hu.at_ S q.2.1) (Hu.at_ S q.2.2) p,[q.1,q.2.1,q.2.2]) else none) (λr=>.ow (Oy S r)) (λY=>∃s3 s4,Y=[sl,.sh (pt p),.sh (.int S.length),s3,s4]) (Hu.Zk S.length) (by
  rintro ⟨i,j,k⟩ hm Y ⟨s3,s4,rfl⟩;obtain⟨h1,h2,h3⟩:=Hu.Zp.mp hm;have hi:i<S.length:=by lia
  have hj:j<S.length:=by lia
  have hb:=Z4q (Eh i hi) (Eh j hj) (Eh k h3) hp;have e1:=Z39 (Eh i hi) (Eh j hj) (Eh k h3) hp;have e2:=Z3N hb (sl:=.bw ((Hu.nQ (Hu.at_ S i) (Hu.at_ S j) (Hu.at_ S k) p).map .int)) (.inr rfl);have e0:=Z4T hs hi hj h3 .no;refine⟨[sl,.sh (pt p),.sh (.int S.length),.sh (Ϥ (i,j,k)),s4],rfl,?_⟩;cases q:Hu.Zv (Hu.nQ (Hu.at_ S i) (Hu.at_ S j) (Hu.at_ S k) p) with
  |true=>
   left
   have hg:=Hu.ZD.mp q;have e3:=Z0g (q:=[i,j,k]) (n:=S.length) hb hg.1 rfl (by simp;lia) hl (s0:=.bw ((Hu.nQ (Hu.at_ S i) (Hu.at_ S j) (Hu.at_ S k) p).map .int)) (s1:=.sh (.tup [.int i,.int j,.int k])) (.inr rfl) (.inr rfl);rw[q] at e2;refine⟨_,[sl,.sh (pt p),.sh (.int S.length),.sh (Ϥ (i,j,k)),.ow ((Hu.nQ (Hu.at_ S i) (Hu.at_ S j) (Hu.at_ S k) p).map .int)],rfl,?_⟩;generalize Hu.nQ (Hu.at_ S i) (Hu.at_ S j) (Hu.at_ S k) p=w at*;generalize hws:w.map PV.int=ws at*;simp[wb,Ϥ,hs.cap,e0,e1,e2,e3,Oy]
  |false=>
   right
   rw[q] at e2;refine⟨[sl,.sh (pt p),.sh (.int S.length),.sh (Ϥ (i,j,k)),.ow ((Hu.nQ (Hu.at_ S i) (Hu.at_ S j) (Hu.at_ S k) p).map .int)],rfl,?_,_,_,rfl⟩;generalize Hu.nQ (Hu.at_ S i) (Hu.at_ S j) (Hu.at_ S k) p=w at*;generalize hws:w.map PV.int=ws at*;simp[wb,Ϥ,hs.cap,e0,e1,e2])
 have F2:=cP (g:=gN 3) (mb:=wa) rW (λq=>if Hu.Zv (Hu.ji (Hu.at_ S q.1) (Hu.at_ S q.2) p)=true then some (Hu.ji (Hu.at_ S q.1) (Hu.at_ S q.2) p,[q.1,q.2]) else none) (λr=>.ow (Oy S r)) (λY=>∃s3 s4,Y=[sl,.sh (pt p),.sh (.int S.length),s3,s4]) (Hu.Zf S.length) (by
  rintro ⟨i,j⟩ hm Y ⟨s3,s4,rfl⟩;obtain⟨h1,h2⟩:=Hu.ZL.mp hm;have hi:i<S.length:=by lia
  have hb:=Z4r (Eh i hi) (Eh j h2) hp;have e1:=Z4p (Eh i hi) (Eh j h2) hp;have e2:=Z3N hb (sl:=.bw ((Hu.ji (Hu.at_ S i) (Hu.at_ S j) p).map .int)) (.inr rfl);have e0:=Z4U hs hi h2 .no;refine⟨[sl,.sh (pt p),.sh (.int S.length),.sh (rW (i,j)),s4],rfl,?_⟩;cases q:Hu.Zv (Hu.ji (Hu.at_ S i) (Hu.at_ S j) p) with
  |true=>
   left
   have hg:=Hu.ZD.mp q;have e3:=Z0g (q:=[i,j]) (n:=S.length) hb hg.1 rfl (by simp;lia) hl (s0:=.bw ((Hu.ji (Hu.at_ S i) (Hu.at_ S j) p).map .int)) (s1:=.sh (.tup [.int i,.int j])) (.inr rfl) (.inr rfl);rw[q] at e2;refine⟨_,[sl,.sh (pt p),.sh (.int S.length),.sh (rW (i,j)),.ow ((Hu.ji (Hu.at_ S i) (Hu.at_ S j) p).map .int)],rfl,?_⟩;generalize Hu.ji (Hu.at_ S i) (Hu.at_ S j) p=w at*;generalize hws:w.map PV.int=ws at*;simp[wa,rW,hs.cap,e0,e1,e2,e3,Oy]
  |false=>
   right
   rw[q] at e2;refine⟨[sl,.sh (pt p),.sh (.int S.length),.sh (rW (i,j)),.ow ((Hu.ji (Hu.at_ S i) (Hu.at_ S j) p).map .int)],rfl,?_,_,_,rfl⟩;generalize Hu.ji (Hu.at_ S i) (Hu.at_ S j) p=w at*;generalize hws:w.map PV.int=ws at*;simp[wa,rW,hs.cap,e0,e1,e2])
 have e3:(Hu.Zk S.length).findSome? (λq=>if Hu.Zv (Hu.nQ (Hu.at_ S q.1) (Hu.at_ S q.2.1) (Hu.at_ S q.2.2) p)=true then some (Hu.nQ (Hu.at_ S q.1) (Hu.at_ S q.2.1) (Hu.at_ S q.2.2) p,[q.1,q.2.1,q.2.2]) else none)=Hu.XG S p:=rfl;have e2:(Hu.Zf S.length).findSome? (λq=>if Hu.Zv (Hu.ji (Hu.at_ S q.1) (Hu.at_ S q.2) p)=true then some (Hu.ji (Hu.at_ S q.1) (Hu.at_ S q.2) p,[q.1,q.2]) else none)=Hu.Z2T S p:=rfl;rw[e3] at F3;rw[e2] at F2;have e1:=Z0g (w:=[1]) (q:=[0]) (n:=S.length) ⟨by simp,by simp⟩ (by simp) rfl (by simpa using ug.mpr h0) hl (s0:=.sh (.lst [.int 1])) (s1:=.sh (.lst [.int 0])) (.inl rfl) (.inl rfl);have hw1:(Fr.lay (Ï S.length 0) ([1].zip [0])).map (λs=>pt (rt s [1].sum))=Oy S ([1],[0]):=rfl;rw[hw1] at e1;generalize hn:(S.length:Int)=N at*;generalize (Hu.Zk S.length).map Ϥ=ts,(Hu.Zf S.length).map rW=prs at*;unfold Hu.J2;rcases F3 [sl,.sh (pt p),~~~N,.no,.no] ⟨_,_,rfl⟩ with⟨r,Y',q1,q2⟩|⟨Y',q1,q2,s3,s4,hρ⟩
 ·rw[q1];rcases hs with rfl|rfl<;>simp[tD,wc,Ï,-vA,hlen,ht,q2]
 ·subst hρ;rw[q1];rcases F2 [sl,.sh (pt p),~~~N,s3,s4] ⟨_,_,rfl⟩ with⟨r,Y',q3,q4⟩|⟨Y',q3,q4,tX,oa,hρ⟩
  ·rw[q3];rcases hs with rfl|rfl<;>simp[tD,wc,Ï,-vA,hlen,ht,hpr,q2,q4]
  ·subst hρ;rw[q3];rcases hs with rfl|rfl<;>simp[tD,wc,Ï,-vA,hlen,ht,hpr,q2,q4,e1]
def Qqj8(S:List Hu.Pt)(p:Hu.Pt):PV:=match Hu.ZG S p with
 |some l=>.tup [.str "out",gF l]
 |none=>.tup [.str "in",.lst (Oy S (Hu.J2 S p))]
def Z47{S:List Hu.Pt}{sl:ϒ}(hs:Sl sl (S.map pt))(hS:∀p∈S,Sm p)(h0:S≠[])(hl:S.length<=100){p:Hu.Pt}(hp:Sm p):yJ [sl,.sh (pt p)]=.ret (.sh (Qqj8 S p)):=by
 have h1:=Z1Z hs hS h0 (by lia) p;have h2:=Z21 hs hS h0 hl hp;unfold Qqj8;cases e:Hu.ZG S p with
 |some l=>rw[e] at h1;simp[yJ,Au,Ï,hs.lend,h1,Qqj7,gF,jS]
 |none=>rw[e] at h1;simp[yJ,Au,Ï,hs.lend,h1,Qqj7,h2,jS]
def Z3a{r:P3}(hr:RB r)(s:Hu.Pt):C8 [.sh (pt s),.sh (c3 r)]=.ret (.sh (pt (gE r (wR s)))):=by have e:=Z1G hr (wR s);have e':PV.tup [.int (2*s.1),.int (2*s.2),.int 0]=c3 (wR s):=rfl;generalize hR:c3 r=R at*;unfold pt;simp[C8,GZ,Ï,e',e];rfl
def Z22{w:Str}{xs:List Int}(hg:Zg w xs=true){r:P3}(hr:RB r){s:Hu.Pt}(hs:PB (wR s)):C9 [.sh (Za (Zj w) w xs),.sh (pt s),.sh (c3 r)]=.ret (.sh (Qqj8 ((Zl w xs).map (gE r)) (gE r (wR s)))):=by
 obtain⟨g1,g2,g3⟩:=Z1d hg;have h1:=Z37 hg (by lia) hr;have h2:=Z3a hr s;have h3:=Z47 (S:=(Zl w xs).map (gE r)) (sl:=.sh (.lst (((Zl w xs).map (gE r)).map pt))) (.inl rfl) (by
  intro p hp;obtain⟨q,hq,rfl⟩:=aE.mp hp;exact Z2p hr (g3 q hq)) (by simpa using g2) (by simp;lia) (p:=gE r (wR s)) (Z2p hr hs)
 generalize Qqj8 ((Zl w xs).map (gE r)) (gE r (wR s))=Qqj,((Zl w xs).map (gE r)).map pt=Qqq,pt (gE r (wR s))=Z,Za (Zj w) w xs=v,c3 r=R,pt s=Q at*;simp[C9,G_,Ï,h1,h2,h3]
def sIn:Ϝ (Ì "in")=true:=by decide +kernel
def Z54:Ϝ (Ì "out")=true:=by decide +kernel
def dIO:(Ì "out" =Ì "in")=False:=eq_false (by decide +kernel)
def Z2w{w:Str}{xs:List Int}(hg:Zg w xs=true){r:P3}(hr:RB r){s:Hu.Pt}(hs:PB (wR s)):tF [.sh (Za (Zj w) w xs),.sh (pt s),.sh (c3 r)]=.ret (.sh (.bl (Iv w xs s r))):=by
 have h1:=Z22 hg hr hs;unfold Qqj8 at h1;unfold Iv;generalize Za (Zj w) w xs=v,c3 r=R,pt s=Q at*;cases e:Hu.ZG ((Zl w xs).map (gE r)) (gE r (wR s)) with
 |none=>rw[e] at h1;dsimp only at h1;generalize Oy ((Zl w xs).map (gE r)) (Hu.J2 ((Zl w xs).map (gE r)) (gE r (wR s)))=Qqq at*;simp[tF,Av,Ï,h1,ϕ sIn sIn]
 |some l=>rw[e] at h1;dsimp only at h1;generalize gF l=Qqq at*;simp[tF,Av,Ï,h1,ϕ Z54 sIn,dIO]
structure Tq(w h:Nat)(T:List Th):Prop where
 w0:0<w
 w1:w<=60
 h1:h<=1000
 wh:w*h<=1000
 tl:T.length<=1000
 tg:∀t∈T,Zg t.1 t.2=true
def Z4s{w k n:Nat}(hk:k<1000):PB (wR (aW w k)):=by have h1:k % w<=k:=Nat.mod_le k w;have h2:k / w<=k:=Nat.div_le_self k w;unfold PB wR aW;dsimp only;generalize k % w=a,k / w=b at*;lia
def Z2x{w h:Nat}{T:List Th}(Qqq:Tq w h T)(D:List Dy){o:Option P3}(ho:sx o){k:Nat}(hk:k<1000):lF [.sh (Z1 w h T D),.sh (dX o),.sh (pt (aW w k))]=.ret (.sh (.bl (wS w T o k))):=by
 cases o with
 |none=>generalize Z1 w h T D=Yv at*;simp[lF,wf,Ï,dX,jS,wS]
 |some r=>
  have ho:RB r/\0<r.2.2:=ho;have yt:=y_t w h T D;have e:T.findSome? (λt=>if xg t (aW w k) r=true then some () else none)=if(T.any λt=>xg t (aW w k) r)=true then some () else none:=by
   generalize T=T'
   induction T' with
   |nil=>rfl
   |cons t T' ih=>
    rw[oO,di];cases q:xg t (aW w k) r with
    |true=>simp
    |false=>rw[tZ,<-ih];simp
  have hn:jS (c3 r)=false:=by simp[c3,jS]
  rcases cP (g:=gN 3) (mb:=we) zm (λt=>if xg t (aW w k) r=true then some () else none) (λ_=>.sh (.bl true)) (λY=>∃s,Y=[.sh (Z1 w h T D),.sh (c3 r),.sh (pt (aW w k)),s]) T (by
   rintro t ht Y ⟨s,rfl⟩;have es:tF [.sh (zm t),.sh (pt (aW w k)),.sh (c3 r)]=.ret (.sh (.bl (xg t (aW w k) r))):=Z2w (Qqq.tg t ht) ho.1 (Z4s (n:=0) hk);refine⟨[.sh (Z1 w h T D),.sh (c3 r),.sh (pt (aW w k)),.sh (zm t)],rfl,?_⟩;generalize Z1 w h T D=Yv,c3 r=R,zm t=Tv at*;generalize hP:pt (aW w k)=Pv at*;cases q:xg t (aW w k) r with
   |true=>rw[q] at es;exact .inl ⟨(),[.sh Yv,.sh R,.sh Pv,.sh Tv],by simp,by simp[we,es]⟩
   |false=>rw[q] at es;exact .inr ⟨[.sh Yv,.sh R,.sh Pv,.sh Tv],by simp,by simp[we,es],_,rfl⟩) [.sh (Z1 w h T D),.sh (c3 r),.sh (pt (aW w k)),.no] ⟨_,rfl⟩ with⟨_,Y',q1,q2⟩|⟨Y',q1,q2,_⟩
  ·rw[e] at q1;have hd:wS w T (some r) k=true:=by
    show(T.any λt=>xg t (aW w k) r)=true;cases q:T.any (λt=>xg t (aW w k) r) with
    |true=>rfl
    |false=>rw[q] at q1;simp at q1
   rw[hd];show lF [_,.sh (c3 r),_]=_;generalize Z1 w h T D=Yv,c3 r=R,pt (aW w k)=Pv at*;simp[lF,wf,Ï,hn,yt,q2]
  ·rw[e] at q1;have hd:wS w T (some r) k=false:=by
    show(T.any λt=>xg t (aW w k) r)=false;cases q:T.any (λt=>xg t (aW w k) r) with
    |false=>rfl
    |true=>rw[q] at q1;simp at q1
   rw[hd];show lF [_,.sh (c3 r),_]=_;generalize Z1 w h T D=Yv,c3 r=R,pt (aW w k)=Pv at*;simp[lF,wf,Ï,hn,yt,q2]
def Z0G{w h:Nat}{T:List Th}{D:List Dy}{i:Nat}(hi:i<D.length):yC [.sh (Z1 w h T D),~~~i]=.ret (.sh (.lst (D[i].2.2.map dX))):=by
 have yd:=y_d w h T D;have hx:(D.map og)[i]?=some (og D[i]):=by simp[hi]
 generalize Z1 w h T D=Yv,D.map og=DV at*;simp[yC,GB,Ï,yd,hx];simp[og]
theorem Z0R(f:Nat->PV):∀(n a:Nat),lq a ((ϊ a n).map f)=(ϊ a n).map λ(k:Nat)=>PV.tup [.int k,f k]
 |0,a=>rfl
 |n+1,a=>by rw[oQ,ý,ý];show _::lq (a+1) _=_;rw[Z0R f n (a+1)]
def XY(f:Nat->PV)(n:Nat):lq 0 ((Ò n).map f)=(Ò n).map λ(k:Nat)=>PV.tup [.int k,f k]:=by rw[ki];exact Z0R f n 0
def Z23(os:List (Option P3)):(Ò os.length).map (λj=>os.getD j none)=os:=by refine uk (by simp) λi h1 h2=>?_;simp at h1;simp[h1]
def Z3b{os:List (Option P3)}{j:Nat}(h:j<os.length):os.getD j none∈os:=by rw[Ϫ,Ō h];exact cz h
def nV(j:Nat):PV:=.int (j:Int)
def ZQ(i j:Int):mw (.int i) (.int j)=some (.int (bT i j)):=rfl
def ZN(c k:Nat):qr (c:Int) (k:Int)=true:=by simp[qr]
def Z2y(f:Nat->PV){n:Nat}(hn:n<=1000)(c:Nat):jx [.bw ((Ò n).map f),~~~c]=.ret (.ow (((Ò n).filter λk=>c.testBit k).map f)):=by
 have en:=XY f n;have e:=bA (g:=gT 2 (è (gN 1) (è (gN 2) ň))) (mt:=cK (È mw (È gf (Â 0) (Â 1)) (Ä 1))) (me:=ê 2) (λ(k:Nat)=>PV.tup [.int k,f k]) f (λk=>c.testBit k) (λY=>∃a b,Y=[~~~c,a,b]) (Ò n) [~~~c,.no,.no] [] ⟨_,_,rfl⟩ (by simp;lia) (by
  rintro k _ Y ⟨a,b,rfl⟩;refine⟨[~~~c,~~~k,.sh (f k)],[~~~c,~~~k,.sh (f k)],by simp,?_,λ_=>⟨_,_,rfl⟩,λ_=>⟨[~~~c,~~~k,.sh (f k)],by simp,_,_,rfl⟩⟩;have h1:=ZZ c k;have h2:bT ((c:Int) / 2 ^ k) 1=if c.testBit k then 1 else 0:=by rw[Z1Y];exact h1
  cases hb:c.testBit k with
  |true=>rw[hb] at h2;simp at h2;simp[h2,ZN,ZQ]
  |false=>rw[hb] at h2;simp at h2;simp[h2,ZN,ZQ])
 rw[Ś] at e;generalize (Ò n).map f=L at*;generalize ((Ò n).filter λk=>c.testBit k).map f=R at*;simp[jx,An,Ï,bt,av,en,e]
def Zh(cov:Nat->Nat)(n c base:Nat):Nat:=((Ò n).filter λk=>c.testBit k).foldl (λb k=>b ||| cov k) base
def Z3c(cov:Nat->Nat){n:Nat}(hn:n<=1000)(c base:Nat):yF [.bw ((Ò n).map λk=>PV.int (cov k:Nat)),~~~c,~~~base]=.ret (~~~(Zh cov n c base:Nat)):=by
 have e1:=Z2y (λk=>PV.int (cov k:Nat)) hn c;obtain⟨Y',e2,a,rfl⟩:=jg (g:=gN 4) (mb:=Aq) (λk=>PV.int (cov k:Nat)) (λ(b:Nat) k=>b ||| cov k) (λb Y=>∃a,Y=[.bw ((Ò n).map λk=>PV.int (cov k:Nat)),~~~c,~~~base,~~~(b:Nat),a]) ((Ò n).filter λk=>c.testBit k) (by
  rintro k _ b Y ⟨a,rfl⟩;exact⟨_,_,rfl,by simp[Aq,Z2s];rfl,_,rfl⟩) base [.bw ((Ò n).map λk=>PV.int (cov k:Nat)),~~~c,~~~base,~~~base,.no] ⟨_,rfl⟩
 unfold Zh;generalize ((Ò n).filter λk=>c.testBit k).foldl (λb k=>b ||| cov k) base=M at*;generalize ((Ò n).filter λk=>c.testBit k).map (λk=>PV.int (cov k:Nat))=R at*;generalize (Ò n).map (λk=>PV.int (cov k:Nat))=L at*;simp[yF,GC,Ï,e1,e2]
def gG(m many:Nat):Option Nat:=(Ò many).findSome? λk=>if m.testBit k then none else some k
def bN:Option Nat->PV
 |some k=>.int k
 |none=>.non
def Z2z(m:Nat){many:Nat}(hm:many<=1000):tq [~~~m,~~~many]=.ret (.sh (bN (gG m many))):=by
 have rr:=Zt (n:=many) hm;rcases cP (g:=gN 2) (mb:=vW) (λ(k:Nat)=>PV.int (k:Int)) (λk=>if m.testBit k then none else some k) (λk=>RV.sh (.int (k:Nat))) (λY=>∃a,Y=[~~~m,~~~many,a]) (Ò many) (by
  rintro k _ Y ⟨a,rfl⟩;refine⟨[~~~m,~~~many,~~~k],rfl,?_⟩;have h1:=ZZ m k;have h2:bT ((m:Int) / 2 ^ k) 1=if m.testBit k then 1 else 0:=by rw[Z1Y];exact h1
  cases hb:m.testBit k with
  |true=>rw[hb] at h2;simp at h2;exact .inr ⟨[~~~m,~~~many,~~~k],by simp,by simp[vW,h2,ZN,ZQ],_,rfl⟩
  |false=>rw[hb] at h2;simp at h2;exact .inl ⟨k,[~~~m,~~~many,~~~k],by simp,by simp[vW,h2,ZN,ZQ]⟩) [~~~m,~~~many,.no] ⟨_,rfl⟩ with⟨r,Y',e1,e2⟩|⟨Y',e1,e2,a,rfl⟩
 ·unfold gG;rw[e1];simp[tq,Ap,Ï,rr,e2,bN]
 ·unfold gG;rw[e1];simp[tq,Ap,Ï,rr,e2,bN]
def Zd(pr:Nat->Int)(n c:Nat):Int:=(((Ò n).filter λk=>c.testBit k).map pr).sum
def ZV{α β:Type}(F:α->β)(d:α)(qs:List α):qs.map F=(Ò qs.length).map λk=>F (qs.getD k d):=by
 refine uk (by simp) λi h1 h2=>?_;have hi:i<qs.length:=by simpa using h1
 simp[hi]
def Z1I(f:Nat->PV){n:Nat}(hn:0<n):ã (.lst ((Ò n).map f)) (.int (-1))=some (f (n-1)):=by
 show qe _ _=_;unfold qe zE;simp;rw[if_pos (by lia)];have e:(-1+(n:Int)).toNat=n-1:=by lia
 simp[e];exact⟨n-1,by rw[Bl (by lia)],rfl⟩
theorem Z2A:∀ks:List Int,ks≠[]->∃i,i<ks.length/\∀j,j<ks.length->ks.getD i 0<=ks.getD j 0/\(j<i->ks.getD i 0<ks.getD j 0)
 | [],h=>absurd rfl h
 | [k],_=>⟨0,by simp,fun j hj=>by
     have:j=0:=by simp at hj;lia
     subst this;exact⟨dg _,λz=>absurd z (ų _)⟩⟩
 |k::m::ks,_=>by
  obtain⟨i,hi,h⟩:=Z2A (m::ks) (by simp);by_cases hk:k<=(m::ks).getD i 0
  ·refine⟨0,by simp,λj hj=>?_⟩;cases j with
   |zero=>exact⟨dg _,λz=>absurd z (ų _)⟩
   |succ j=>have:=(h j (by simpa using hj)).1;exact⟨by simp only[ul,kj];lia,λz=>absurd z (by lia)⟩
  ·refine⟨i+1,by simpa using hi,λj hj=>?_⟩;cases j with
   |zero=>exact⟨by simp only[ul,kj];lia,λ_=>by simp only[ul,kj];lia⟩
   |succ j=>have:=h j (by simpa using hj);exact⟨by simp only[kj];exact this.1,λz=>by simp only[kj];exact this.2 (by lia)⟩
def Z3d(cov:Nat->Nat)(n c base j:Nat):(Zh cov n c base).testBit j=(base.testBit j || (Ò n).any λk=>c.testBit k && (cov k).testBit j):=by
 unfold Zh;have gen:∀(l:List Nat) (b:Nat),((l.filter λk=>c.testBit k).foldl (λb k=>b ||| cov k) b).testBit j=(b.testBit j || l.any λk=>c.testBit k && (cov k).testBit j):=by
  intro l
  induction l with
  |nil=>intro b;simp
  |cons k l ih=>
   intro b;cases hk:c.testBit k with
   |true=>rw[Bp hk,aC,ih,Nat.testBit_or,di,hk,Bool.true_and,Bool.or_assoc]
   |false=>rw[Bq (by simp[hk]),ih,di,hk,Bool.false_and,tZ]
 exact gen _ base
def ZE(ns:List Int)(k:Nat):aU [.sh (.lst (ns.map .int)),~~~k]=.ret (~~~(ns.getD k 0)):=by
 by_cases h:k<ns.length
 ·have h':(k:Int)<(ns.length:Int):=by lia
  simp[aU,Ae,Ï,h',Ō h]
 ·have h':¬(k:Int)<(ns.length:Int):=by lia
  simp[aU,Ae,Ï,h',Bm (ur h)]
@[simp] theorem ZF(ns:List Int)(k:Nat):aU [.sh (.lst (ns.map .int)),~~~(no_index (Ū k))]=.ret (~~~(ns.getD k 0)):=ZE ns k
@[simp] theorem Z5l{x:Int}{n:Nat}(h:n≠0)(h2:n<1073741824):CG x (no_index (Ū n):Int)=true:=by have e:(no_index (Ū n):Int)=(n:Int):=rfl;rw[e];unfold CG;simp;lia
def Z1i(n k:Int)(h0:0<=k)(hk:k<1000):∃x:Int,yN [~~~n,~~~k]=.ret (~~~x)/\0<=x/\x<1500450271:=by
 have h1:=Int.emod_nonneg n (show(1073741789:Int)≠0 by decide);have h2:=Int.emod_lt_of_pos n (show(0:Int)<1073741789 by decide);obtain⟨N,hN⟩:∃N,(n % 1073741789+3*k+1)*40009+k*5501=N:=⟨_,rfl⟩;have b0:0<=N / 32749:=by lia
 have b1:N / 32749<18446744073709551616:=by lia
 have b2:0<=N % 32749:=by lia
 have b3:N % 32749<32749:=by lia
 obtain⟨h,hh⟩:∃h,N / 32749=h:=⟨_,rfl⟩;obtain⟨l,hl⟩:∃l,N % 32749=l:=⟨_,rfl⟩;rw[hh] at b0 b1;rw[hl] at b2 b3;have m1:Ĵ h h=true:=ϙ (by lia) (by lia);have m2:Ĵ l (l+613)=true:=ϙ (by lia) (by lia);have hd:ll [.int N,.int 32749]=some (.tup [.int h,.int l]):=by rw[<-hh,<-hl];simp[ll]
 obtain⟨S,hS⟩:∃S,h*h+l*(l+613)+k=S:=⟨_,rfl⟩;refine⟨S % 1500450271,?_,by lia,by lia⟩;simp[yN,G4,Ï,hN,hd,m1,m2,hS]
def Z3e(p:Nat->Bool)(i:Nat):(Ze i p ||| 2 ^ i)=Ze i p+2 ^ i:=by have h:=Nat.two_pow_add_eq_or_of_lt (XW p i) 1;rw[Nat.mul_one] at h;rw[Nat.or_comm,<-h,oS]
theorem Z1j(f:Nat->Bool):∀(n a:Nat) (z s2 s3:ϒ),a+n<=1000->∃Bb tX,Ĩ (gT 2 (è (gN 2) (è (gN 3) ň))) qW ((ϊ a n).map λ(k:Nat)=>PV.tup [.int k,.bl (f k)]) [z,~~~(Ze a f:Nat),s2,s3]=.ok .nx [z,~~~(Ze (a+n) f:Nat),Bb,tX]
 |0,a,z,s2,s3,_=>⟨s2,s3,rfl⟩
 |n+1,a,z,s2,s3,hn=>by
  obtain⟨Bb,tX,e⟩:=Z1j f n (a+1) z (~~~a) (.sh (.bl (f a))) (by lia);refine⟨Bb,tX,?_⟩;have eb:qW [z,~~~(Ze a f:Nat),~~~a,.sh (.bl (f a))]=.ok .nx [z,~~~(Ze (a+1) f:Nat),~~~a,.sh (.bl (f a))]:=by
   have po:lg 1 (a:Int)=true:=by simp[lg];lia
   cases hf:f a with
   |false=>simp[qW,Ze,hf]
   |true=>
    have hb:kJ ((Ze a f:Nat):Int) (2 ^ a)=((Ze (a+1) f:Nat):Int):=by
     have:=Z2s (Ze a f) (2 ^ a);rw[Z3e] at this;have e2:Ze (a+1) f=Ze a f+2 ^ a:=by simp[Ze,hf]
     rw[e2];simpa using this
    simp[qW,hb,po]
  rw[oQ,ý,Ĩ];simp[eb];rw[show a+(n+1)=a+1+n by lia];exact e
def Z4t(f:Nat->Bool){n:Nat}(hn:n<=1000):Dc [.sh (.lst ((Ò n).map λ(k:Nat)=>PV.bl (f k)))]=.ret (~~~(Ze n f:Nat)):=by obtain⟨a,b,e⟩:=Z1j f n 0 (.sh (.lst ((Ò n).map λ(k:Nat)=>PV.bl (f k)))) .no .no (by lia);have en:=XY (λk=>PV.bl (f k)) n;rw[<-ki,oU] at e;have z:Ze 0 f=0:=rfl;rw[z] at e;generalize (Ò n).map (λ(k:Nat)=>PV.bl (f k))=L at*;simp[Dc,G1,Ï,en];simp at e;rw[e];simp
def ZA(d many t:Nat):List (Nat×Nat×Nat):=(Ò (many-(t+1))).map λi=>(d,t,t+1+i)
def Z0w(d many t:Nat):(ZA d many t).length<=many:=by simp[ZA]
def Z4u(t many:Nat)(ht:t<=1000)(hm:many<=1000):sR [.int ((t:Int)+1),.int (many:Int)]=some ((Ò (many-(t+1))).map λ(i:Nat)=>PV.int ((t+1+i:Nat):Int)):=by
 have hs:ay ((t:Int)+1)=true:=by unfold ay;simp;lia
 have gD:ay (many:Int)=true:=by unfold ay;simp;lia
 have e:((many:Int)-((t:Int)+1)).toNat=many-(t+1):=by lia
 unfold sR;simp[hs,gD,bJ,e]
def Z0S(d many t:Nat)(hm:many<=1000)(s:ϒ):Ķ (gN 2) Ě (ķ (Ç (ê 0) (Ç (ê 1) (Ç (ê 2) â)))) ((Ò (many-(t+1))).map λ(i:Nat)=>PV.int ((t+1+i:Nat):Int)) [~~~d,~~~t,s] []=some ((ZA d many t).map Ϥ):=by
 have:=Ĕ (g:=gN 2) (mt:=Ě) (me:=ķ (Ç (ê 0) (Ç (ê 1) (Ç (ê 2) â)))) (λ(i:Nat)=>PV.int ((t+1+i:Nat):Int)) (λi=>Ϥ (d,t,t+1+i)) (λY=>∃s,Y=[~~~d,~~~t,s]) (Ò (many-(t+1))) [~~~d,~~~t,s] [] ⟨_,rfl⟩ (by simp;lia) (by
  rintro i _ Y ⟨s,rfl⟩;generalize hu:t+1+i=u;exact⟨[~~~d,~~~t,~~~u],[~~~d,~~~t,~~~u],[~~~d,~~~t,~~~u],by simp,by simp,by simp[Ϥ],_,rfl⟩)
 rw[this];simp[ZA]
theorem Z1k(d many:Nat)(hm:many<=100):∀(ts:List Nat) (ď:List PV) (s0 s4:ϒ),(∀t∈ts,t<=1000)->ď.length+ts.length*100<=1000000->∃oa,Ĩ (gN 4) yD (ts.map λ(t:Nat)=>PV.int (t:Int)) [s0,.ow ď,~~~d,~~~many,s4]=.ok .nx [s0,.ow (ď++(ts.flatMap (ZA d many)).map Ϥ),~~~d,~~~many,oa]
 | [],ď,s0,s4,_,_=>⟨s4,by simp[Ĩ]⟩
 |t::ts,ď,s0,s4,ht,ha=>by
  have hl:=Z0w d many t;have Yh:ď.length+ts.length*100+100<=1000000:=by simp at ha;lia
  have c1:=Z0S d many t (by lia) .no;have r1:=Z4u t many (ht t ĭ) (by lia);obtain⟨oa,e⟩:=Z1k d many hm ts (ď++(ZA d many t).map Ϥ) s0 (~~~t) (λx hx=>ht x (Ă _ hx)) (by simp;lia);have hz:ď.length+((ZA d many t).map Ϥ).length<=16777216:=by simp;lia
  refine⟨oa,?_⟩;rw[ff,š,<-bO];have eb:yD [s0,.ow ď,~~~d,~~~many,~~~t]=.ok .nx [s0,.ow (ď++(ZA d many t).map Ϥ),~~~d,~~~many,~~~t]:=by generalize (ZA d many t).map Ϥ=Q at*;generalize (Ò (many-(t+1))).map (λ(i:Nat)=>PV.int ((t+1+i:Nat):Int))=UU at*;simp[yD,r1,bt,av,c1,hz]
  rw[ý,Ĩ];have g1:gN 4 (.int (t:Int)) [s0,.ow ď,~~~d,~~~many,s4]=some [s0,.ow ď,~~~d,~~~many,~~~t]:=by simp
  rw[g1];dsimp only;rw[eb];exact e
def Ϸ(D:List Dy)(d:Nat):List (Option P3):=(D.map λx=>x.2.2).getD d []
def Qqj9{D:List Dy}{d:Nat}(h:d<D.length):Ϸ D d=D[d].2.2:=by simp[Ϸ,h]
def Zw(D:List Dy)(d:Nat):List (Nat×Nat×Nat):=(Ò (Ϸ D d).length).flatMap (ZA d (Ϸ D d).length)
def Z0(D:List Dy):List (Nat×Nat×Nat):=(Ò D.length).flatMap (Zw D)
theorem Z0x{α β:Type}(f:α->List β)(m:Nat):∀l:List α,(∀x∈l,(f x).length<=m)->(l.flatMap f).length<=l.length*m
 | [],_=>by simp
 |x::l,h=>by have h1:=h x ĭ;have h2:=Z0x f m l λy hy=>h y (Ă _ hy);rw[ff,ϩ,ŋ,uo];lia
def Z0h(D:List Dy)(d:Nat)(h:(Ϸ D d).length<=5):(Zw D d).length<=25:=by have:=Z0x (ZA d (Ϸ D d).length) 5 (Ò (Ϸ D d).length) λt _=>Ĺ (Z0w _ _ _) h;unfold Zw;rw[oN] at this;have h2:(Ϸ D d).length*5<=5*5:=Bt 5 h;lia
def Z0y(D:List Dy)(hl:D.length<=3)(h:∀d,(Ϸ D d).length<=5):(Z0 D).length<=75:=by have:=Z0x (Zw D) 25 (Ò D.length) λd _=>Z0h D d (h d);unfold Z0;rw[oN] at this;have h2:D.length*25<=3*25:=Bt 25 hl;lia
theorem Z1l{w h:Nat}{T:List Th}{D:List Dy}(ho:∀d,(Ϸ D d).length<=5):∀(ds:List Nat) (ď:List PV) (s2 s3 s4:ϒ),(∀d∈ds,d<D.length)->ď.length+ds.length*25<=100000->∃Bb tX oa,Ĩ (gN 2) yE (ds.map λ(d:Nat)=>PV.int (d:Int)) [.sh (Z1 w h T D),.ow ď,s2,s3,s4]=.ok .nx [.sh (Z1 w h T D),.ow (ď++(ds.flatMap (Zw D)).map Ϥ),Bb,tX,oa]
 | [],ď,s2,s3,s4,_,_=>⟨s2,s3,s4,by simp[Ĩ]⟩
 |d::ds,ď,s2,s3,s4,hd,ha=>by
  have Eg:=hd d ĭ;have hl:=Z0h D d (ho d);have Yh:ď.length+ds.length*25+25<=100000:=by simp at ha;lia
  have tu:=Z0G (w:=w) (h:=h) (T:=T) Eg;rw[<-Qqj9 Eg] at tu;obtain⟨x,ex⟩:=Z1k d (Ϸ D d).length (by have:=ho d;lia) (Ò (Ϸ D d).length) ď (.sh (Z1 w h T D)) s4 (by intro t ht;have:=ĸ.mp ht;have:=ho d;lia) (by have:=ho d;simp;lia);have ex:Ĩ (gN 4) yD ((Ò (Ϸ D d).length).map λ(t:Nat)=>PV.int (t:Int)) [.sh (Z1 w h T D),.ow ď,~~~d,.sh (.int (Ϸ D d).length),s4]=.ok .nx [.sh (Z1 w h T D),.ow (ď++(Zw D d).map Ϥ),~~~d,.sh (.int (Ϸ D d).length),x]:=ex;obtain⟨Bb,tX,oa,e⟩:=Z1l (w:=w) (h:=h) (T:=T) ho ds (ď++(Zw D d).map Ϥ) (~~~d) (.sh (.int (Ϸ D d).length)) x (λy hy=>hd y (Ă _ hy)) (by simp;lia);have rr:=Zt (n:=(Ϸ D d).length) (by have:=ho d;lia);refine⟨Bb,tX,oa,?_⟩;rw[ff,š,<-bO];have hlen:((Ϸ D d).map dX).length=(Ϸ D d).length:=by simp
  have eb:yE [.sh (Z1 w h T D),.ow ď,~~~d,s3,s4]=.ok .nx [.sh (Z1 w h T D),.ow (ď++(Zw D d).map Ϥ),~~~d,.sh (.int (Ϸ D d).length),x]:=by generalize (Zw D d).map Ϥ=Q,(Ϸ D d).map dX=OS,Z1 w h T D=Yv,(Ϸ D d).length=m at*;simp[yE,tu,hlen,rr,ex]
  rw[ý,Ĩ];have g1:gN 2 (.int (d:Int)) [.sh (Z1 w h T D),.ow ď,s2,s3,s4]=some [.sh (Z1 w h T D),.ow ď,~~~d,s3,s4]:=by simp
  rw[g1];dsimp only;rw[eb];exact e
def Z4v{w h:Nat}{T:List Th}{D:List Dy}(hD:D.length<=3)(ho:∀d,(Ϸ D d).length<=5):J4 [.sh (Z1 w h T D)]=.ret (.ow ((Z0 D).map Ϥ)):=by
 obtain⟨a,b,c,e⟩:=Z1l (w:=w) (h:=h) (T:=T) ho (Ò D.length) [] .no .no .no (λd hd=>ĸ.mp hd) (by simp;lia);have yd:=y_d w h T D;have rr:=Zt (n:=D.length) (by lia);have hl:(D.map og).length=D.length:=by simp
 rw[Ś] at e;have e:Ĩ (gN 2) yE ((Ò D.length).map λ(d:Nat)=>PV.int (d:Int)) [.sh (Z1 w h T D),.ow [],.no,.no,.no]=.ok .nx [.sh (Z1 w h T D),.ow ((Z0 D).map Ϥ),a,b,c]:=e;generalize (Z0 D).map Ϥ=Q,Z1 w h T D=Yv,D.map og=DV at*;simp[J4,Me,Ï,yd,hl,rr,e]
def Z48{n w:Nat}(hw:0<w)(hw2:w<=1000):yL [~~~n,~~~w]=.ret (.sh (.tup [.int (n % w:Nat),.int (n / w:Nat)])):=by
 have h0:¬(w:Int)=0:=by lia
 have e1:oq (n:Int) (w:Int)=((n % w:Nat):Int):=by rw[iy _ (by lia)];simp
 have e2:Int.fdiv (n:Int) (w:Int)=((n / w:Nat):Int):=by rw[jV _ (by lia)];simp
 have e3:gZ (n:Int) (w:Int)=true:=xO (by lia) (Ĺ (lw (n:=200) (by lia) (by lia)) (by decide));have h1:¬w=0:=by lia
 simp[yL,G2,Ï,h0,h1,e1,e2,e3]
def rX(w:Nat)(T:List Th)(D:List Dy)(k d j:Nat):Bool:=wS w T ((Ϸ D d).getD j none) k
def Wa(D:List Dy):Prop:=∀d,(Ϸ D d).length<=5/\∀o∈Ϸ D d,sx o
def Eb(w:Nat)(T:List Th)(D:List Dy)(k d:Nat):PV:=.lst ((Ò (Ϸ D d).length).map λj=>PV.bl (rX w T D k d j))
def Z3f{w h:Nat}{T:List Th}(Qqq:Tq w h T){D:List Dy}(hD:Wa D){k d:Nat}(hk:k<w*h)(hd:d<D.length)(ď:List PV)(ha:ď.length<=1000):wg [.sh (Z1 w h T D),.sh (pt (aW w k)),.ow ď,~~~d]=.ok .nx [.sh (Z1 w h T D),.sh (pt (aW w k)),.ow (ď ++ [Eb w T D k d]),~~~d]:=by
 have tu:=Z0G (w:=w) (h:=h) (T:=T) hd;rw[<-Qqj9 hd] at tu;have hb:=hD d;have c:=Ĕ (g:=gN 2) (mt:=Ě) (me:=á (ç lF (É 0 (É 2 (É 1 Þ))))) (λj=>dX ((Ϸ D d).getD j none)) (λj=>PV.bl (rX w T D k d j)) (λY=>∃s,Y=[.sh (Z1 w h T D),.sh (pt (aW w k)),s]) (Ò (Ϸ D d).length) [.sh (Z1 w h T D),.sh (pt (aW w k)),.no] [] ⟨_,rfl⟩ (by simp;lia) (by
  rintro j hj Y ⟨s,rfl⟩;have ei:=Z2x Qqq D (hb.2 _ (Z3b (ĸ.mp hj))) (k:=k) (by have:=Qqq.wh;lia);unfold rX;generalize (Ϸ D d).getD j none=o,Z1 w h T D=Yv at*;generalize dX o=O,pt (aW w k)=Pv,wS w T o k=b at*;exact⟨[.sh Yv,.sh Pv,.sh O],[.sh Yv,.sh Pv,.sh O],[.sh Yv,.sh Pv,.sh O],by simp,by simp,by simp[ei],_,rfl⟩)
 have e:(Ò (Ϸ D d).length).map (λj=>dX ((Ϸ D d).getD j none))=(Ϸ D d).map dX:=by have:=congrArg (List.map dX) (Z23 (Ϸ D d));rw[ag] at this;exact this
 rw[e,Ś] at c;unfold Eb;generalize (Ò (Ϸ D d).length).map (λj=>PV.bl (rX w T D k d j))=R at*;generalize (Ϸ D d).map dX=OV,Z1 w h T D=Yv,pt (aW w k)=Pv at*;have hz:ď.length<16777216:=by lia
 simp[wg,tu,bt,av,c,hz]
def Z4w{w h:Nat}{T:List Th}(Qqq:Tq w h T){D:List Dy}(hl:D.length<=3)(hD:Wa D){k:Nat}(hk:k<w*h):Db [.sh (Z1 w h T D),.sh (pt (aW w k))]=.ret (.ow ((Ò D.length).map (Eb w T D k))):=by
 have yd:=y_d w h T D;have rr:=Zt (n:=D.length) (by lia);have Eg:(D.map og).length=D.length:=by simp
 have key:∀(ds:List Nat) (ď:List PV) (s:ϒ),(∀d∈ds,d<D.length)->ď.length+ds.length<=1000->∃s',Ĩ (gN 3) wg (ds.map λ(d:Nat)=>PV.int (d:Int)) [.sh (Z1 w h T D),.sh (pt (aW w k)),.ow ď,s]=.ok .nx [.sh (Z1 w h T D),.sh (pt (aW w k)),.ow (ď++ds.map (Eb w T D k)),s']:=by
  intro ds
  induction ds with
  |nil=>intro ď s _ _;exact⟨s,by simp[Ĩ]⟩
  |cons d ds ih=>
   intro ď s hd ha;simp at ha;have e1:=Z3f Qqq hD hk (hd d ĭ) ď (by lia);obtain⟨s',e2⟩:=ih (ď ++ [Eb w T D k d]) (~~~d) (λy hy=>hd y (Ă _ hy)) (by simp;lia);refine⟨s',?_⟩;rw[ý,Ĩ];have g1:gN 3 (.int (d:Int)) [.sh (Z1 w h T D),.sh (pt (aW w k)),.ow ď,s]=some [.sh (Z1 w h T D),.sh (pt (aW w k)),.ow ď,~~~d]:=by simp
   rw[g1];dsimp only;rw[e1];exact e2.trans (by simp)
 obtain⟨s',e⟩:=key (Ò D.length) [] .no (λd hd=>ĸ.mp hd) (by simp;lia);rw[Ś] at e;generalize (Ò D.length).map (Eb w T D k)=R,Z1 w h T D=Yv,pt (aW w k)=Pv,D.map og=DV at*;simp[Db,G0,Ï,yd,Eg,rr,e]
def Z1J{D:List Dy}{p:Nat×Nat×Nat}(h:p∈Z0 D):p.1<D.length/\p.2.1<(Ϸ D p.1).length/\p.2.2<(Ϸ D p.1).length:=by obtain⟨d,hd,h1⟩:=kf.mp h;obtain⟨t,ht,h2⟩:=kf.mp h1;obtain⟨i,hi,rfl⟩:=aE.mp h2;have:=ĸ.mp hd;have:=ĸ.mp ht;have:=ĸ.mp hi;exact⟨by assumption,by assumption,by dsimp only;lia⟩
def ZH(w:Nat)(T:List Th)(D:List Dy)(k:Nat)(p:Nat×Nat×Nat):Bool:=rX w T D k p.1 p.2.1 != rX w T D k p.1 p.2.2
def Zu(w:Nat)(T:List Th)(D:List Dy)(k i:Nat):Bool:=ZH w T D k ((Z0 D).getD i (0,0,0))
def Z4x{w h:Nat}{T:List Th}(Qqq:Tq w h T){D:List Dy}(hl:D.length<=3)(hD:Wa D){k:Nat}(hk:k<w*h){s2:ϒ}(h2:s2=.bw ((Z0 D).map Ϥ)):yM [.sh (Z1 w h T D),~~~k,s2]=.ret (~~~(Ze (Z0 D).length (Zu w T D k):Nat)):=by
 subst h2;have yw:=XV w h T D;have e1:=Z4w Qqq hl hD hk;have hlen:=Z0y D hl λd=>(hD d).1;have e0:yL [~~~k,~~~w]=.ret (.sh (pt (aW w k))):=Z48 (n:=k) Qqq.w0 (by have:=Qqq.w1;lia);have c:=Ĕ (g:=gT 3 (è (gN 1) (è (gN 2) (è (gN 3) ň)))) (mt:=Ě) (me:=È bv (È ã (È ã (Â 0) (Â 1)) (Â 2)) (È ã (È ã (Â 0) (Â 1)) (Â 3))) Ϥ (λp=>PV.bl (ZH w T D k p)) (λY=>∃a b c,Y=[.bw ((Ò D.length).map (Eb w T D k)),a,b,c]) (Z0 D) [.bw ((Ò D.length).map (Eb w T D k)),.no,.no,.no] [] ⟨_,_,_,rfl⟩ (by simp;lia) (by
  rintro p hp Y ⟨a,b,c,rfl⟩;obtain⟨h1,h2,h3⟩:=Z1J hp;have q1:((Ò D.length).map (Eb w T D k))[p.1]?=some (Eb w T D k p.1):=by simp[h1]
  have q2:((Ò (Ϸ D p.1).length).map λj=>PV.bl (rX w T D k p.1 j))[p.2.1]?=some (.bl (rX w T D k p.1 p.2.1)):=by simp[h2]
  have q3:((Ò (Ϸ D p.1).length).map λj=>PV.bl (rX w T D k p.1 j))[p.2.2]?=some (.bl (rX w T D k p.1 p.2.2)):=by simp[h3]
  have q1:((Ò D.length).map (Eb w T D k))[p.1]?=some (.lst ((Ò (Ϸ D p.1).length).map λj=>PV.bl (rX w T D k p.1 j))):=q1;unfold ZH;generalize (Ò D.length).map (Eb w T D k)=R at*;generalize (Ò (Ϸ D p.1).length).map (λj=>PV.bl (rX w T D k p.1 j))=R2 at*;generalize rX w T D k p.1 p.2.1=x,rX w T D k p.1 p.2.2=y at*;refine⟨[.bw R,.sh (.int p.1),.sh (.int p.2.1),.sh (.int p.2.2)],[.bw R,.sh (.int p.1),.sh (.int p.2.1),.sh (.int p.2.2)],[.bw R,.sh (.int p.1),.sh (.int p.2.1),.sh (.int p.2.2)],by simp[Ϥ],by simp,?_,_,_,_,rfl⟩;cases x<;>cases y<;>simp[q1,q2,q3])
 rw[Ś] at c;have e2:=Z4t (Zu w T D k) (n:=(Z0 D).length) (by lia);have e3:(Z0 D).map (λp=>PV.bl (ZH w T D k p))=(Ò (Z0 D).length).map λi=>PV.bl (Zu w T D k i):=ZV (λp=>PV.bl (ZH w T D k p)) (0,0,0) (Z0 D);rw[e3] at c;generalize (Ò (Z0 D).length).map (λi=>PV.bl (Zu w T D k i))=Q at*;generalize (Z0 D).map Ϥ=PR,(Ò D.length).map (Eb w T D k)=R,Z1 w h T D=Yv,pt (aW w k)=Pv at*;simp[yM,G3,Ï,yw,e0,e1,bt,av,c,e2]
def Z0T(f:Nat->PV){n:Nat}(hn:n<=1000)(c:Nat):jx [.sh (.lst ((Ò n).map f)),~~~c]=.ret (.ow (((Ò n).filter λk=>c.testBit k).map f)):=by
 have en:=XY f n;have e:=bA (g:=gT 2 (è (gN 1) (è (gN 2) ň))) (mt:=cK (È mw (È gf (Â 0) (Â 1)) (Ä 1))) (me:=ê 2) (λ(k:Nat)=>PV.tup [.int k,f k]) f (λk=>c.testBit k) (λY=>∃a b,Y=[~~~c,a,b]) (Ò n) [~~~c,.no,.no] [] ⟨_,_,rfl⟩ (by simp;lia) (by
  rintro k _ Y ⟨a,b,rfl⟩;refine⟨[~~~c,~~~k,.sh (f k)],[~~~c,~~~k,.sh (f k)],by simp,?_,λ_=>⟨_,_,rfl⟩,λ_=>⟨[~~~c,~~~k,.sh (f k)],by simp,_,_,rfl⟩⟩;have h1:=ZZ c k;have h2:bT ((c:Int) / 2 ^ k) 1=if c.testBit k then 1 else 0:=by rw[Z1Y];exact h1
  cases hb:c.testBit k with
  |true=>rw[hb] at h2;simp at h2;simp[h2,ZN,ZQ]
  |false=>rw[hb] at h2;simp at h2;simp[h2,ZN,ZQ])
 rw[Ś] at e;generalize (Ò n).map f=L at*;generalize ((Ò n).filter λk=>c.testBit k).map f=R at*;simp[jx,An,Ï,bt,av,en,e]
theorem Z1K(pr:Nat->Int){n:Nat}(hn:n<=1000)(z:ϒ):∀cs:List Nat,yo [0] (ar nO (Ç (á (ç jx (É 0 (É 1 Þ)))) â)) [.sh (.lst ((Ò n).map λk=>PV.int (pr k))),z] (cs.map λ(c:Nat)=>PV.int (c:Int))=some (cs.map (Zd pr n))
 | []=>rfl
 |c::cs=>by
  have ih:=Z1K pr hn z cs;have e1:=Z0T (λk=>PV.int (pr k)) hn c;have e2:((Ò n).filter λk=>c.testBit k).map (λk=>PV.int (pr k))=(((Ò n).filter λk=>c.testBit k).map pr).map PV.int:=by simp
  rw[e2] at e1;rw[ý,ý,yo];have e3:(ar nO (Ç (á (ç jx (É 0 (É 1 Þ)))) â)) (sA [0] [.sh (.lst ((Ò n).map λk=>PV.int (pr k))),z] (.int c))=.ok (.int (Zd pr n c)) [.sh (.lst ((Ò n).map λk=>PV.int (pr k))),~~~c]:=by unfold Zd;generalize ((Ò n).filter λk=>c.testBit k).map pr=R at*;generalize (Ò n).map (λk=>PV.int (pr k))=L at*;simp[sA,av,e1]
  rw[e3];dsimp only;rw[ih];rfl
def Z1n(pr:Nat->Int){n:Nat}(hn:n<=1000){cs:List Nat}(hc:cs≠[])(hs:cs.Pairwise (·< ·)):∃c∈cs,CZ [.sh (.lst ((Ò n).map λk=>PV.int (pr k))),.sh (.lst (cs.map λ(c:Nat)=>PV.int (c:Int)))]=.ret (~~~(c:Nat))/\∀c'∈cs,Zd pr n c<=Zd pr n c'/\(Zd pr n c'=Zd pr n c->c<=c'):=by
 have e:=Z1K pr hn (.sh (.lst (cs.map λ(c:Nat)=>PV.int (c:Int)))) cs;obtain⟨i,hi,hb⟩:=Z2A (cs.map (Zd pr n)) (by simpa using hc);rw[ř] at hi hb;have hx:(cs.map λ(c:Nat)=>PV.int (c:Int))[i]?=some (.int (cs[i]:Nat)):=by simp[hi]
 have gk:∀j (hj:j<cs.length),(cs.map (Zd pr n)).getD j 0=Zd pr n cs[j]:=λj hj=>by simp[hj]
 obtain⟨b,hp⟩:∃b,jh (cs.map λ(c:Nat)=>PV.int (c:Int)) (cs.map (Zd pr n))=some b:=by
  cases cs with
  |nil=>exact absurd rfl hc
  |cons a r=>exact⟨_,rfl⟩
 have hbx:=lx (by simp) hp hx (λj hj=>hb j (by simpa using hj));subst hbx;refine⟨cs[i],cz hi,?_,λc' jN=>?_⟩
 ·generalize (cs.map λ(c:Nat)=>PV.int (c:Int))=CS at*;generalize cs.map (Zd pr n)=KS at*;generalize (Ò n).map (λk=>PV.int (pr k))=L at*;generalize cs[i]=c at*;simp[CZ,Ao,Ï,JX,e,hp]
 ·obtain⟨j,hj,rfl⟩:=List.getElem_of_mem jN;have h1:=hb j hj;rw[gk i hi,gk j hj] at h1;refine⟨h1.1,λhe=>?_⟩;by_cases hji:j<i
  ·have:=h1.2 hji;lia
  ·by_cases Wh:i=j
   ·subst Wh;exact õ _
   ·exact fg (List.pairwise_iff_getElem.mp hs i j hi hj (by lia))
def Z24(pr:Nat->Int)(cov:Nat->Nat){n many:Nat}(hn:n<=9)(hm:many<=1000)(base:Nat):∃v:RV,yG [.sh (.lst ((Ò n).map λk=>PV.int (pr k))),.bw ((Ò n).map λk=>PV.int (cov k:Nat)),~~~many,~~~base]=.ret v/\
 ((∃k,gG (Zh cov n (2 ^ n-1) base) many=some k∧v=.sh (.tup [.str "none",.int k]))∨
   ∃c,c<2 ^ n/\gG (Zh cov n c base) many=none/\(∀c',c'<2 ^ n->gG (Zh cov n c' base) many=none->Zd pr n c<=Zd pr n c'/\(Zd pr n c'=Zd pr n c->c<=c'))/\
    v=.ot [.str "choice",.int c,.int (Zd pr n c)] ((Ò (2 ^ n)).map λc=>bN (gG (Zh cov n c base) many))):=by
 have hp:2 ^ n<=512:=by have:=km (show 0<2 by lia) hn;simpa using this
 have hp0:0<2 ^ n:=ux n;have rr:=Zt (n:=2 ^ n) (by lia);have hl:((Ò n).map λk=>PV.int (pr k)).length=n:=by simp
 have so:lg 1 (n:Int)=true:=by simp[lg];lia
 have Yi:ϑ [.int (2 ^ n)]=some ((Ò (2 ^ n)).map λ(i:Nat)=>PV.int (i:Int)):=by
  have:((2 ^ n:Nat):Int)=2 ^ n:=by simp
  rw[this] at rr;exact rr
 have c1:=Ĕ (g:=gN 3) (mt:=Ě) (me:=á (ç tq (ô (á (ç yF (É 1 (É 3 (É 2 Þ))))) (É 0 Þ)))) (λ(c:Nat)=>PV.int (c:Int)) (λc=>bN (gG (Zh cov n c base) many)) (λY=>∃a,Y=[~~~many,.bw ((Ò n).map λk=>PV.int (cov k:Nat)),~~~base,a]) (Ò (2 ^ n)) [~~~many,.bw ((Ò n).map λk=>PV.int (cov k:Nat)),~~~base,.no] [] ⟨_,rfl⟩ (by simp;lia) (by
  rintro c _ Y ⟨a,rfl⟩;have e1:=Z3c cov (show n<=1000 by lia) c base;have e2:=Z2z (Zh cov n c base) hm;generalize (Ò n).map (λk=>PV.int (cov k:Nat))=L at*;exact⟨[~~~many,.bw L,~~~base,~~~c],[~~~many,.bw L,~~~base,~~~c],[~~~many,.bw L,~~~base,~~~c],by simp,by simp,by simp[e1,e2],_,rfl⟩)
 rw[Ś] at c1;have il:=Z1I (λc=>bN (gG (Zh cov n c base) many)) hp0;cases hq:gG (Zh cov n (2 ^ n-1) base) many with
 |some k=>refine⟨.sh (.tup [.str "none",.int k]),?_,.inl ⟨k,rfl,rfl⟩⟩;rw[hq] at il;generalize (Ò (2 ^ n)).map (λc=>bN (gG (Zh cov n c base) many))=PA at*;generalize (Ò n).map (λk=>PV.int (cov k:Nat))=L at*;generalize (Ò n).map (λk=>PV.int (pr k))=PR at*;simp[yG,vX,Ï,bt,av,hl,so,Yi,c1,il,bN,jS]
 |none=>
  rw[hq] at il;have c2:=bA (g:=gT 2 (è (gN 0) (è (gN 1) ň))) (mt:=aN (È my (Â 1) (mC .non))) (me:=ê 0) (λ(c:Nat)=>PV.tup [.int c,bN (gG (Zh cov n c base) many)]) (λ(c:Nat)=>PV.int (c:Int)) (λc=>(gG (Zh cov n c base) many).isNone) (λY=>∃a b,Y=[a,b]) (Ò (2 ^ n)) [.no,.no] [] ⟨_,_,rfl⟩ (by simp;lia) (by
   rintro c _ Y ⟨a,b,rfl⟩;refine⟨[~~~c,.sh (bN (gG (Zh cov n c base) many))],[~~~c,.sh (bN (gG (Zh cov n c base) many))],by simp,?_,λ_=>⟨_,_,rfl⟩,λ_=>⟨[~~~c,.sh (bN (gG (Zh cov n c base) many))],by simp,_,_,rfl⟩⟩;cases gG (Zh cov n c base) many with
   |none=>simp[bN,jS]
   |some k=>simp[bN,jS])
  rw[Ś] at c2;have en:=XY (λc=>bN (gG (Zh cov n c base) many)) (2 ^ n);obtain⟨c,hcm,c3,Zbs⟩:=Z1n pr (show n<=1000 by lia) (cs:=(Ò (2 ^ n)).filter λc=>(gG (Zh cov n c base) many).isNone) (ud (jY.mpr ⟨ĸ.mpr (show 2 ^ n-1<2 ^ n by lia),by rw[hq];rfl⟩)) (List.Pairwise.filter _ List.pairwise_lt_range);obtain⟨hc1,Ee⟩:=jY.mp hcm;have c4:=Z0T (λk=>PV.int (pr k)) (show n<=1000 by lia) c;have e2:((Ò n).filter λk=>c.testBit k).map (λk=>PV.int (pr k))=(((Ò n).filter λk=>c.testBit k).map pr).map PV.int:=by simp
  rw[e2] at c4;refine⟨.ot [.str "choice",.int c,.int (Zd pr n c)] ((Ò (2 ^ n)).map λc=>bN (gG (Zh cov n c base) many)),?_,.inr ⟨c,ĸ.mp hc1,Bw.mp Ee,λc' h1 h2=>Zbs c' (jY.mpr ⟨ĸ.mpr h1,by rw[h2];rfl⟩),rfl⟩⟩;unfold Zd;generalize ((Ò n).filter λk=>c.testBit k).map pr=R at*;generalize ((Ò (2 ^ n)).filter λc=>(gG (Zh cov n c base) many).isNone).map (λ(c:Nat)=>PV.int (c:Int))=CS at*;generalize (Ò (2 ^ n)).map (λ(c:Nat)=>PV.tup [.int c,bN (gG (Zh cov n c base) many)])=ES at*;generalize (Ò (2 ^ n)).map (λc=>bN (gG (Zh cov n c base) many))=PA at*;generalize (Ò n).map (λk=>PV.int (cov k:Nat))=L at*;generalize (Ò n).map (λk=>PV.int (pr k))=PR at*;simp[yG,vX,Ï,bt,av,hl,so,Yi,c1,il,bN,jS,en,c2,c3,c4]
def XZ{a b:String}(q:Bool)(h1:Ϝ (Ì a)=true)(h2:Ϝ (Ì b)=true)(h:decide (Ì a=Ì b)=q):Ş (.str (Ì a)) (.str (Ì b))=some (.bl q):=by rw[ϕ h1 h2,h]
def Z2B(p:Nat×Nat×Nat):Ą (.tup [.str "alike"]) (.tup [.int p.1,.int p.2.1,.int p.2.2])=some (.sh (.tup [.str "alike",.int p.1,.int p.2.1,.int p.2.2])):=by rfl
def Z4V:Ş (.str "none") (.str "none")=some (.bl true):=XZ true (by decide +kernel) (by decide +kernel) (by decide +kernel)
def Z4W:Ş (.str "choice") (.str "none")=some (.bl false):=XZ false (by decide +kernel) (by decide +kernel) (by decide +kernel)
def Z4y{w h:Nat}{T:List Th}{D:List Dy}(X_:w<=60/\h<=1000){ns:List Nat}(hn:∀k∈ns,k<w*h):tm [.sh (Z1 w h T D),.bw (ns.map nV)]=.ret (.sh .non):=by
 have yw:=XV w h T D;have yh:=y_h w h T D;have hm:Ĵ (w:Int) (h:Int)=true:=ϙ (by lia) (by lia);obtain⟨Y',e,s,rfl⟩:=jg (g:=gN 2) (mb:=h_) nV (λ(_:Unit) (_:Nat)=>()) (λ_ Y=>∃s,Y=[.sh (Z1 w h T D),.bw (ns.map nV),s]) ns (by
  rintro k hk b Y ⟨s,rfl⟩;have h1:(k:Int)<(w:Int)*(h:Int):=by
   have:=hn k hk;have:((k:Nat):Int)<((w*h:Nat):Int):=Int.ofNat_lt.mpr this
   rwa [jX] at this
  have h0:(0:Int)<=(k:Int):=oo _;generalize Z1 w h T D=Yv,ns.map nV=NS at*;exact⟨[.sh Yv,.bw NS,~~~k],[.sh Yv,.bw NS,~~~k],by simp[nV],by simp[h_,yw,yh,hm,h1],_,rfl⟩) () [.sh (Z1 w h T D),.bw (ns.map nV),.no] ⟨_,rfl⟩
 generalize Z1 w h T D=Yv,ns.map nV=NS at*;simp[tm,Am,Ï,e]
def ZI(w:Nat)(T:List Th)(D:List Dy)(ns:List Nat)(i:Nat):Nat:=Ze (Z0 D).length (Zu w T D (ns.getD i 0))
def oj(w:Nat)(T:List Th)(D:List Dy)(ns:List Nat)(c:Nat):Option Nat:=gG (Zh (ZI w T D ns) ns.length c 0) (Z0 D).length
def Z3P{m many i:Nat}(h:gG m many=some i):i<many:=by
 obtain⟨k,hk,e⟩:=uf h;by_cases q:m.testBit k=true
 ·rw[if_pos q] at e;cases e
 ·rw[if_neg q] at e;cases e;exact ĸ.mp hk
def OM(p:Nat×Nat×Nat):PV:=.tup [.str "alike",.int p.1,.int p.2.1,.int p.2.2]
def Z3g{w h:Nat}{T:List Th}(Qqq:Tq w h T){D:List Dy}(hl:D.length<=3)(hD:Wa D){ns:List Nat}(h5:ns.length<=8)(hn:∀k∈ns,k<w*h):∃v:RV,ia [.sh (Z1 w h T D),.bw (ns.map nV)]=.ret v/\
 ((∃k,oj w T D ns (2 ^ ns.length-1)=some k∧v=.sh (OM ((Z0 D).getD k (0,0,0))))∨
   ∃c,c<2 ^ ns.length/\oj w T D ns c=none/\(∀c',c'<2 ^ ns.length->oj w T D ns c'=none->Zd (λ_=>1) ns.length c<=Zd (λ_=>1) ns.length c'/\(Zd (λ_=>1) ns.length c'=Zd (λ_=>1) ns.length c->c<=c'))/\
    v=.ot [.str "choice",.int c,.int (Zd (λ_=>1) ns.length c)] ((Ò (2 ^ ns.length)).map λc=>bN (oj w T D ns c))):=by
 have e1:=Z4y (T:=T) (D:=D) ⟨Qqq.w1,Qqq.h1⟩ hn;have e2:=Z4v (w:=w) (h:=h) (T:=T) hl λd=>(hD d).1;have hlen:=Z0y D hl λd=>(hD d).1;have c1:=Ĕ (g:=gN 2) (mt:=Ě) (me:=á (ç yM (É 0 (É 2 (É 1 Þ))))) nV (λk=>PV.int (Ze (Z0 D).length (Zu w T D k):Nat)) (λY=>∃s,Y=[.sh (Z1 w h T D),.bw ((Z0 D).map Ϥ),s]) ns [.sh (Z1 w h T D),.bw ((Z0 D).map Ϥ),.no] [] ⟨_,rfl⟩ (by simp;lia) (by
  rintro k hk Y ⟨s,rfl⟩;have e:=Z4x Qqq hl hD (hn k hk) rfl;generalize Ze (Z0 D).length (Zu w T D k)=B,Z1 w h T D=Yv,(Z0 D).map Ϥ=PR at*;exact⟨[.sh Yv,.bw PR,~~~k],[.sh Yv,.bw PR,~~~k],[.sh Yv,.bw PR,~~~k],by simp[nV],by simp,by simp[e],_,rfl⟩)
 have c2:=Ĕ (g:=gN 0) (mt:=Ě) (me:=Ä 1) nV (λ_=>PV.int 1) (λY=>∃s,Y=[s]) ns [.no] [] ⟨_,rfl⟩ (by simp;lia) (by
  rintro k hk Y ⟨s,rfl⟩;exact⟨[~~~k],[~~~k],[~~~k],by simp[nV],by simp,by simp,_,rfl⟩)
 rw[Ś,ZV (λk=>PV.int (Ze (Z0 D).length (Zu w T D k):Nat)) 0 ns] at c1;rw[Ś,ZV (λ_=>PV.int 1) 0 ns] at c2;obtain⟨v,e3,h3⟩:=Z24 (λ_=>1) (ZI w T D ns) (n:=ns.length) (many:=(Z0 D).length) (by lia) (by lia) 0;have gJ:((Z0 D).map Ϥ).length=(Z0 D).length:=by simp
 unfold ZI at e3;rw[show((0:Nat):Int)=0 from rfl] at e3;rcases h3 with⟨k,h4,rfl⟩|⟨c,h4,h5',h6,rfl⟩
 ·have hk:=Z3P h4;have hx:((Z0 D).map Ϥ)[k]?=some (Ϥ ((Z0 D).getD k (0,0,0))):=by simp[hk]
  refine⟨_,?_,.inl ⟨k,h4,rfl⟩⟩;unfold Ϥ at hx;unfold OM;generalize (Z0 D).getD k (0,0,0)=p at*;generalize (Ò ns.length).map (λi=>PV.int (Ze (Z0 D).length (Zu w T D (ns.getD i 0)):Nat))=CV at*;generalize (Ò ns.length).map (λ_=>PV.int 1)=ON at*;have hx:((Z0 D).map Ϥ)[k]?=some (.tup [.int p.1,.int p.2.1,.int p.2.2]):=hx;generalize (Z0 D).map Ϥ=PR,(Z0 D).length=m,Z1 w h T D=Yv,ns.map nV=NS at*;simp[ia,wj,Ï,e1,e2,bt,av,c1,c2,gJ,qJ,e3,hx,Z4V,Z2B]
 ·refine⟨_,?_,.inr ⟨c,h4,h5',h6,rfl⟩⟩;unfold oj;generalize (Ò (2 ^ ns.length)).map (λc=>bN (gG (Zh (ZI w T D ns) ns.length c 0) (Z0 D).length))=PA at*;generalize (Ò ns.length).map (λi=>PV.int (Ze (Z0 D).length (Zu w T D (ns.getD i 0)):Nat))=CV at*;generalize (Ò ns.length).map (λ_=>PV.int 1)=ON at*;generalize (Z0 D).map Ϥ=PR,(Z0 D).length=m,Z1 w h T D=Yv,ns.map nV=NS at*;generalize Zd (λ_=>1) ns.length c=S at*;simp[ia,wj,Ï,e1,e2,bt,av,c1,c2,gJ,qJ,e3,Z4W]
def wd(k:Int):Str:=if k=0 then Ì "post" else if k=1 then Ì "fence" else if k=2 then Ì "sail" else if k=3 then Ì "cloth" else Ì "house"
def pB(x:Int):Prop:=-901000001<=x/\x<=901000001
def hB(h:Int):Prop:=1<=h/\h<=900
inductive Bs:Int->List Int->Prop
 |post {p q h:Int} (h1:pB p) (h2:pB q) (h3:hB h):Bs 0 [p,q,h]
 |fence {x y u v h:Int} (h1:pB x) (h2:pB y) (h3:pB u) (h4:pB v) (h5:hB h) (n:¬(x=u/\y=v)):Bs 1 [x,y,u,v,h]
 |sail {x y u v h:Int} (h1:pB x) (h2:pB y) (h3:pB u) (h4:pB v) (h5:hB h) (n1:x<u) (n2:y<v):Bs 2 [x,y,u,v,h]
 |cloth {a b c d e f g i j:Int} (h1:pB a) (h2:pB b) (h3:0<=c/\c<=900) (h4:pB d) (h5:pB e) (h6:0<=f/\f<=900) (h7:pB g) (h8:pB i) (h9:0<=j/\j<=900):Bs 3 [a,b,c,d,e,f,g,i,j]
 |house {x y u v h:Int} (h1:pB x) (h2:pB y) (h3:pB u) (h4:pB v) (h5:hB h) (n1:x<u) (n2:y<v):Bs 4 [x,y,u,v,h]
def Z55:Zj (wd 0)= "Post" := by decide +kernel
def Z56:Zj (wd 2)= "Sail" := by decide +kernel
def Z57:Zj (wd 4)= "House" := by decide +kernel
def gd0(xs:List Int):Zg (wd 0) xs=Zq xs:=by simp[Zg,wd]
def gd1(xs:List Int):Zg (wd 1) xs=Zm xs:=by simp[Zg,wd,d21]
def gd2(xs:List Int):Zg (wd 2) xs=Zi xs:=by simp[Zg,wd,d31,d32]
def gd3(xs:List Int):Zg (wd 3) xs=Zn xs:=by simp[Zg,wd,d41,d42,d43]
def gd4(xs:List Int):Zg (wd 4) xs=Zi xs:=by simp[Zg,wd,d51,d52,d53,d54]
def co0(p q h:Int):Zl (wd 0) [p,q,h]=ZJ (2*p-1) (2*q-1) (2*p+1) (2*q+1) h:=by unfold Zl;rw[Z55];rfl
def co2(x y u v h:Int):Zl (wd 2) [x,y,u,v,h]=Zz x y u v h:=by unfold Zl;rw[Z56];rfl
def co4(x y u v h:Int):Zl (wd 4) [x,y,u,v,h]=ZJ x y u v h:=by unfold Zl;rw[Z57];rfl
def Z0M{k:Int}{xs:List Int}(h:Bs k xs):Zg (wd k) xs=true:=by
 cases h with
 |post h1 h2 h3=>rw[gd0];simp[Zq,aO,y_];unfold pB hB at*;lia
 |fence h1 h2 h3 h4 h5 n=>rw[gd1];simp[Zm,Zr,aO,y_];unfold pB hB at*;omega
 |sail h1 h2 h3 h4 h5 n1 n2=>rw[gd2];simp[Zi,Zr,aO,y_];unfold pB hB at*;omega
 |cloth h1 h2 h3 h4 h5 h6 h7 h8 h9=>rw[gd3];simp[Zn,aO,zl];unfold pB at*;omega
 |house h1 h2 h3 h4 h5 n1 n2=>rw[gd4];simp[Zi,Zr,aO,y_];unfold pB hB at*;omega
def HB(X0 X1 Qqq0 Qqq1 a b g h P Q:Int):Prop:=∀l m n:Int,(∀x y z:Int,(x=X0\/x=X1)->(y=Qqq0\/y=Qqq1)->(z=g\/z=h)->l*(x+a*z)+m*(y+b*z)<=n)->l*P+m*Q<=n
def ml{k x y:Int}(hk:0<=k)(h:x<=y):k*x<=k*y:=jW h hk
def Wb{X0 X1 Qqq0 Qqq1 a b g h P Q:Int}(hX:X0<=X1)(hY:Qqq0<=Qqq1)(hg:g<=h)(H:HB X0 X1 Qqq0 Qqq1 a b g h P Q){k0 kh p q u v:Int}(p0:0<=k0)(p1:0<=kh)(p2:0<=p)(p3:0<=q)(p4:0<=u)(p5:0<=v)(e:kh-k0+a*(p-q)+b*(u-v)=0):0<=kh*h-k0*g+p*(P-X0)+q*(X1-P)+u*(Q-Qqq0)+v*(Qqq1-Q):=by
 have:=H (q-p) (v-u) (kh*h-k0*g-p*X0+q*X1-u*Qqq0+v*Qqq1) (by
  intro x y z hx hy hz;have e1:(q-p)*(x+a*z)+(v-u)*(y+b*z)=q*x-p*x+v*y-u*y-(a*(p-q)+b*(u-v))*z:=by grind
  have e2:a*(p-q)+b*(u-v)=k0-kh:=by lia
  rw[e1,e2];have e3:(k0-kh)*z=k0*z-kh*z:=by grind
  rw[e3];have a1:q*x<=q*X1:=ml p3 (by lia);have a2:p*X0<=p*x:=ml p2 (by lia);have a3:v*y<=v*Qqq1:=ml p5 (by lia);have a4:u*Qqq0<=u*y:=ml p4 (by lia);have a5:kh*z<=kh*h:=ml p1 (by lia);have a6:k0*g<=k0*z:=ml p0 (by lia);lia)
 have e1:(q-p)*P+(v-u)*Q=q*P-p*P+v*Q-u*Q:=by grind
 have e2:p*(P-X0)+q*(X1-P)=p*P-p*X0+q*X1-q*P:=by grind
 have e3:u*(Q-Qqq0)+v*(Qqq1-Q)=u*Q-u*Qqq0+v*Qqq1-v*Q:=by grind
 lia
def Z4X{X0 X1 Qqq0 Qqq1 a b g h P Q t D:Int}(hX:X0<=X1)(hY:Qqq0<=Qqq1)(hD:0<D)(t1:g*D<=t)(t2:t<=h*D)(c1:(P-X1)*D<=a*t)(c2:a*t<=(P-X0)*D)(c3:(Q-Qqq1)*D<=b*t)(c4:b*t<=(Q-Qqq0)*D):HB X0 X1 Qqq0 Qqq1 a b g h P Q:=by
 intro l m n hn;have key:∀x y:Int,(x=X0\/x=X1)->(y=Qqq0\/y=Qqq1)->l*(x*D+a*t)+m*(y*D+b*t)<=n*D:=by
  intro x y hx hy;have q0:=hn x y g hx hy (.inl rfl);have q1:=hn x y h hx hy (.inr rfl);have e:∀z,l*(x+a*z)+m*(y+b*z)=(l*x+m*y)+(l*a+m*b)*z:=λz=>by grind
  rw[e] at q0 q1;have e2:l*(x*D+a*t)+m*(y*D+b*t)=(l*x+m*y)*D+(l*a+m*b)*t:=by grind
  rw[e2];generalize l*x+m*y=A,l*a+m*b=B at*;by_cases hB:0<=B
  ·have r1:B*t<=B*(h*D):=ml hB t2;have r2:(A+B*h)*D<=n*D:=iA q1 (by lia);have r3:(A+B*h)*D=A*D+B*(h*D):=by grind
   lia
  ·have r1:(-B)*(g*D)<=(-B)*t:=ml (by lia) t1;have r2:(A+B*g)*D<=n*D:=iA q0 (by lia);have r3:(A+B*g)*D=A*D+B*(g*D):=by grind
   have r4:(-B)*(g*D)= -(B*(g*D)):=by grind
   have r5:(-B)*t= -(B*t):=by grind
   lia
 have px:∃x,(x=X0\/x=X1)/\l*(P*D)<=l*(x*D+a*t):=by
  have e1:(P-X1)*D=P*D-X1*D:=by grind
  have e2:(P-X0)*D=P*D-X0*D:=by grind
  by_cases hl:0<=l
  ·exact⟨X1,.inr rfl,ml hl (by lia)⟩
  ·refine⟨X0,.inl rfl,?_⟩;have:(-l)*(X0*D+a*t)<=(-l)*(P*D):=ml (by lia) (by lia);have e3:(-l)*(X0*D+a*t)= -(l*(X0*D+a*t)):=by grind
   have e4:(-l)*(P*D)= -(l*(P*D)):=by grind
   lia
 have py:∃y,(y=Qqq0\/y=Qqq1)/\m*(Q*D)<=m*(y*D+b*t):=by
  have e1:(Q-Qqq1)*D=Q*D-Qqq1*D:=by grind
  have e2:(Q-Qqq0)*D=Q*D-Qqq0*D:=by grind
  by_cases hl:0<=m
  ·exact⟨Qqq1,.inr rfl,ml hl (by lia)⟩
  ·refine⟨Qqq0,.inl rfl,?_⟩;have:(-m)*(Qqq0*D+b*t)<=(-m)*(Q*D):=ml (by lia) (by lia);have e3:(-m)*(Qqq0*D+b*t)= -(m*(Qqq0*D+b*t)):=by grind
   have e4:(-m)*(Q*D)= -(m*(Q*D)):=by grind
   lia
 obtain⟨x,hx,q1⟩:=px;obtain⟨y,hy,q2⟩:=py;have q3:=key x y hx hy;have e:(l*P+m*Q)*D=l*(P*D)+m*(Q*D):=by grind
 exact uc (by lia:(l*P+m*Q)*D<=n*D) hD
def rZ(lo hi:Hu.Pt)(a A1 A2:Int):Hu.Pt×Hu.Pt:=
 if a=0 then(if A1<=0/\0<=A2 then(lo,hi) else((1,1),(0,1)))
 else((if lo.1*(if a<0 then 0-a else a)<(if a<0 then 0-A2 else A1)*lo.2 then((if a<0 then 0-A2 else A1),(if a<0 then 0-a else a)) else lo),
      (if(if a<0 then 0-A1 else A2)*hi.2<hi.1*(if a<0 then 0-a else a) then((if a<0 then 0-A1 else A2),(if a<0 then 0-a else a)) else hi))
def ftl{n1 d1 n2 d2 t D:Int}(h1:0<d1)(h2:0<d2)(hD:0<D)(h:n1*d2<=n2*d1)(h':n2*D<=t*d2):n1*D<=t*d1:=by
 have q1:n1*d2*D<=n2*d1*D:=iA h (by lia);have q2:n2*D*d1<=t*d2*d1:=iA h' (by lia);have e1:n1*d2*D=n1*D*d2:=by grind
 have e2:n2*d1*D=n2*D*d1:=by grind
 have e3:t*d2*d1=t*d1*d2:=by grind
 exact uc (by lia:n1*D*d2<=t*d1*d2) h2
def fth{n1 d1 n2 d2 t D:Int}(h1:0<d1)(h2:0<d2)(hD:0<D)(h:n2*d1<=n1*d2)(h':t*d2<=n2*D):t*d1<=n1*D:=by
 have q1:n2*d1*D<=n1*d2*D:=iA h (by lia);have q2:t*d2*d1<=n2*D*d1:=iA h' (by lia);have e1:n1*d2*D=n1*D*d2:=by grind
 have e2:n2*d1*D=n2*D*d1:=by grind
 have e3:t*d2*d1=t*d1*d2:=by grind
 exact uc (by lia:t*d1*d2<=n1*D*d2) h2
def Z2C{lo hi:Hu.Pt}(l2:0<lo.2)(h2:0<hi.2)(a A1 A2:Int):0<(rZ lo hi a A1 A2).1.2/\0<(rZ lo hi a A1 A2).2.2/\∀t D:Int,0<D->(rZ lo hi a A1 A2).1.1*D<=t*(rZ lo hi a A1 A2).1.2->t*(rZ lo hi a A1 A2).2.2<=(rZ lo hi a A1 A2).2.1*D->lo.1*D<=t*lo.2/\t*hi.2<=hi.1*D/\A1*D<=a*t/\a*t<=A2*D:=by
 unfold rZ;by_cases ha:a=0
 ·rw[if_pos ha];by_cases hA:A1<=0/\0<=A2
  ·rw[if_pos hA];refine⟨l2,h2,λt D hD q1 q2=>⟨q1,q2,?_,?_⟩⟩
   ·have:A1*D<=0:=Int.mul_nonpos_of_nonpos_of_nonneg hA.1 (by lia);rw[ha];lia
   ·have:0<=A2*D:=Ň hA.2 (by lia);rw[ha];lia
  ·rw[if_neg hA];refine⟨by decide,by decide,λt D hD q1 q2=>?_⟩;dsimp only at q1 q2;lia
 ·rw[if_neg ha];obtain⟨d,hd⟩:∃d,(if a<0 then 0-a else a)=d:=⟨_,rfl⟩;obtain⟨o,ho⟩:∃o,(if a<0 then 0-A2 else A1)=o:=⟨_,rfl⟩;obtain⟨p,hp⟩:∃p,(if a<0 then 0-A1 else A2)=p:=⟨_,rfl⟩;rw[hd,ho,hp];have Ko:0<d:=by rw[<-hd];split<;>lia
  refine⟨by dsimp only;split<;>assumption,by dsimp only;split<;>assumption,λt D hD q1 q2=>?_⟩;have w1:lo.1*D<=t*lo.2/\o*D<=t*d:=by
   dsimp only at q1;split at q1
   ·rename_i h;exact⟨ftl l2 Ko hD (show lo.1*d<=o*lo.2 by lia) q1,q1⟩
   ·rename_i h;exact⟨q1,ftl Ko l2 hD (by lia) q1⟩
  have w2:t*hi.2<=hi.1*D/\t*d<=p*D:=by
   dsimp only at q2;split at q2
   ·rename_i h;exact⟨fth h2 Ko hD (show p*hi.2<=hi.1*d by lia) q2,q2⟩
   ·rename_i h;exact⟨q2,fth Ko h2 hD (by lia) q2⟩
  refine⟨w1.1,w2.1,?_⟩;have w1':=w1.2;have w2':=w2.2;rw[<-hd,<-ho] at w1';rw[<-hd,<-hp] at w2';by_cases hn:a<0
  ·rw[if_pos hn,if_pos hn] at w1' w2';have e1:t*(0-a)= -(a*t):=by grind
   have e2:(0-A2)*D= -(A2*D):=by grind
   have e3:(0-A1)*D= -(A1*D):=by grind
   lia
  ·rw[if_neg hn,if_neg hn] at w1' w2';have e1:t*a=a*t:=by grind
   lia
def SA(a b k0 kh p q u v:Int):Int:=kh-k0+a*(p-q)+b*(u-v)
def SB(X0 X1 Qqq0 Qqq1 g h P Q k0 kh p q u v:Int):Int:=kh*h-k0*g+p*(P-X0)+q*(X1-P)+u*(Q-Qqq0)+v*(Qqq1-Q)
def CL(X0 X1 Qqq0 Qqq1 a b g h P Q:Int)(f:Hu.Pt):Prop:=0<f.2/\∃k0 kh p q u v:Int,0<=k0/\0<=kh/\0<=p/\0<=q/\0<=u/\0<=v/\SA a b k0 kh p q u v= - f.2/\SB X0 X1 Qqq0 Qqq1 g h P Q k0 kh p q u v= - f.1
def CH(X0 X1 Qqq0 Qqq1 a b g h P Q:Int)(f:Hu.Pt):Prop:=0<f.2/\∃k0 kh p q u v:Int,0<=k0/\0<=kh/\0<=p/\0<=q/\0<=u/\0<=v/\SA a b k0 kh p q u v=f.2/\SB X0 X1 Qqq0 Qqq1 g h P Q k0 kh p q u v=f.1
def Z4Y{X0 X1 Qqq0 Qqq1 a b g h P Q:Int}(hX:X0<=X1)(hY:Qqq0<=Qqq1)(hg:g<=h)(H:HB X0 X1 Qqq0 Qqq1 a b g h P Q){lo hi:Hu.Pt}(c1:CL X0 X1 Qqq0 Qqq1 a b g h P Q lo)(c2:CH X0 X1 Qqq0 Qqq1 a b g h P Q hi):lo.1*hi.2<=hi.1*lo.2:=by
 obtain⟨d1,k0,kh,p,q,u,v,p0,p1,p2,p3,p4,p5,e1,e2⟩:=c1;obtain⟨d2,X2,X3,p',q',u',v',r0,r1,r2,r3,r4,r5,f1,f2⟩:=c2;have nn:∀{x y:Int},0<=x->0<=y->0<=hi.2*x+lo.2*y:=fun{x y} hx hy=>by have:=Ň (show 0<=hi.2 by lia) hx;have:=Ň (show 0<=lo.2 by lia) hy;lia
 have:=Wb hX hY hg H (nn p0 r0) (nn p1 r1) (nn p2 r2) (nn p3 r3) (nn p4 r4) (nn p5 r5) (by
  have e:(hi.2*kh+lo.2*X3)-(hi.2*k0+lo.2*X2)+a*((hi.2*p+lo.2*p')-(hi.2*q+lo.2*q'))+b*((hi.2*u+lo.2*u')-(hi.2*v+lo.2*v'))=hi.2*SA a b k0 kh p q u v+lo.2*SA a b X2 X3 p' q' u' v':=by unfold SA;grind
  rw[e,e1,f1];grind)
 have e:(hi.2*kh+lo.2*X3)*h-(hi.2*k0+lo.2*X2)*g+(hi.2*p+lo.2*p')*(P-X0)+(hi.2*q+lo.2*q')*(X1-P)+(hi.2*u+lo.2*u')*(Q-Qqq0)+(hi.2*v+lo.2*v')*(Qqq1-Q)=hi.2*SB X0 X1 Qqq0 Qqq1 g h P Q k0 kh p q u v+lo.2*SB X0 X1 Qqq0 Qqq1 g h P Q X2 X3 p' q' u' v':=by unfold SB;grind
 rw[e,e2,f2] at this;have e3:hi.2 * -lo.1= -(lo.1*hi.2):=by grind
 have e4:lo.2*hi.1=hi.1*lo.2:=by grind
 lia
def Z1o{X0 X1 Qqq0 Qqq1 a b g h P Q:Int}{lo hi:Hu.Pt}(c1:CL X0 X1 Qqq0 Qqq1 a b g h P Q lo)(c2:CH X0 X1 Qqq0 Qqq1 a b g h P Q hi){s A1 A2:Int}(z:s=0->A1<=0/\0<=A2)(k1:s≠0->CL X0 X1 Qqq0 Qqq1 a b g h P Q ((if s<0 then 0-A2 else A1),(if s<0 then 0-s else s)))(k2:s≠0->CH X0 X1 Qqq0 Qqq1 a b g h P Q ((if s<0 then 0-A1 else A2),(if s<0 then 0-s else s))):CL X0 X1 Qqq0 Qqq1 a b g h P Q (rZ lo hi s A1 A2).1/\CH X0 X1 Qqq0 Qqq1 a b g h P Q (rZ lo hi s A1 A2).2:=by
 unfold rZ;by_cases hs:s=0
 ·rw[if_pos hs,if_pos (z hs)];exact⟨c1,c2⟩
 ·rw[if_neg hs];have Ws:=k1 hs;have k2':=k2 hs;generalize (if s<0 then 0-s else s)=d,(if s<0 then 0-A2 else A1)=o,(if s<0 then 0-A1 else A2)=p at*;constructor
  ·dsimp only;split
   ·exact Ws
   ·exact c1
  ·dsimp only;split
   ·exact k2'
   ·exact c2
def ZW(X0 X1 Qqq0 Qqq1 a b g h P Q:Int):Bool:=
 let r1:=rZ (g,1) (h,1) a (P-X1) (P-X0)
 let r2:=rZ r1.1 r1.2 b (Q-Qqq1) (Q-Qqq0)
 decide (r2.1.1*r2.2.2<=r2.2.1*r2.1.2)
def Z0N{X0 X1 Qqq0 Qqq1 a b g h P Q:Int}(hX:X0<=X1)(hY:Qqq0<=Qqq1)(hg:g<=h):ZW X0 X1 Qqq0 Qqq1 a b g h P Q=true↔HB X0 X1 Qqq0 Qqq1 a b g h P Q:=by
 unfold ZW;constructor
 ·intro q;have q:=of_decide_eq_true q;obtain⟨d1,d2,i1⟩:=Z2C (lo:=(g,1)) (hi:=(h,1)) (by dsimp only;decide) (by dsimp only;decide) a (P-X1) (P-X0);obtain⟨d3,d4,i2⟩:=Z2C d1 d2 b (Q-Qqq1) (Q-Qqq0);generalize rZ (g,1) (h,1) a (P-X1) (P-X0)=r1 at*;generalize rZ r1.1 r1.2 b (Q-Qqq1) (Q-Qqq0)=r2 at*;obtain⟨j1,j2,j3,j4⟩:=i2 r2.1.1 r2.1.2 d3 (dg _) q;obtain⟨j5,j6,j7,j8⟩:=i1 r2.1.1 r2.1.2 d3 j1 j2;dsimp only at j5 j6;exact Z4X (t:=r2.1.1) (D:=r2.1.2) hX hY d3 (by lia) (by lia) j7 j8 j3 j4
 ·intro H;refine decide_eq_true ?_;have l0:CL X0 X1 Qqq0 Qqq1 a b g h P Q (g,1):=⟨by dsimp only;decide,1,0,0,0,0,0,by decide,by decide,by decide,by decide,by decide,by decide,by simp[SA]<;>lia,by simp[SB]<;>lia⟩;have h0:CH X0 X1 Qqq0 Qqq1 a b g h P Q (h,1):=⟨by dsimp only;decide,0,1,0,0,0,0,by decide,by decide,by decide,by decide,by decide,by decide,by simp[SA]<;>lia,by simp[SB]<;>lia⟩;obtain⟨l1,h1⟩:=Z1o l0 h0 (s:=a) (A1:=P-X1) (A2:=P-X0) (λz=>by
   have e1:=Wb hX hY hg H (k0:=0) (kh:=0) (p:=0) (q:=1) (u:=0) (v:=0) (by decide) (by decide) (by decide) (by decide) (by decide) (by decide) (by rw[z];simp);have e2:=Wb hX hY hg H (k0:=0) (kh:=0) (p:=1) (q:=0) (u:=0) (v:=0) (by decide) (by decide) (by decide) (by decide) (by decide) (by decide) (by rw[z];simp);lia) (λhs=>by
   by_cases hn:a<0
   ·rw[if_pos hn,if_pos hn];exact⟨by dsimp only;lia,0,0,1,0,0,0,by decide,by decide,by decide,by decide,by decide,by decide,by simp[SA]<;>lia,by simp[SB]<;>lia⟩
   ·rw[if_neg hn,if_neg hn];exact⟨by dsimp only;lia,0,0,0,1,0,0,by decide,by decide,by decide,by decide,by decide,by decide,by simp[SA]<;>lia,by simp[SB]<;>lia⟩) (λhs=>by
   by_cases hn:a<0
   ·rw[if_pos hn,if_pos hn];exact⟨by dsimp only;lia,0,0,0,1,0,0,by decide,by decide,by decide,by decide,by decide,by decide,by simp[SA]<;>lia,by simp[SB]<;>lia⟩
   ·rw[if_neg hn,if_neg hn];exact⟨by dsimp only;lia,0,0,1,0,0,0,by decide,by decide,by decide,by decide,by decide,by decide,by simp[SA]<;>lia,by simp[SB]<;>lia⟩)
  obtain⟨l2,h2⟩:=Z1o l1 h1 (s:=b) (A1:=Q-Qqq1) (A2:=Q-Qqq0) (λz=>by
   have e1:=Wb hX hY hg H (k0:=0) (kh:=0) (p:=0) (q:=0) (u:=0) (v:=1) (by decide) (by decide) (by decide) (by decide) (by decide) (by decide) (by rw[z];simp);have e2:=Wb hX hY hg H (k0:=0) (kh:=0) (p:=0) (q:=0) (u:=1) (v:=0) (by decide) (by decide) (by decide) (by decide) (by decide) (by decide) (by rw[z];simp);lia) (λhs=>by
   by_cases hn:b<0
   ·rw[if_pos hn,if_pos hn];exact⟨by dsimp only;lia,0,0,0,0,1,0,by decide,by decide,by decide,by decide,by decide,by decide,by simp[SA]<;>lia,by simp[SB]<;>lia⟩
   ·rw[if_neg hn,if_neg hn];exact⟨by dsimp only;lia,0,0,0,0,0,1,by decide,by decide,by decide,by decide,by decide,by decide,by simp[SA]<;>lia,by simp[SB]<;>lia⟩) (λhs=>by
   by_cases hn:b<0
   ·rw[if_pos hn,if_pos hn];exact⟨by dsimp only;lia,0,0,0,0,0,1,by decide,by decide,by decide,by decide,by decide,by decide,by simp[SA]<;>lia,by simp[SB]<;>lia⟩
   ·rw[if_neg hn,if_neg hn];exact⟨by dsimp only;lia,0,0,0,0,1,0,by decide,by decide,by decide,by decide,by decide,by decide,by simp[SA]<;>lia,by simp[SB]<;>lia⟩)
  exact Z4Y hX hY hg H l2 h2
def Bg(x:Int):Prop:=-10000000000000000<=x/\x<=10000000000000000
def Z0U{lo hi:Hu.Pt}(hl:Bg lo.1)(Es:Bg lo.2)(hh:Bg hi.1)(hh2:Bg hi.2){a c L M:Int}(ha: -1000000<=a/\a<=1000000)(hc:1<=c/\c<=1000000)(h1:Bg (c*L))(h2:Bg (c*M)):bB [.sh (pt lo),.sh (pt hi),~~~a,~~~c,~~~L,~~~M]=.ret (.sh (.tup [pt (rZ lo hi a (c*L) (c*M)).1,pt (rZ lo hi a (c*L) (c*M)).2])):=by
 obtain⟨l1,l2⟩:=lo;obtain⟨k1,k2⟩:=hi;unfold Bg at*;dsimp only at*;have m1:Ĵ c L=true:=ϙ (by lia) (by lia);have m2:Ĵ c M=true:=ϙ (by lia) (by lia);have mm:∀x y:Int,-10000000000000000<=x/\x<=10000000000000000->Ĵ x y=true:=λx y h=>ϙ (by lia) (by lia);generalize HX:c*L=A1 at*;generalize HY:c*M=A2 at*;have m3:∀y,Ĵ l1 y=true:=λy=>mm l1 y hl;have m4:∀y,Ĵ k1 y=true:=λy=>mm k1 y hh;have m5:∀y,Ĵ A1 y=true:=λy=>mm A1 y h1;have m6:∀y,Ĵ A2 y=true:=λy=>mm A2 y h2;have m7:∀y,Ĵ (0-A1) y=true:=λy=>mm _ y (by lia);have m8:∀y,Ĵ (0-A2) y=true:=λy=>mm _ y (by lia);unfold rZ;simp only[pt];by_cases z:a=0
 ·rw[if_pos z];subst z;by_cases q1:A1<=0
  ·by_cases q2:0<=A2
   ·rw[if_pos ⟨q1,q2⟩];simp[bB,cq,Ï,m1,m2,HX,HY,q1,q2]
   ·rw[if_neg (λw=>q2 w.2)];simp[bB,cq,Ï,m1,m2,HX,HY,q1,q2]
  ·rw[if_neg (λw=>q1 w.1)];simp[bB,cq,Ï,m1,m2,HX,HY,q1]
 ·rw[if_neg z];by_cases n:a<0
  ·rw[if_pos n,if_pos n,if_pos n];dsimp only;by_cases q1:l1*(0-a)<(0-A2)*l2
   ·by_cases q2:(0-A1)*k2<k1*(0-a)
    ·simp[-oz,bB,cq,Ï,m1,m2,HX,HY,z,n,q1,q2,m3,m4,m5,m6,m7,m8]
    ·simp[-oz,bB,cq,Ï,m1,m2,HX,HY,z,n,q1,q2,m3,m4,m5,m6,m7,m8]
   ·by_cases q2:(0-A1)*k2<k1*(0-a)
    ·simp[-oz,bB,cq,Ï,m1,m2,HX,HY,z,n,q1,q2,m3,m4,m5,m6,m7,m8]
    ·simp[-oz,bB,cq,Ï,m1,m2,HX,HY,z,n,q1,q2,m3,m4,m5,m6,m7,m8]
  ·rw[if_neg n,if_neg n,if_neg n];dsimp only;by_cases q1:l1*a<A1*l2
   ·by_cases q2:A2*k2<k1*a
    ·simp[bB,cq,Ï,m1,m2,HX,HY,z,n,q1,q2,m3,m4,m5,m6]
    ·simp[bB,cq,Ï,m1,m2,HX,HY,z,n,q1,q2,m3,m4,m5,m6]
   ·by_cases q2:A2*k2<k1*a
    ·simp[bB,cq,Ï,m1,m2,HX,HY,z,n,q1,q2,m3,m4,m5,m6]
    ·simp[bB,cq,Ï,m1,m2,HX,HY,z,n,q1,q2,m3,m4,m5,m6]
def Z2D{lo hi:Hu.Pt}(hl:Bg lo.1)(Es:Bg lo.2)(hh:Bg hi.1)(hh2:Bg hi.2){a A1 A2:Int}(ha: -1000000<=a/\a<=1000000)(h1:Bg A1)(h2:Bg A2):Bg (rZ lo hi a A1 A2).1.1/\Bg (rZ lo hi a A1 A2).1.2/\Bg (rZ lo hi a A1 A2).2.1/\Bg (rZ lo hi a A1 A2).2.2:=by
 unfold rZ;by_cases z:a=0
 ·rw[if_pos z];split
  ·exact⟨hl,Es,hh,hh2⟩
  ·unfold Bg;dsimp only;lia
 ·rw[if_neg z];have e1:Bg (if a<0 then 0-a else a):=by unfold Bg;split<;>lia
  have e2:Bg (if a<0 then 0-A2 else A1):=by unfold Bg at*;split<;>lia
  have e3:Bg (if a<0 then 0-A1 else A2):=by unfold Bg at*;split<;>lia
  generalize (if a<0 then 0-a else a)=d,(if a<0 then 0-A2 else A1)=o,(if a<0 then 0-A1 else A2)=p at*;dsimp only;refine⟨?_,?_,?_,?_⟩<;>split<;>assumption
def Z0V{a b c x y u v h:Int}{s:Hu.Pt}:Tk ((ZJ x y u v h).map (gE (a,b,c))) (gE (a,b,c) (wR s))↔HB (c*x) (c*u) (c*y) (c*v) a b 0 h (c*(2*s.1)) (c*(2*s.2)):=by
 unfold Tk HB;simp only[gE,wR,ZJ,Zz];constructor
 ·intro H l m n hn;have:=H l m n (by
   intro p hp;simp at hp;rcases hp with rfl|rfl|rfl|rfl|rfl|rfl|rfl|rfl
   ·exact hn (c*x) (c*y) 0 (.inl rfl) (.inl rfl) (.inl rfl)
   ·exact hn (c*u) (c*y) 0 (.inr rfl) (.inl rfl) (.inl rfl)
   ·exact hn (c*u) (c*v) 0 (.inr rfl) (.inr rfl) (.inl rfl)
   ·exact hn (c*x) (c*v) 0 (.inl rfl) (.inr rfl) (.inl rfl)
   ·exact hn (c*x) (c*y) h (.inl rfl) (.inl rfl) (.inr rfl)
   ·exact hn (c*u) (c*y) h (.inr rfl) (.inl rfl) (.inr rfl)
   ·exact hn (c*u) (c*v) h (.inr rfl) (.inr rfl) (.inr rfl)
   ·exact hn (c*x) (c*v) h (.inl rfl) (.inr rfl) (.inr rfl))
  simpa using this
 ·intro H l m n hn;have key:∀q∈[(x,y,0),(u,y,0),(u,v,0),(x,v,0)] ++ [(x,y,h),(u,y,h),(u,v,h),(x,v,h)],l*(gE (a,b,c) q).1+m*(gE (a,b,c) q).2<=n:=λq hq=>hn _ (aE.mpr ⟨q,hq,rfl⟩);have:=H l m n (by
   intro X Qqq z hx hy hz;rcases hx with rfl|rfl<;>rcases hy with rfl|rfl<;>rcases hz with rfl|rfl
   ·exact key (x,y,0) (by simp)
   ·exact key (x,y,_) (by simp)
   ·exact key (x,v,0) (by simp)
   ·exact key (x,v,_) (by simp)
   ·exact key (u,y,0) (by simp)
   ·exact key (u,y,_) (by simp)
   ·exact key (u,v,0) (by simp)
   ·exact key (u,v,_) (by simp))
  simpa using this
def Z3h{a b c x y u v h:Int}{s:Hu.Pt}:Tk ((Zz x y u v h).map (gE (a,b,c))) (gE (a,b,c) (wR s))↔HB (c*x) (c*u) (c*y) (c*v) a b h h (c*(2*s.1)) (c*(2*s.2)):=by
 unfold Tk HB;simp only[gE,wR,Zz];constructor
 ·intro H l m n hn;have:=H l m n (by
   intro p hp;simp at hp;rcases hp with rfl|rfl|rfl|rfl
   ·exact hn (c*x) (c*y) h (.inl rfl) (.inl rfl) (.inr rfl)
   ·exact hn (c*u) (c*y) h (.inr rfl) (.inl rfl) (.inr rfl)
   ·exact hn (c*u) (c*v) h (.inr rfl) (.inr rfl) (.inr rfl)
   ·exact hn (c*x) (c*v) h (.inl rfl) (.inr rfl) (.inr rfl))
  simpa using this
 ·intro H l m n hn;have key:∀q∈[(x,y,h),(u,y,h),(u,v,h),(x,v,h)],l*(gE (a,b,c) q).1+m*(gE (a,b,c) q).2<=n:=λq hq=>hn _ (aE.mpr ⟨q,hq,rfl⟩);have:=H l m n (by
   intro X Qqq z hx hy hz;have hz':z=h:=by lia
   subst hz';rcases hx with rfl|rfl<;>rcases hy with rfl|rfl
   ·exact key (x,y,_) (by simp)
   ·exact key (x,v,_) (by simp)
   ·exact key (u,y,_) (by simp)
   ·exact key (u,v,_) (by simp))
  simpa using this
def Bg.of{c L:Int}(hc:1<=c/\c<=1000000)(hL: -10000000000<=L/\L<=10000000000):Bg (c*L):=by have:=Qqj6 (show -1000000<=c by lia) hc.2 hL.1 hL.2;unfold Bg;lia
def Z1L{a b c:Int}{s:Hu.Pt}(ha: -1000000<=a/\a<=1000000)(hb: -1000000<=b/\b<=1000000)(hc:1<=c/\c<=1000000)(hs: -1000<=s.1/\s.1<=1000/\ -1000<=s.2/\s.2<=1000){x y u v g h:Int}(hx: -2000000000<=x/\x<=2000000000)(hy: -2000000000<=y/\y<=2000000000)(hu: -2000000000<=u/\u<=2000000000)(hv: -2000000000<=v/\v<=2000000000)(hg:0<=g/\g<=900)(hh:0<=h/\h<=900):∃r1 r2:Hu.Pt×Hu.Pt,bB [.sh (pt (g,1)),.sh (pt (h,1)),~~~a,~~~c,~~~(2*s.1-u),~~~(2*s.1-x)]=.ret (.sh (.tup [pt r1.1,pt r1.2]))/\bB [.sh (pt r1.1),.sh (pt r1.2),~~~b,~~~c,~~~(2*s.2-v),~~~(2*s.2-y)]=.ret (.sh (.tup [pt r2.1,pt r2.2]))/\Ĵ r2.1.1 r2.2.2=true/\Ĵ r2.2.1 r2.1.2=true/\decide (r2.1.1*r2.2.2<=r2.2.1*r2.1.2)=ZW (c*x) (c*u) (c*y) (c*v) a b g h (c*(2*s.1)) (c*(2*s.2)):=by
 have b1:Bg (c*(2*s.1-u)):=Bg.of hc (by lia);have b2:Bg (c*(2*s.1-x)):=Bg.of hc (by lia);have b3:Bg (c*(2*s.2-v)):=Bg.of hc (by lia);have b4:Bg (c*(2*s.2-y)):=Bg.of hc (by lia);have g1:Bg (g,(1:Int)).1:=by unfold Bg;dsimp only;lia
 have g2:Bg (g,(1:Int)).2:=by unfold Bg;dsimp only;lia
 have g3:Bg (h,(1:Int)).1:=by unfold Bg;dsimp only;lia
 have g4:Bg (h,(1:Int)).2:=by unfold Bg;dsimp only;lia
 have e1:=Z0U g1 g2 g3 g4 ha hc b1 b2;obtain⟨f1,f2,f3,f4⟩:=Z2D g1 g2 g3 g4 ha b1 b2;have e2:=Z0U f1 f2 f3 f4 hb hc b3 b4;obtain⟨k1,k2,k3,k4⟩:=Z2D f1 f2 f3 f4 hb b3 b4;refine⟨_,_,e1,e2,?_,?_,?_⟩
 ·unfold Bg at k1;exact ϙ (by lia) (by lia)
 ·unfold Bg at k3;exact ϙ (by lia) (by lia)
 ·unfold ZW;rw[oA,oA,oA,oA]
def Z0W{w:Str}(hw:w=Ì "house"){a b c:Int}{s:Hu.Pt}(ha: -1000000<=a/\a<=1000000)(hb: -1000000<=b/\b<=1000000)(hc:1<=c/\c<=1000000)(hs: -1000<=s.1/\s.1<=1000/\ -1000<=s.2/\s.2<=1000){x y u v h:Int}(hx: -2000000000<=x/\x<=2000000000)(hy: -2000000000<=y/\y<=2000000000)(hu: -2000000000<=u/\u<=2000000000)(hv: -2000000000<=v/\v<=2000000000)(hh:0<=h/\h<=900):pX [.sh (.str w),.sh (.lst [.int x,.int y,.int u,.int v,.int h]),.sh (pt s),.sh (c3 (a,b,c))]=.ret (.sh (.bl (ZW (c*x) (c*u) (c*y) (c*v) a b 0 h (c*(2*s.1)) (c*(2*s.2)))))/\jw [.sh (.str w),.sh (.lst [.int x,.int y,.int u,.int v,.int h]),.sh (pt s),.sh (c3 (a,b,c))]=.ret (.sh (.bl (ZW (c*x) (c*u) (c*y) (c*v) a b 0 h (c*(2*s.1)) (c*(2*s.2))))):=by
 subst hw;obtain⟨⟨⟨l1,l2⟩,⟨k1,k2⟩⟩,⟨⟨l3,l4⟩,⟨k3,k4⟩⟩,e1,e2,m1,m2,hd⟩:=Z1L (g:=0) ha hb hc hs hx hy hu hv (by lia) hh;rw[<-hd];clear hd;simp only[pt,c3] at*;constructor
 ·simp[pX,qQ,Ï,ϕ,s1,s2,s3,s4,s5,d51,d52,d53,d54,e1,e2,m1,m2]
 ·simp[jw,vU,Ï,ϕ,s1,s2,s3,s4,s5,d51,d52,d53,d54,e1,e2,m1,m2]
def Z3i{w:Str}(hw:w=Ì "sail"){a b c:Int}{s:Hu.Pt}(ha: -1000000<=a/\a<=1000000)(hb: -1000000<=b/\b<=1000000)(hc:1<=c/\c<=1000000)(hs: -1000<=s.1/\s.1<=1000/\ -1000<=s.2/\s.2<=1000){x y u v h:Int}(hx: -2000000000<=x/\x<=2000000000)(hy: -2000000000<=y/\y<=2000000000)(hu: -2000000000<=u/\u<=2000000000)(hv: -2000000000<=v/\v<=2000000000)(hh:0<=h/\h<=900):jw [.sh (.str w),.sh (.lst [.int x,.int y,.int u,.int v,.int h]),.sh (pt s),.sh (c3 (a,b,c))]=.ret (.sh (.bl (ZW (c*x) (c*u) (c*y) (c*v) a b h h (c*(2*s.1)) (c*(2*s.2))))):=by subst hw;obtain⟨⟨⟨l1,l2⟩,⟨k1,k2⟩⟩,⟨⟨l3,l4⟩,⟨k3,k4⟩⟩,e1,e2,m1,m2,hd⟩:=Z1L (g:=h) ha hb hc hs hx hy hu hv hh hh;rw[<-hd];clear hd;simp only[pt,c3] at*;simp[jw,vU,Ï,ϕ,s1,s2,s3,s4,s5,d31,d32,d34,d35,e1,e2,m1,m2]
def Z1p{a b:Bool}(h:a=true↔b=true):a=b:=by cases a<;>cases b<;>simp_all
def Z4z{k:Int}{xs:List Int}(hb:Bs k xs)(hk:k=0\/k=2\/k=4){s:Hu.Pt}(hs: -1000<=s.1/\s.1<=1000/\ -1000<=s.2/\s.2<=1000){r:P3}(hr:RB r)(h1:1<=r.2.2):jw [.sh (.str (wd k)),.sh (.lst (xs.map .int)),.sh (pt s),.sh (c3 r)]=.ret (.sh (.bl (Iv (wd k) xs s r))):=by
 obtain⟨a,b,c⟩:=r;obtain⟨r1,r2,r3,r4,r5,r6⟩:=hr;dsimp only at*;have hg:=Z0M hb;have mono:∀{x y:Int},x<=y->c*x<=c*y:=λh=>jW h (by lia);cases hb with
 |@post p q h k1 k2 k3=>
  unfold pB hB at*;have e:=(Z0W (w:=Ì "house") rfl (s:=s) ⟨r1,r2⟩ ⟨r3,r4⟩ ⟨h1,r6⟩ hs (x:=2*p-1) (y:=2*q-1) (u:=2*p+1) (v:=2*q+1) (h:=h) (by lia) (by lia) (by lia) (by lia) (by lia)).1;have hq:ZW (c*(2*p-1)) (c*(2*p+1)) (c*(2*q-1)) (c*(2*q+1)) a b 0 h (c*(2*s.1)) (c*(2*s.2))=Iv (wd 0) [p,q,h] s (a,b,c):=Z1p (by
   rw[Z0N (mono (by lia)) (mono (by lia)) (by lia),Z0K hg,co0];exact Z0V.symm)
  rw[hq] at e;generalize Iv (wd 0) [p,q,h] s (a,b,c)=B at*;obtain⟨s1,s2⟩:=s;simp only[pt,c3] at*;simp[jw,vU,Ï,wd,ϕ,T.s1,e]
 |@fence x y u v h k1 k2 k3 k4 k5 n=>lia
 |@sail x y u v h k1 k2 k3 k4 k5 n1 n2=>
  unfold pB hB at*;have e:=Z3i (w:=wd 2) rfl (s:=s) ⟨r1,r2⟩ ⟨r3,r4⟩ ⟨h1,r6⟩ hs (x:=x) (y:=y) (u:=u) (v:=v) (h:=h) (by lia) (by lia) (by lia) (by lia) (by lia);have hq:ZW (c*x) (c*u) (c*y) (c*v) a b h h (c*(2*s.1)) (c*(2*s.2))=Iv (wd 2) [x,y,u,v,h] s (a,b,c):=Z1p (by
   rw[Z0N (mono (by lia)) (mono (by lia)) (by lia),Z0K hg,co2];exact Z3h.symm)
  rw[hq] at e;exact e
 |@cloth a b c d e f g i j k1 k2 k3 k4 k5 k6 k7 k8 k9=>lia
 |@house x y u v h k1 k2 k3 k4 k5 n1 n2=>
  unfold pB hB at*;have e:=(Z0W (w:=wd 4) rfl (s:=s) ⟨r1,r2⟩ ⟨r3,r4⟩ ⟨h1,r6⟩ hs (x:=x) (y:=y) (u:=u) (v:=v) (h:=h) (by lia) (by lia) (by lia) (by lia) (by lia)).2;have hq:ZW (c*x) (c*u) (c*y) (c*v) a b 0 h (c*(2*s.1)) (c*(2*s.2))=Iv (wd 4) [x,y,u,v,h] s (a,b,c):=Z1p (by
   rw[Z0N (mono (by lia)) (mono (by lia)) (by lia),Z0K hg,co4];exact Z0V.symm)
  rw[hq] at e;exact e
def f_(D:List Dy):List PV:=D.map λd=>PV.lst (d.2.2.map dX)
def Z1M{D:List Dy}{d:Nat}(h:d<D.length):(f_ D)[d]?=some (.lst ((Ϸ D d).map dX)):=by rw[Qqj9 h];simp[f_,h]
def gH(w:Nat)(T:List Th)(D:List Dy)(k:Nat):PV:=.lst ((Z0 D).map λp=>PV.bl (ZH w T D k p))
def Z3j{m many:Nat}:gG m many=none↔∀j,j<many->m.testBit j=true:=by
 unfold gG;rw[ue];constructor
 ·intro h j hj;have:=h j (ĸ.mpr hj);by_cases hb:m.testBit j=true
  ·exact hb
  ·rw[if_neg hb] at this;cases this
 ·intro h j hj;rw[if_pos (h j (ĸ.mp hj))]
def Z2E(l:List Bool):zS [.lst (l.map .bl)]=some (.bl (l.any id)):=by show(ϵ (l.map .bl)).map (λbs=>PV.bl (bs.any id))=_;rw[ZT];rfl
def TF(w:Nat)(T:List Th)(D:List Dy)(ns:List Nat)(c i:Nat):Bool:=!(Ò ns.length).any λj=>c.testBit j && Zu w T D (ns.getD j 0) i
def Z4A(w:Nat)(T:List Th)(D:List Dy)(k:Nat){i:Nat}(hi:i<(Z0 D).length):((Z0 D).map λp=>PV.bl (ZH w T D k p))[i]?=some (.bl (Zu w T D k i)):=by simp[hi,Zu]
def Z1N(w:Nat)(T:List Th)(D:List Dy)(ns:List Nat)(c i:Nat)(hi:i<(Z0 D).length):(Zh (ZI w T D ns) ns.length c 0).testBit i=!TF w T D ns c i:=by rw[Z3d];unfold TF ZI;simp[Z0Q,hi]
def Z2(t:Th):PV:=.tup [.str t.1,.lst (t.2.map .int)]
def BT(t:Th):Prop:=∃kd:Int,(kd=0\/kd=2\/kd=4)/\t.1=wd kd/\Bs kd t.2
def Z2F{t:Th}(ht:BT t)(w:Nat){k:Nat}(hk:k<1000){r:P3}(hr:RB r)(h1:0<r.2.2):jw [.sh (.str t.1),.sh (.lst (t.2.map .int)),.sh (pt (aW w k)),.sh (c3 r)]=.ret (.sh (.bl (xg t (aW w k) r))):=by
 obtain⟨kd,h2,h3,h4⟩:=ht;have a1:=Nat.mod_le k w;have a2:=Nat.div_le_self k w;have hs: -1000<=(aW w k).1/\(aW w k).1<=1000/\ -1000<=(aW w k).2/\(aW w k).2<=1000:=by unfold aW;dsimp only;generalize k % w=x,k / w=y at*;lia
 have e:=Z4z h4 h2 hs hr (by lia);unfold xg;rw[h3];exact e
def Z3k{w:Nat}{T:List Th}(hT:∀t∈T,BT t)(hl:T.length<=1000){o:Option P3}(ho:sx o){k:Nat}(hk:k<1000):hZ [.bw (T.map Z2),.sh (pt (aW w k)),.sh (dX o)]=.ret (.sh (.bl (!wS w T o k))):=by
 cases o with
 |none=>generalize T.map Z2=TR,pt (aW w k)=Pv at*;simp[hZ,Ak,Ï,dX,jS,wS]
 |some r=>
  have ho:RB r/\0<r.2.2:=ho;have hn:jS (c3 r)=false:=by simp[c3,jS]
  have cc:=Ĕ (g:=gT 2 (è (gN 2) (è (gN 3) ň))) (mt:=Ě) (me:=á (ç jw (É 2 (É 3 (É 0 (É 1 Þ)))))) Z2 (λt=>PV.bl (xg t (aW w k) r)) (λY=>∃a b,Y=[.sh (pt (aW w k)),.sh (c3 r),a,b]) T [.sh (pt (aW w k)),.sh (c3 r),.no,.no] [] ⟨_,_,rfl⟩ (by simp;lia) (by
   rintro t ht Y ⟨a,b,rfl⟩;have e:=Z2F (hT t ht) w hk ho.1 ho.2;generalize pt (aW w k)=Pv,c3 r=R at*;generalize hb:xg t (aW w k) r=B at*;refine⟨[.sh Pv,.sh R,.sh (.str t.1),.sh (.lst (t.2.map .int))],[.sh Pv,.sh R,.sh (.str t.1),.sh (.lst (t.2.map .int))],[.sh Pv,.sh R,.sh (.str t.1),.sh (.lst (t.2.map .int))],by simp[Z2],by simp,?_,_,_,rfl⟩;generalize t.2.map PV.int=X at*;simp[e])
  rw[Ś] at cc;have ea:=Z2E (T.map λt=>xg t (aW w k) r);rw[ag,List.any_map] at ea;have ea:zS [.lst (T.map λt=>PV.bl (xg t (aW w k) r))]=some (.bl (wS w T (some r) k)):=ea;show hZ [_,_,.sh (c3 r)]=_;generalize wS w T (some r) k=B at*;generalize T.map (λt=>PV.bl (xg t (aW w k) r))=Q at*;generalize T.map Z2=TR,pt (aW w k)=Pv,c3 r=R at*;simp[hZ,Ak,Ï,hn,bt,av,cc,ea]
theorem Z1q{D:List Dy}{d:Nat}(hd:d<D.length)(hm:(Ϸ D d).length<=5):∀(ts:List Nat) (ď:List PV) (s3:ϒ),(∀t∈ts,t<=1000)->ď.length+ts.length*100<=1000000->∃tX,Ĩ (gN 3) qO (ts.map λ(t:Nat)=>PV.int (t:Int)) [.bw (f_ D),.ow ď,~~~d,s3]=.ok .nx [.bw (f_ D),.ow (ď++(ts.flatMap (ZA d (Ϸ D d).length)).map Ϥ),~~~d,tX]
 | [],ď,s3,_,_=>⟨s3,by simp[Ĩ]⟩
 |t::ts,ď,s3,ht,ha=>by
  have hl:=Z0w d (Ϸ D d).length t;have Yh:ď.length+ts.length*100+100<=1000000:=by simp at ha;lia
  have c1:=Z0S d (Ϸ D d).length t (by lia) .no;have r1:=Z4u t (Ϸ D d).length (ht t ĭ) (by lia);have hx:=Z1M hd;have hlen:((Ϸ D d).map dX).length=(Ϸ D d).length:=by simp
  obtain⟨s8',e⟩:=Z1q hd hm ts (ď++(ZA d (Ϸ D d).length t).map Ϥ) (~~~t) (λx hx=>ht x (Ă _ hx)) (by simp;lia);have hz:ď.length+((ZA d (Ϸ D d).length t).map Ϥ).length<=16777216:=by simp;lia
  refine⟨s8',?_⟩;rw[ff,š,<-bO];have eb:qO [.bw (f_ D),.ow ď,~~~d,~~~t]=.ok .nx [.bw (f_ D),.ow (ď++(ZA d (Ϸ D d).length t).map Ϥ),~~~d,~~~t]:=by generalize (ZA d (Ϸ D d).length t).map Ϥ=Q at*;generalize (Ò ((Ϸ D d).length-(t+1))).map (λ(i:Nat)=>PV.int ((t+1+i:Nat):Int))=UU at*;generalize (Ϸ D d).map dX=OV,(Ϸ D d).length=m,f_ D=DV at*;simp[qO,hx,hlen,r1,bt,av,c1,hz]
  rw[ý,Ĩ];have g1:gN 3 (.int (t:Int)) [.bw (f_ D),.ow ď,~~~d,s3]=some [.bw (f_ D),.ow ď,~~~d,~~~t]:=by simp
  rw[g1];dsimp only;rw[eb];exact e
theorem Z1r{D:List Dy}(ho:∀d,(Ϸ D d).length<=5):∀(ds:List Nat) (ď:List PV) (s2 s3:ϒ),(∀d∈ds,d<D.length)->ď.length+ds.length*25<=100000->∃Bb tX,Ĩ (gN 2) qP (ds.map λ(d:Nat)=>PV.int (d:Int)) [.bw (f_ D),.ow ď,s2,s3]=.ok .nx [.bw (f_ D),.ow (ď++(ds.flatMap (Zw D)).map Ϥ),Bb,tX]
 | [],ď,s2,s3,_,_=>⟨s2,s3,by simp[Ĩ]⟩
 |d::ds,ď,s2,s3,hd,ha=>by
  have Eg:=hd d ĭ;have hl:=Z0h D d (ho d);have Yh:ď.length+ds.length*25+25<=100000:=by simp at ha;lia
  have hx:=Z1M Eg;have hlen:((Ϸ D d).map dX).length=(Ϸ D d).length:=by simp
  obtain⟨x,ex⟩:=Z1q Eg (ho d) (Ò (Ϸ D d).length) ď s3 (by intro t ht;have:=ĸ.mp ht;have:=ho d;lia) (by have:=ho d;simp;lia);have ex:Ĩ (gN 3) qO ((Ò (Ϸ D d).length).map λ(t:Nat)=>PV.int (t:Int)) [.bw (f_ D),.ow ď,~~~d,s3]=.ok .nx [.bw (f_ D),.ow (ď++(Zw D d).map Ϥ),~~~d,x]:=ex;obtain⟨zO,s8',e⟩:=Z1r ho ds (ď++(Zw D d).map Ϥ) (~~~d) x (λy hy=>hd y (Ă _ hy)) (by simp;lia);have rr:=Zt (n:=(Ϸ D d).length) (by have:=ho d;lia);refine⟨zO,s8',?_⟩;rw[ff,š,<-bO];have eb:qP [.bw (f_ D),.ow ď,~~~d,s3]=.ok .nx [.bw (f_ D),.ow (ď++(Zw D d).map Ϥ),~~~d,x]:=by generalize (Zw D d).map Ϥ=Q,(Ϸ D d).map dX=OS,(Ϸ D d).length=m,f_ D=DV at*;simp[qP,hx,hlen,rr,ex]
  rw[ý,Ĩ];have g1:gN 2 (.int (d:Int)) [.bw (f_ D),.ow ď,s2,s3]=some [.bw (f_ D),.ow ď,~~~d,s3]:=by simp
  rw[g1];dsimp only;rw[eb];exact e
def Z2G{D:List Dy}(hl:D.length<=3)(ho:∀d,(Ϸ D d).length<=5):CW [.bw (f_ D)]=.ret (.ow ((Z0 D).map Ϥ)):=by
 obtain⟨a,b,e⟩:=Z1r ho (Ò D.length) [] .no .no (λd hd=>ĸ.mp hd) (by simp;lia);have rr:=Zt (n:=D.length) (by lia);have Eg:(f_ D).length=D.length:=by simp[f_]
 rw[Ś] at e;have e:Ĩ (gN 2) qP ((Ò D.length).map λ(d:Nat)=>PV.int (d:Int)) [.bw (f_ D),.ow [],.no,.no]=.ok .nx [.bw (f_ D),.ow ((Z0 D).map Ϥ),a,b]:=e;generalize (Z0 D).map Ϥ=Q,f_ D=DV at*;simp[CW,Gz,Ï,Eg,rr,e]
def Z2H(w:Nat)(T:List Th)(D:List Dy){ns:List Nat}(h5:ns.length<=8)(c:Nat){i:Nat}(hi:i<(Z0 D).length):Ķ (gN 3) Ě (ci (È Ş (È ć (È gf (Â 2) (Â 3)) (Ä 2)) (Ä 1)) (È ã (È ã (Â 1) (Â 3)) (Â 0))) ((Ò ns.length).map λ(j:Nat)=>PV.int (j:Int)) [~~~i,.bw (ns.map (gH w T D)),~~~c,.no] []=some ((Ò ns.length).map λj=>PV.bl (c.testBit j && Zu w T D (ns.getD j 0) i)):=by
 have cc:=Ĕ (g:=gN 3) (mt:=Ě) (me:=ci (È Ş (È ć (È gf (Â 2) (Â 3)) (Ä 2)) (Ä 1)) (È ã (È ã (Â 1) (Â 3)) (Â 0))) (λ(j:Nat)=>PV.int (j:Int)) (λj=>PV.bl (c.testBit j && Zu w T D (ns.getD j 0) i)) (λY=>∃s,Y=[~~~i,.bw (ns.map (gH w T D)),~~~c,s]) (Ò ns.length) [~~~i,.bw (ns.map (gH w T D)),~~~c,.no] [] ⟨_,rfl⟩ (by simp;lia) (by
  rintro j hj Y ⟨s,rfl⟩;have hj:=ĸ.mp hj;have q1:(ns.map (gH w T D))[j]?=some (.lst ((Z0 D).map λp=>PV.bl (ZH w T D (ns.getD j 0) p))):=by simp[hj,gH]
  have q2:=Z4A w T D (ns.getD j 0) hi;have hb:=ZZ c j;have so:qr (c:Int) (j:Int)=true:=ZN c j;generalize (Z0 D).map (λp=>PV.bl (ZH w T D (ns.getD j 0) p))=R at*;generalize Zu w T D (ns.getD j 0) i=x,ns.map (gH w T D)=A at*;refine⟨[~~~i,.bw A,~~~c,~~~j],[~~~i,.bw A,~~~c,~~~j],[~~~i,.bw A,~~~c,~~~j],by simp,by simp,?_,_,rfl⟩;cases hc:c.testBit j with
  |true=>rw[hc] at hb;simp at hb;simp[so,hb,q1,q2]
  |false=>rw[hc] at hb;simp at hb;simp[so,hb,q1,q2])
 simpa using cc
def Z3l(w:Nat)(T:List Th)(D:List Dy)(ns:List Nat)(c i:Nat):zS [.lst ((Ò ns.length).map λj=>PV.bl (c.testBit j && Zu w T D (ns.getD j 0) i))]=some (.bl (!TF w T D ns c i)):=by have ea:=Z2E ((Ò ns.length).map λj=>c.testBit j && Zu w T D (ns.getD j 0) i);rw[ag,List.any_map] at ea;unfold TF;rw[Bool.not_not];exact ea
theorem Z3m(m many:Nat):gG m (many+1)=match gG m many with
 |some i=>some i
 |none=>if m.testBit many then none else some many:=by
 unfold gG;rw[kg,List.findSome?_append];cases(Ò many).findSome? (λk=>if m.testBit k then none else some k) with
 |some i=>rfl
 |none=>simp
def Tr(m many:Nat)(b:Option Nat):Option Nat:=match gG m many with
 |some i=>some i
 |none=>b
theorem Z0X(w:Nat)(T:List Th)(D:List Dy){ns:List Nat}(h5:ns.length<=8)(c:Nat)(s1 s2 s3 s7:ϒ):∀(K:Nat) (b:Option Nat) (s6:ϒ),K<=(Z0 D).length->∃zO,Ĩ (gN 6) mM ((ϊ 0 K).map λi=>PV.int ((K-1-i:Nat):Int)) [.bw (ns.map (gH w T D)),s1,s2,s3,~~~c,.sh (bN b),s6,s7]=.ok .nx [.bw (ns.map (gH w T D)),s1,s2,s3,~~~c,.sh (bN (Tr (Zh (ZI w T D ns) ns.length c 0) K b)),zO,s7]
 |0,b,s6,_=>⟨s6,rfl⟩
 |K+1,b,s6,hK=>by
  have cc:=Z2H w T D h5 c (i:=K) (by lia);have ca:=Z3l w T D ns c K;have hm:=Z1N w T D ns c K (by lia);have rr:=Zt (n:=ns.length) (by lia);have hl:(ns.map (gH w T D)).length=ns.length:=by simp
  obtain⟨b',A8,eb⟩:∃b',b'=(if(Zh (ZI w T D ns) ns.length c 0).testBit K then b else some K)/\mM [.bw (ns.map (gH w T D)),s1,s2,s3,~~~c,.sh (bN b),~~~(K:Nat),s7]=.ok .nx [.bw (ns.map (gH w T D)),s1,s2,s3,~~~c,.sh (bN b'),~~~(K:Nat),s7]:=by
   refine⟨_,rfl,?_⟩;rw[hm];generalize (Ò ns.length).map (λj=>PV.bl (c.testBit j && Zu w T D (ns.getD j 0) K))=Q at*;generalize ns.map (gH w T D)=A,TF w T D ns c K=q at*;cases q with
   |true=>simp[mM,hl,rr,bt,av,cc,ca,bN]
   |false=>simp[mM,hl,rr,bt,av,cc,ca]
  obtain⟨zO,e⟩:=Z0X w T D h5 c s1 s2 s3 s7 K b' (~~~(K:Nat)) (by lia);refine⟨zO,?_⟩;rw[oQ,ý,Ĩ];have g1:gN 6 (PV.int ((K+1-1-0:Nat):Int)) [.bw (ns.map (gH w T D)),s1,s2,s3,~~~c,.sh (bN b),s6,s7]=some [.bw (ns.map (gH w T D)),s1,s2,s3,~~~c,.sh (bN b),~~~(K:Nat),s7]:=rfl;rw[g1];dsimp only;rw[eb];have hR:(ϊ (0+1) K).map (λi=>PV.int ((K+1-1-i:Nat):Int))=(ϊ 0 K).map λi=>PV.int ((K-1-i:Nat):Int):=by rw[show ϊ (0+1) K=(ϊ 0 K).map (·+ 1) from uk (by simp) (by intro i h1 h2;simp;lia),ag];refine uj λi hi=>?_;have:=List.mem_range'_1.mp hi;show PV.int ((K+1-1-(i+1):Nat):Int)=_;congr 2;lia
  rw[hR];refine e.trans ?_;have:Tr (Zh (ZI w T D ns) ns.length c 0) (K+1) b=Tr (Zh (ZI w T D ns) ns.length c 0) K b':=by
   unfold Tr;rw[Z3m,A8];cases gG (Zh (ZI w T D ns) ns.length c 0) K with
   |some i=>rfl
   |none=>dsimp only;cases(Zh (ZI w T D ns) ns.length c 0).testBit K<;>rfl
  rw[this]
def Z58(m:Nat)(hm:m<=1000):yr [.int ((m:Int)-1),.int (-1),.int (-1)]=some ((ϊ 0 m).map λi=>PV.int ((m-1-i:Nat):Int)):=by
 have s1:ay ((m:Int)-1)=true:=by unfold ay;simp;lia
 have s2:ay (-1)=true:=by decide
 unfold yr;simp only[s1,s2,and_self,if_true];congr 1;unfold bJ;have:((m:Int)-1 - -1).toNat=m:=by lia
 rw[this,ki];refine uj λi hi=>?_;have:=List.mem_range'_1.mp hi;congr 1;lia
def Do(n c:Nat):Int:=((Ò n).map λj=>if c.testBit j then(1:Int) else 0).sum
def Z2I{n:Nat}(hn:n<=8)(c:Nat):Ķ (gN 1) Ě (È ć (È gf (Â 0) (Â 1)) (Ä 2)) ((Ò n).map λ(j:Nat)=>PV.int (j:Int)) [~~~c,.no] []=some (((Ò n).map λj=>if c.testBit j then(1:Int) else 0).map PV.int):=by
 have cc:=Ĕ (g:=gN 1) (mt:=Ě) (me:=È ć (È gf (Â 0) (Â 1)) (Ä 2)) (λ(j:Nat)=>PV.int (j:Int)) (λj=>PV.int (if c.testBit j then(1:Int) else 0)) (λY=>∃s,Y=[~~~c,s]) (Ò n) [~~~c,.no] [] ⟨_,rfl⟩ (by simp;lia) (by
  rintro j hj Y ⟨s,rfl⟩;have hb:=ZZ c j;have so:qr (c:Int) (j:Int)=true:=ZN c j;exact⟨[~~~c,~~~j],[~~~c,~~~j],[~~~c,~~~j],by simp,by simp,by simp[so,hb],_,rfl⟩)
 rw[cc];simp
def Z1s(n c:Nat):Do n c=Zd (λ_=>1) n c:=by
 unfold Do Zd;generalize Ò n=l
 induction l with
 |nil=>rfl
 |cons x l ih=>
  rw[ý,oP,ih];cases h:c.testBit x with
  |true=>rw[Bp h];simp
  |false=>rw[Bq (by simp[h])];simp
def Zo(n:Nat):Option Nat->PV
 |none=>.non
 |some c=>.tup [.int c,.int (Do n c)]
def Wc(n K:Nat)(p:Nat->Option Nat):Option Nat->Prop
 |none=>∀c,c<K->p c≠none
 |some c=>c<K/\p c=none/\∀c',c'<K->p c'=none->Do n c<=Do n c'/\(Do n c'=Do n c->c<=c')
def Z59(m many:Nat):Tr m many none=gG m many:=by unfold Tr;cases gG m many<;>rfl
def Z1D(w:Nat)(T:List Th)(D:List Dy){ns:List Nat}(h5:ns.length<=8)(hm:(Z0 D).length<=75)(K:Nat)(b:Option Nat)(hb:Wc ns.length K (oj w T D ns) b)(ď:List PV)(ha:ď.length<=1000)(s5 s6 s7:ϒ):∃b' Em zO s7',hV [.bw (ns.map (gH w T D)),.sh (.int (Z0 D).length),.ow ď,.sh (Zo ns.length b),~~~K,s5,s6,s7]=.ok .nx [.bw (ns.map (gH w T D)),.sh (.int (Z0 D).length),.ow (ď ++ [bN (oj w T D ns K)]),.sh (Zo ns.length b'),~~~K,Em,zO,s7']/\Wc ns.length (K+1) (oj w T D ns) b':=by
 obtain⟨zO,e⟩:=Z0X w T D h5 K (.sh (.int (Z0 D).length)) (.ow ď) (.sh (Zo ns.length b)) s7 (Z0 D).length none s6 (õ _);rw[Z59] at e;have hp:gG (Zh (ZI w T D ns) ns.length K 0) (Z0 D).length=oj w T D ns K:=rfl;rw[hp] at e;have rd:=Z58 (Z0 D).length (by lia);have rr:=Zt (n:=ns.length) (by lia);have hl:(ns.map (gH w T D)).length=ns.length:=by simp
 have cs:=Z2I (n:=ns.length) (by lia) K;have hz:ď.length<16777216:=by lia
 have e:Ĩ (gN 6) mM ((ϊ 0 (Z0 D).length).map λi=>PV.int (((Z0 D).length-1-i:Nat):Int)) [.bw (ns.map (gH w T D)),.sh (.int (Z0 D).length),.ow ď,.sh (Zo ns.length b),~~~K,.sh .non,s6,s7]=_:=e;have hs:(((Ò ns.length).map λj=>if K.testBit j then(1:Int) else 0)).sum=Do ns.length K:=rfl;generalize ((Ò ns.length).map λj=>if K.testBit j then(1:Int) else 0)=R at*;generalize (ϊ 0 (Z0 D).length).map (λi=>PV.int (((Z0 D).length-1-i:Nat):Int))=RD at*;cases hq:oj w T D ns K with
 |some i=>
  rw[hq] at e;refine⟨b,~~~i,zO,~~~(Do ns.length K),?_,?_⟩
  ·generalize ns.map (gH w T D)=A,Zo ns.length b=B,(Z0 D).length=m at*;simp[hV,rd,e,bN,hz,hl,rr,bt,av,cs,jS,hs]
  ·cases b with
   |none=>
    intro c hc;rcases kn.mp hc with h|rfl
    ·exact hb c h
    ·rw[hq];simp
   |some c=>
    obtain⟨h1,h2,h3⟩:=hb;refine⟨by lia,h2,λc' jN hn=>?_⟩;rcases kn.mp jN with h|rfl
    ·exact h3 c' h hn
    ·rw[hq] at hn;cases hn
 |none=>
  rw[hq] at e;cases b with
  |none=>
   refine⟨some K,.sh .non,zO,~~~(Do ns.length K),?_,by lia,hq,λc' jN hn=>?_⟩
   ·generalize ns.map (gH w T D)=A,(Z0 D).length=m at*;simp[Zo] at e;simp[hV,rd,e,bN,hz,hl,rr,bt,av,cs,jS,hs,Zo]
   ·rcases kn.mp jN with h|rfl
    ·exact absurd hn (hb c' h)
    ·exact⟨dg _,λ_=>õ _⟩
  |some c=>
   obtain⟨h1,h2,h3⟩:=hb;by_cases gA:Do ns.length K<Do ns.length c
   ·refine⟨some K,.sh .non,zO,~~~(Do ns.length K),?_,by lia,hq,λc' jN hn=>?_⟩
    ·generalize ns.map (gH w T D)=A,(Z0 D).length=m at*;simp[Zo] at e;simp[hV,rd,e,bN,hz,hl,rr,bt,av,cs,jS,hs,Zo,gA]
    ·rcases kn.mp jN with h|rfl
     ·have:=h3 c' h hn;exact⟨by lia,λhh=>by lia⟩
     ·exact⟨dg _,λ_=>õ _⟩
   ·refine⟨some c,.sh .non,zO,~~~(Do ns.length K),?_,by lia,h2,λc' jN hn=>?_⟩
    ·generalize ns.map (gH w T D)=A,(Z0 D).length=m at*;simp[Zo] at e;simp[hV,rd,e,bN,hz,hl,rr,bt,av,cs,jS,hs,Zo,gA]
    ·rcases kn.mp jN with h|rfl
     ·exact h3 c' h hn
     ·exact⟨by lia,λhh=>by lia⟩
theorem Z0t(w:Nat)(T:List Th)(D:List Dy){ns:List Nat}(h5:ns.length<=8)(hm:(Z0 D).length<=75):∀(n K:Nat) (b:Option Nat) (ď:List PV) (s4 s5 s6 s7:ϒ),ď.length+n<=1000->Wc ns.length K (oj w T D ns) b->∃b' oa Em zO s7',Ĩ (gN 4) hV ((ϊ K n).map λ(i:Nat)=>PV.int (i:Int)) [.bw (ns.map (gH w T D)),.sh (.int (Z0 D).length),.ow ď,.sh (Zo ns.length b),s4,s5,s6,s7]=.ok .nx [.bw (ns.map (gH w T D)),.sh (.int (Z0 D).length),.ow (ď++(ϊ K n).map λc=>bN (oj w T D ns c)),.sh (Zo ns.length b'),oa,Em,zO,s7']/\Wc ns.length (K+n) (oj w T D ns) b'
 |0,K,b,ď,s4,s5,s6,s7,_,hb=>⟨b,s4,s5,s6,s7,by simp[Ĩ],hb⟩
 |n+1,K,b,ď,s4,s5,s6,s7,hl,hb=>by obtain⟨b1,a5,a6,a7,e1,Wz⟩:=Z1D w T D h5 hm K b hb ď (by lia) s5 s6 s7;obtain⟨b2,c4,c5,c6,c7,e2,Wt⟩:=Z0t w T D h5 hm n (K+1) b1 (ď ++ [bN (oj w T D ns K)]) (~~~K) a5 a6 a7 (by simp;lia) Wz;refine⟨b2,c4,c5,c6,c7,?_,by rw[show K+(n+1)=K+1+n by lia];exact Wt⟩;rw[oQ,ý,ý,Ĩ];have g1:gN 4 (PV.int (K:Int)) [.bw (ns.map (gH w T D)),.sh (.int (Z0 D).length),.ow ď,.sh (Zo ns.length b),s4,s5,s6,s7]=some [.bw (ns.map (gH w T D)),.sh (.int (Z0 D).length),.ow ď,.sh (Zo ns.length b),~~~K,s5,s6,s7]:=rfl;rw[g1];dsimp only;rw[e1];rw[bO] at e2;exact e2
def Eo(w:Nat)(T:List Th)(D:List Dy)(ns:List Nat):List PV:=(Ò (2 ^ ns.length)).map λc=>bN (oj w T D ns c)
def Z3n(w:Nat)(T:List Th)(D:List Dy){ns:List Nat}(h5:ns.length<=8)(hm:(Z0 D).length<=75):∃b,CY [.bw (ns.map (gH w T D)),.sh (.int (Z0 D).length)]=.ret (.sh (.tup [Zo ns.length b,.lst (Eo w T D ns)]))/\Wc ns.length (2 ^ ns.length) (oj w T D ns) b:=by
 have hp:2 ^ ns.length<=256:=by have:=km (show 0<2 by lia) h5;simpa using this
 obtain⟨b,s4,s5,s6,s7,e,hb⟩:=Z0t w T D h5 hm (2 ^ ns.length) 0 none [] .no .no .no .no (by simpa using Ĺ hp (by decide)) (λc hc=>by lia);refine⟨b,?_,by rwa [oU] at hb⟩;have so:lg 1 (ns.length:Int)=true:=by simp[lg];lia
 have rr:=Zt (n:=2 ^ ns.length) (by lia);have Yi:ϑ [.int (2 ^ ns.length)]=some ((ϊ 0 (2 ^ ns.length)).map λ(i:Nat)=>PV.int (i:Int)):=by
  have:((2 ^ ns.length:Nat):Int)=2 ^ ns.length:=by simp
  rw[this,ki] at rr;exact rr
 have hl:(ns.map (gH w T D)).length=ns.length:=by simp
 unfold Eo;rw[ki];rw[Ś] at e;have e:Ĩ (gN 4) hV ((ϊ 0 (2 ^ ns.length)).map λ(i:Nat)=>PV.int (i:Int)) [.bw (ns.map (gH w T D)),.sh (.int (Z0 D).length),.ow [],.sh .non,.no,.no,.no,.no]=_:=e;generalize (ϊ 0 (2 ^ ns.length)).map (λ(i:Nat)=>PV.int (i:Int))=RG at*;generalize (ϊ 0 (2 ^ ns.length)).map (λc=>bN (oj w T D ns c))=PA at*;generalize Zo ns.length b=B,ns.map (gH w T D)=A,(Z0 D).length=m at*;simp[CY,GA,Ï,hl,so,Yi,e]
def Ss:zE 2 0=some 0:=rfl
def Ts:zE 2 1=some 1:=rfl
def Im(w:Nat)(T:List Th)(k:Nat)(os:List (Option P3)):PV:=.lst (os.map λo=>PV.bl (!wS w T o k))
def Z49{w:Nat}{T:List Th}(hT:∀t∈T,BT t)(hl:T.length<=1000){os:List (Option P3)}(ho:os.length<=5/\∀o∈os,sx o){k:Nat}(hk:k<1000):Ķ (gN 2) Ě (á (ç hZ (É 0 (É 1 (É 2 Þ))))) (os.map dX) [.bw (T.map Z2),.sh (pt (aW w k)),.no] []=some (os.map λo=>PV.bl (!wS w T o k)):=by
 have c:=Ĕ (g:=gN 2) (mt:=Ě) (me:=á (ç hZ (É 0 (É 1 (É 2 Þ))))) dX (λo=>PV.bl (!wS w T o k)) (λY=>∃s,Y=[.bw (T.map Z2),.sh (pt (aW w k)),s]) os [.bw (T.map Z2),.sh (pt (aW w k)),.no] [] ⟨_,rfl⟩ (by simp;lia) (by
  rintro o hm Y ⟨s,rfl⟩;have e:=Z3k (w:=w) hT hl (ho.2 o hm) hk;generalize dX o=O,T.map Z2=TR,pt (aW w k)=Pv,wS w T o k=b at*;exact⟨[.bw TR,.sh Pv,.sh O],[.bw TR,.sh Pv,.sh O],[.bw TR,.sh Pv,.sh O],by simp,by simp,by simp[e],_,rfl⟩)
 simpa using c
def Z4a{w:Nat}{T:List Th}(hT:∀t∈T,BT t)(hl:T.length<=1000){D:List Dy}(Ep:D.length<=3)(hD:∀d∈D,d.2.2.length<=5/\∀o∈d.2.2,sx o){k:Nat}(hk:k<1000):Ķ (gN 2) Ě (á (ĳ [0,1] 1 (ń 2) (gN 2) Ě (á (ç hZ (É 0 (É 1 (É 2 Þ))))))) (f_ D) [.bw (T.map Z2),.sh (pt (aW w k)),.no] []=some (D.map λd=>Im w T k d.2.2):=by
 have c:=Ĕ (g:=gN 2) (mt:=Ě) (me:=á (ĳ [0,1] 1 (ń 2) (gN 2) Ě (á (ç hZ (É 0 (É 1 (É 2 Þ))))))) (λd:Dy=>PV.lst (d.2.2.map dX)) (λd=>Im w T k d.2.2) (λY=>∃s,Y=[.bw (T.map Z2),.sh (pt (aW w k)),s]) D [.bw (T.map Z2),.sh (pt (aW w k)),.no] [] ⟨_,rfl⟩ (by simp;lia) (by
  rintro d hm Y ⟨s,rfl⟩;have e:=Z49 (w:=w) hT hl (hD d hm) hk;unfold Im;generalize d.2.2.map (λo=>PV.bl (!wS w T o k))=Q at*;generalize d.2.2.map dX=OS,T.map Z2=TR,pt (aW w k)=Pv at*;exact⟨[.bw TR,.sh Pv,.sh (.lst OS)],[.bw TR,.sh Pv,.sh (.lst OS)],[.bw TR,.sh Pv,.sh (.lst OS)],by simp,by simp,by simp[bt,av,e],_,rfl⟩)
 simpa[f_] using c
def Z4Z(a b:Bool):bv (.bl (!a)) (.bl (!b))=some (.bl (a != b)):=by cases a<;>cases b<;>rfl
def Z4B{w:Nat}{T:List Th}{D:List Dy}(hl:(Z0 D).length<=75)(k:Nat):Ķ (gT 3 (è (gN 1) (è (gN 2) (è (gN 3) ň)))) Ě (È bv (È ã (È ã (Â 0) (Â 1)) (Â 2)) (È ã (È ã (Â 0) (Â 1)) (Â 3))) ((Z0 D).map Ϥ) [.bw (D.map λd=>Im w T k d.2.2),.no,.no,.no] []=some ((Z0 D).map λp=>PV.bl (ZH w T D k p)):=by
 have c:=Ĕ (g:=gT 3 (è (gN 1) (è (gN 2) (è (gN 3) ň)))) (mt:=Ě) (me:=È bv (È ã (È ã (Â 0) (Â 1)) (Â 2)) (È ã (È ã (Â 0) (Â 1)) (Â 3))) Ϥ (λp=>PV.bl (ZH w T D k p)) (λY=>∃a b c,Y=[.bw (D.map λd=>Im w T k d.2.2),a,b,c]) (Z0 D) [.bw (D.map λd=>Im w T k d.2.2),.no,.no,.no] [] ⟨_,_,_,rfl⟩ (by simp;lia) (by
  rintro p hp Y ⟨a,b,c,rfl⟩;obtain⟨h1,h2,h3⟩:=Z1J hp;have q1:(D.map λd=>Im w T k d.2.2)[p.1]?=some (.lst ((Ϸ D p.1).map λo=>PV.bl (!wS w T o k))):=by rw[Qqj9 h1];simp[h1,Im]
  have q2:((Ϸ D p.1).map λo=>PV.bl (!wS w T o k))[p.2.1]?=some (.bl (!rX w T D k p.1 p.2.1)):=by simp[h2,rX]
  have q3:((Ϸ D p.1).map λo=>PV.bl (!wS w T o k))[p.2.2]?=some (.bl (!rX w T D k p.1 p.2.2)):=by simp[h3,rX]
  have q4:=Z4Z (rX w T D k p.1 p.2.1) (rX w T D k p.1 p.2.2);unfold ZH;generalize (D.map λd=>Im w T k d.2.2)=R at*;generalize (Ϸ D p.1).map (λo=>PV.bl (!wS w T o k))=R2 at*;generalize rX w T D k p.1 p.2.1=x,rX w T D k p.1 p.2.2=y at*;exact⟨[.bw R,.sh (.int p.1),.sh (.int p.2.1),.sh (.int p.2.2)],[.bw R,.sh (.int p.1),.sh (.int p.2.1),.sh (.int p.2.2)],[.bw R,.sh (.int p.1),.sh (.int p.2.1),.sh (.int p.2.2)],by simp[Ϥ],by simp,by simp[q1,q2,q3,q4],_,_,_,rfl⟩)
 simpa using c
def So(s:ϒ)(ps:List PV):Prop:=s=.ow ps\/s=.sh (.lst ps)
def Z3o{w h:Nat}(hw:0<w/\w<=60){T:List Th}(hT:∀t∈T,BT t)(Tt:T.length<=1000){D:List Dy}(Ep:D.length<=3)(hD:∀d∈D,d.2.2.length<=5/\∀o∈d.2.2,sx o)(hm:(Z0 D).length<=75){k:Nat}(hk:k<1000)(ď:List PV)(ha:ď.length<=1000){s4:ϒ}(h4:So s4 ((Z0 D).map Ϥ))(z3 z7 z8 z9 oh:ϒ):∃a b,vV [.sh (.tup [.int w,.int h]),.bw (T.map Z2),.bw (f_ D),z3,s4,.ow ď,~~~k,z7,z8,z9,oh]=.ok .nx [.sh (.tup [.int w,.int h]),.bw (T.map Z2),.bw (f_ D),z3,.sh (.lst ((Z0 D).map Ϥ)),.ow (ď ++ [gH w T D k]),~~~k,a,b,z9,oh]:=by
 have h0:¬(w:Int)=0:=by lia
 have h1:¬w=0:=by lia
 have f1:oq (k:Int) (w:Int)=((k % w:Nat):Int):=by rw[iy _ (by lia)];simp
 have f2:Int.fdiv (k:Int) (w:Int)=((k / w:Nat):Int):=by rw[jV _ (by lia)];simp
 have f3:gZ (k:Int) (w:Int)=true:=xO (by lia) (Ĺ (lw (n:=200) (by lia) (by lia)) (by decide));have c1:=Z4a (w:=w) hT Tt Ep hD hk;have c2:=Z4B (w:=w) (T:=T) hm k;have c1:Ķ (gN 2) Ě (á (ĳ [0,1] 1 (ń 2) (gN 2) Ě (á (ç hZ (É 0 (É 1 (É 2 Þ))))))) (f_ D) [.bw (T.map Z2),.sh (.tup [.int ((k % w:Nat):Int),.int ((k / w:Nat):Int)]),.no] []=_:=c1;refine⟨.sh (pt (aW w k)),.ow (D.map λd=>Im w T k d.2.2),?_⟩;show _=Ŋ.ok Fl.nx [_,_,_,_,_,_,_,.sh (.tup [.int ((k % w:Nat):Int),.int ((k / w:Nat):Int)]),_,_,_];unfold gH;have hz:ď.length<16777216:=by lia
 generalize ((k % w:Nat):Int)=x,((k / w:Nat):Int)=y at*;generalize (Z0 D).map (λp=>PV.bl (ZH w T D k p))=Q at*;generalize (Z0 D).map Ϥ=PR at*;generalize (D.map λd=>Im w T k d.2.2)=LT at*;generalize f_ D=DV,T.map Z2=TR at*;rcases h4 with rfl|rfl<;>simp[vV,Ss,h0,h1,f1,f2,f3,bt,av,c1,c2,hz]
theorem Z1t{w h:Nat}(hw:0<w/\w<=60){T:List Th}(hT:∀t∈T,BT t)(Tt:T.length<=1000){D:List Dy}(Ep:D.length<=3)(hD:∀d∈D,d.2.2.length<=5/\∀o∈d.2.2,sx o)(hm:(Z0 D).length<=75)(z3 z9 oh:ϒ):∀(ks:List Nat) (ď:List PV) (s4 z6 z7 z8:ϒ),So s4 ((Z0 D).map Ϥ)->(∀k∈ks,k<1000)->ď.length+ks.length<=1000->∃oa a b c,Ĩ (gN 6) vV (ks.map nV) [.sh (.tup [.int w,.int h]),.bw (T.map Z2),.bw (f_ D),z3,s4,.ow ď,z6,z7,z8,z9,oh]=.ok .nx [.sh (.tup [.int w,.int h]),.bw (T.map Z2),.bw (f_ D),z3,oa,.ow (ď++ks.map (gH w T D)),a,b,c,z9,oh]/\So oa ((Z0 D).map Ϥ)
 | [],ď,s4,z6,z7,z8,h4,_,_=>⟨s4,z6,z7,z8,by simp[Ĩ],h4⟩
 |k::ks,ď,s4,z6,z7,z8,h4,hk,ha=>by simp only[ŋ] at ha;obtain⟨a,b,e1⟩:=Z3o (h:=h) hw hT Tt Ep hD hm (hk k ĭ) ď (by lia) h4 z3 z7 z8 z9 oh;obtain⟨oa,a',b',c',e2,h4'⟩:=Z1t hw hT Tt Ep hD hm z3 z9 oh ks (ď ++ [gH w T D k]) (.sh (.lst ((Z0 D).map Ϥ))) (~~~k) a b (.inr rfl) (λx hx=>hk x (Ă _ hx)) (by simp;lia);refine⟨oa,a',b',c',?_,h4'⟩;rw[ý,ý,Ĩ];have g1:gN 6 (nV k) [.sh (.tup [.int w,.int h]),.bw (T.map Z2),.bw (f_ D),z3,s4,.ow ď,z6,z7,z8,z9,oh]=some [.sh (.tup [.int w,.int h]),.bw (T.map Z2),.bw (f_ D),z3,s4,.ow ď,~~~k,z7,z8,z9,oh]:=rfl;rw[g1];dsimp only;rw[e1];rw[bO] at e2;exact e2
def Cho(w:Nat)(T:List Th)(D:List Dy)(ns:List Nat)(c:Nat):Prop:=c<2 ^ ns.length/\oj w T D ns c=none/\∀c',c'<2 ^ ns.length->oj w T D ns c'=none->Zd (λ_=>1) ns.length c<=Zd (λ_=>1) ns.length c'/\(Zd (λ_=>1) ns.length c'=Zd (λ_=>1) ns.length c->c<=c')
def Z1u(w:Nat)(T:List Th)(D:List Dy){ns:List Nat}{c:Nat}(h:oj w T D ns c=none):oj w T D ns (2 ^ ns.length-1)=none:=by unfold oj at h ⊢;rw[Z3j] at h ⊢;intro j hj;have h1:=h j hj;rw[Z1N w T D ns _ j hj] at h1 ⊢;unfold TF at h1 ⊢;rw[Bool.not_not,List.any_eq_true] at h1 ⊢;obtain⟨x,hx,h2⟩:=h1;rw[Ė] at h2;refine⟨x,hx,?_⟩;rw[Ė];refine⟨?_,h2.2⟩;rw[Nat.testBit_two_pow_sub_one];exact decide_eq_true (ĸ.mp hx)
def Z4b{w h:Nat}(hw:0<w/\w<=60){T:List Th}(hT:∀t∈T,BT t)(Tt:T.length<=1000){D:List Dy}(Ep:D.length<=3)(hD:∀d∈D,d.2.2.length<=5/\∀o∈d.2.2,sx o)(ho:∀d,(Ϸ D d).length<=5){ns:List Nat}(h5:ns.length<=8)(hn:∀k∈ns,k<1000):∃v,tj [.sh (.tup [.int w,.int h]),.bw (T.map Z2),.bw (f_ D),.bw (ns.map nV)]=.ret (.sh v)/\
 ((∃k,oj w T D ns (2 ^ ns.length-1)=some k/\v=OM ((Z0 D).getD k (0,0,0)))\/∃c,Cho w T D ns c/\v=.tup [.str "choice",.int c,.int (Zd (λ_=>1) ns.length c),.lst (Eo w T D ns)]):=by
 have hm:=Z0y D Ep ho;have e1:=Z2G Ep ho;obtain⟨s4,a,b,c,e2,h4⟩:=Z1t (h:=h) hw hT Tt Ep hD hm (.bw (ns.map nV)) .no .no ns [] (.ow ((Z0 D).map Ϥ)) .no .no .no (.inl rfl) hn (by simp;lia);rw[Ś] at e2;obtain⟨bst,e3,hb⟩:=Z3n w T D h5 hm;have gJ:((Z0 D).map Ϥ).length=(Z0 D).length:=by simp
 cases bst with
 |none=>
  have hf:=hb (2 ^ ns.length-1) (by have:=ux ns.length;lia);obtain⟨k,hk⟩:=Option.ne_none_iff_exists'.mp hf;refine⟨_,?_,.inl ⟨k,hk,rfl⟩⟩;have gA:=Z3P hk;have hx:((Z0 D).map Ϥ)[k]?=some (Ϥ ((Z0 D).getD k (0,0,0))):=by simp[gA]
  have il:=Z1I (λc=>bN (oj w T D ns c)) (ux ns.length);rw[hk] at il;have il:ã (.lst (Eo w T D ns)) (.int (-1))=some (.int k):=il;generalize (Z0 D).getD k (0,0,0)=p at*;have hx:((Z0 D).map Ϥ)[k]?=some (.tup [.int p.1,.int p.2.1,.int p.2.2]):=hx;unfold OM;generalize Eo w T D ns=PA,ns.map (gH w T D)=A,(Z0 D).map Ϥ=PR,(Z0 D).length=m,f_ D=DV,T.map Z2=TR,ns.map nV=NS at*;simp only[Zo] at e3;rcases h4 with rfl|rfl<;>simp[tj,Al,Ï,e1,e2,gJ,e3,jS,il,hx,Z2B]
 |some c=>obtain⟨b1,b2,b3⟩:=hb;rw[Z1s] at b3;refine⟨_,?_,.inr ⟨c,⟨b1,b2,λc' q1 q2=>by have:=b3 c' q1 q2;rw[Z1s] at this;exact this⟩,rfl⟩⟩;rw[Zo,Z1s] at e3;generalize Zd (λ_=>1) ns.length c=S at*;generalize Eo w T D ns=PA,ns.map (gH w T D)=A,(Z0 D).map Ϥ=PR,(Z0 D).length=m,f_ D=DV,T.map Z2=TR,ns.map nV=NS at*;rcases h4 with rfl|rfl<;>simp[tj,Al,Ï,e1,e2,gJ,e3,jS,Ss,Ts]
def Z5a:į Z3 Z4 Z5 Z6 [.non,.ty "tuple"]=some (.bl false):=by rfl
def Z5b:į Z3 Z4 Z5 Z6 [.non,.ty "list"]=some (.bl false):=by rfl
def Z5c:į Z3 Z4 Z5 Z6 [.non,.ty "str"]=some (.bl false):=by rfl
def Z4C(i:Int):į Z3 Z4 Z5 Z6 [.int i,.ty "tuple"]=some (.bl false):=by rfl
def Z4D(i:Int):į Z3 Z4 Z5 Z6 [.int i,.ty "list"]=some (.bl false):=by rfl
def Z4E(i:Int):į Z3 Z4 Z5 Z6 [.int i,.ty "str"]=some (.bl false):=by rfl
def Z3p(i:Int):į Z3 Z4 Z5 Z6 [.int i,.ty "int"]=some (.bl true):=by rfl
def Z3q(i:Int):į Z3 Z4 Z5 Z6 [.int i,.ty "bool"]=some (.bl false):=by rfl
def Z5d(s:Str):į Z3 Z4 Z5 Z6 [.str s,.ty "tuple"]=some (.bl false):=by rfl
def Z5e(s:Str):į Z3 Z4 Z5 Z6 [.str s,.ty "list"]=some (.bl false):=by rfl
def Z5f(s:Str):į Z3 Z4 Z5 Z6 [.str s,.ty "str"]=some (.bl true):=by rfl
def Z5g(l:List PV):į Z3 Z4 Z5 Z6 [.lst l,.ty "tuple"]=some (.bl false):=by rfl
def Z5h(l:List PV):į Z3 Z4 Z5 Z6 [.lst l,.ty "list"]=some (.bl true):=by rfl
def Z5i(l:List PV):į Z3 Z4 Z5 Z6 [.tup l,.ty "tuple"]=some (.bl true):=by rfl
def Z5j(l:List PV):į Z3 Z4 Z5 Z6 [.tup l,.ty "list"]=some (.bl false):=by rfl
def Z3r(b:Option Nat):lA [.sh (bN b),.sh (bN b)]=.ret (.sh (.bl true)):=by
 cases b with
 |none=>simp[lA,Zb,Ï,bN,Z5a,Z5b,Z5c,jS]
 |some i=>simp[lA,Zb,Ï,bN,Z4C,Z4D,Z4E,Z3p,Z3q,jS]
def ZO(i:Int):ı [~~~i,~~~i]=.ret (.sh (.bl true)):=by simp[ı,Zb,Ï,Z4C,Z4D,Z4E,Z3p,Z3q,jS]
def Z0Y{s:Str}(h:Ş (.str s) (.str s)=some (.bl true)):ı [.sh (.str s),.sh (.str s)]=.ret (.sh (.bl true)):=by simp[ı,Zb,Ï,Z5d,Z5e,Z5f,jS,h]
def Z2J:bv (.bl true) (.bl true)=some (.bl false):=rfl
def Z2K:bv (.bl false) (.bl false)=some (.bl false):=rfl
def Z4c(l:List Bool):mD [.lst (l.map .bl)]=some (.bl (l.all id)):=by show(ϵ (l.map .bl)).map (λbs=>PV.bl (bs.all id))=_;rw[ZT];rfl
def Z3s{α:Type}(f:α->PV)(l:List α):gC (l.map f) (l.map f)=l.map λx=>PV.tup [f x,f x]:=by
 induction l with
 |nil=>rfl
 |cons x l ih=>rw[ý,gC,ih];rfl
def Z2L(bs:List (Option Nat))(hl:bs.length<=1000):ı [.sh (.lst (bs.map bN)),.sh (.lst (bs.map bN))]=.ret (.sh (.bl true)):=by
 have c:=Ĕ (g:=gT 2 (è (gN 0) (è (gN 1) ň))) (mt:=Ě) (me:=á (ç lA (É 0 (É 1 Þ)))) (λb=>PV.tup [bN b,bN b]) (λ_=>PV.bl true) (λY=>∃a b,Y=[a,b]) bs [.no,.no] [] ⟨_,_,rfl⟩ (by simp;lia) (by
  rintro b _ Y ⟨x,y,rfl⟩;have e:=Z3r b;generalize bN b=B at*;exact⟨[.sh B,.sh B],[.sh B,.sh B],[.sh B,.sh B],by simp,by simp,by simp[e],_,_,rfl⟩)
 rw[Ś] at c;have al:=Z4c (bs.map λ_=>true);rw[ag] at al;have al:mD [.lst (bs.map λ_=>PV.bl true)]=some (.bl true):=by
  have h:(bs.map λ_=>true).all id=true:=by simp
  rw[h] at al;exact al
 have zs:gC (bs.map bN) (bs.map bN)=bs.map λb=>PV.tup [bN b,bN b]:=by exact Z3s bN bs
 generalize (bs.map λ_=>PV.bl true)=Q at*;generalize (bs.map λb=>PV.tup [bN b,bN b])=Z at*;generalize bs.map bN=B at*;simp[ı,Zb,Ï,Z5g,Z5h,Z2J,Z2K,vM,vJ,zs,c,al]
def Z2M{a b c d:PV}(h1:ı [.sh a,.sh a]=.ret (.sh (.bl true)))(h2:ı [.sh b,.sh b]=.ret (.sh (.bl true)))(h3:ı [.sh c,.sh c]=.ret (.sh (.bl true)))(h4:ı [.sh d,.sh d]=.ret (.sh (.bl true))):lB [.sh (.tup [a,b,c,d]),.sh (.tup [a,b,c,d])]=.ret (.sh (.bl true)):=by
 have cc:Ķ (gT 2 (è (gN 0) (è (gN 1) ň))) Ě (á (ç ı (É 0 (É 1 Þ)))) [.tup [a,a],.tup [b,b],.tup [c,c],.tup [d,d]] [.no,.no] []=some [.bl true,.bl true,.bl true,.bl true]:=by simp[Ķ,h1,h2,h3,h4]
 have al:mD [.lst [.bl true,.bl true,.bl true,.bl true]]=some (.bl true):=by rfl
 simp[lB,Zb,Ï,Z5i,Z5j,Z2J,Z2K,vM,vJ,gC,cc,al]
def Z3Q{a:String}(h1:Ϝ (Ì a)=true):Ş (.str (Ì a)) (.str (Ì a))=some (.bl true):=by rw[ϕ h1 h1];simp
def Z3t(p:Nat×Nat×Nat):lB [.sh (OM p),.sh (OM p)]=.ret (.sh (.bl true)):=
 Z2M (Z0Y (Z3Q (by decide +kernel))) (ZO _) (ZO _) (ZO _)
def Z3u(c:Nat)(S:Int)(w:Nat)(T:List Th)(D:List Dy){ns:List Nat}(h5:ns.length<=8):lB [.sh (.tup [.str "choice",.int c,.int S,.lst (Eo w T D ns)]),.sh (.tup [.str "choice",.int c,.int S,.lst (Eo w T D ns)])]=.ret (.sh (.bl true)):=by
 have hp:2 ^ ns.length<=256:=by have:=km (show 0<2 by lia) h5;simpa using this
 have e:=Z2L ((Ò (2 ^ ns.length)).map λc=>oj w T D ns c) (by simpa using Ĺ hp (by decide));rw[ag] at e;exact Z2M (Z0Y (Z3Q (by decide +kernel))) (ZO _) (ZO _) e
def m_(i:Int):PX:=⟨"NoStone",["stone"],[.int i]⟩
def xV(x:PX):PV:=.xc x.C x.ns x.ps
def Su{C D:String}{ns:List Str}{ps:List PV}:į Z3 Z4 Z5 Z6 [.xc C ns ps,.cls D]=(Z3.lookup (C,D)).map .bl:=rfl
def isv{C D:String}{ns:List Str}{ps:List PV}:į Z3 Z4 Z5 Z6 [.xc C ns ps,.ty D]=(Z4.lookup (C,D)).map .bl:=rfl
def a1:Z3.lookup ("NoStone","YardError")=some true:=by decide +kernel
def a2:Z4.lookup ("NoStone","ValueError")=some true:=by decide +kernel
def a3:Z3.lookup ("NoStone","NoNumber")=some false:=by decide +kernel
def a4:Z3.lookup ("NoStone","BadThing")=some false:=by decide +kernel
def a5:Z3.lookup ("NoStone","NoTurn")=some false:=by decide +kernel
def a6:Z3.lookup ("NoStone","BadRow")=some false:=by decide +kernel
def a7:Z3.lookup ("NoStone","NoRow")=some false:=by decide +kernel
def a8:Z3.lookup ("NoStone","NoDay")=some false:=by decide +kernel
def Z26(i:Int):tH [.sh (xV (m_ i)),~~~i]=.ret (.sh (.bl true)):=by
 have h2:qC ["NoStone"] "stone" (xV (m_ i))=some (.int i):=by simp[qC,ba,xV,m_]
 have b1:į Z3 Z4 Z5 Z6 [xV (m_ i),.cls "YardError"]=some (.bl true):=by rw[xV,m_,Su,a1];rfl
 have b2:į Z3 Z4 Z5 Z6 [xV (m_ i),.ty "ValueError"]=some (.bl true):=by rw[xV,m_,isv,a2];rfl
 have b3:į Z3 Z4 Z5 Z6 [xV (m_ i),.cls "NoNumber"]=some (.bl false):=by rw[xV,m_,Su,a3];rfl
 have b4:į Z3 Z4 Z5 Z6 [xV (m_ i),.cls "BadThing"]=some (.bl false):=by rw[xV,m_,Su,a4];rfl
 have b5:į Z3 Z4 Z5 Z6 [xV (m_ i),.cls "NoTurn"]=some (.bl false):=by rw[xV,m_,Su,a5];rfl
 have b6:į Z3 Z4 Z5 Z6 [xV (m_ i),.cls "BadRow"]=some (.bl false):=by rw[xV,m_,Su,a6];rfl
 have b7:į Z3 Z4 Z5 Z6 [xV (m_ i),.cls "NoRow"]=some (.bl false):=by rw[xV,m_,Su,a7];rfl
 have b8:į Z3 Z4 Z5 Z6 [xV (m_ i),.cls "NoDay"]=some (.bl false):=by rw[xV,m_,Su,a8];rfl
 have hi:OK false (.bl true) (.lst [.bl false,.bl false,.bl false,.bl false,.bl false,.bl false])=some (.bl false):=by simp[OK,eE,db,ze,qt,tQ,jT,ak]
 generalize xV (m_ i)=Xv at*;simp[tH,G7,Ï,b1,b2,b3,b4,b5,b6,b7,b8,rT,hi,h2,Z3p,Z3q]
theorem Z0z(b:Int)(s1:ϒ):∀(ks:List Nat) (ď:List Int) (c:Int) (s4:ϒ),ď.length+ks.length<=100000->(∀k∈ks,k<1000)->∃(WR:List Int) (c':Int) (oa:ϒ),Ĩ (gN 4) mR (ks.map λ(i:Nat)=>PV.int (i:Int)) [~~~c,s1,~~~b,.ow (ď.map .int),s4]=.ok .nx [~~~c',s1,~~~b,.ow (WR.map .int),oa]/\WR.length=ď.length+ks.length
 | [],ď,c,s4,_,_=>⟨ď,c,s4,rfl,rfl⟩
 |k::ks,ď,c,s4,hl,hk=>by
  have hk0:=hk k ĭ;have WS:ď.length<16777216:=by simp at hl;lia
  rw[ý,Ĩ];have hg:gN 4 (PV.int (k:Int)) [~~~c,s1,~~~b,.ow (ď.map .int),s4]=some [~~~c,s1,~~~b,.ow (ď.map .int),~~~k]:=rfl;rw[hg];dsimp only;by_cases h0:b=0
  ·have e:mR [~~~c,s1,~~~b,.ow (ď.map .int),~~~k]=.ok .nx [~~~(c / 1000000),s1,~~~b,.ow ((ď ++ [c % 1000000]).map .int),~~~k]:=by
    simp[mR,h0,WS]
   rw[e];obtain⟨a,b',d,q1,q2⟩:=Z0z b s1 ks (ď ++ [c % 1000000]) (c / 1000000) (~~~k) (by simp at hl ⊢;lia) (λx hx=>hk x (Ă _ hx));exact⟨a,b',d,q1,by simp at q2 ⊢;lia⟩
  ·obtain⟨m,e1,_⟩:=Z1i c k (by lia) (by lia);obtain⟨m2,e2,_⟩:=Z1i (m+c) k (by lia) (by lia);have e:mR [~~~c,s1,~~~b,.ow (ď.map .int),~~~k]=.ok .nx [~~~c,s1,~~~b,.ow ((ď ++ [m2]).map .int),~~~k]:=by
    simp[mR,h0,WS,e1,e2]
   rw[e];obtain⟨a,b',d,q1,q2⟩:=Z0z b s1 ks (ď ++ [m2]) c (~~~k) (by simp at hl ⊢;lia) (λx hx=>hk x (Ă _ hx));exact⟨a,b',d,q1,by simp at q2 ⊢;lia⟩
def Z4F(c:Int){n:Nat}(hn:n<=1000):∃xs:List Int,Dd [~~~c,~~~n]=.ret (.ow (xs.map .int))/\xs.length=n:=by
 have rr:=Zt hn;obtain⟨B,hB⟩:∃B:Int,B=10 ^ 60:=⟨_,rfl⟩;have p0:cU (.int 10) (.int 60)=some (.int B):=by rw[hB];rfl
 have b1:Ĵ B B=true:=by rw[hB];decide +kernel
 have b2:Ĵ (B*B) B=true:=by rw[hB];decide +kernel
 have b3:¬(B*B*B=0):=by rw[hB];decide +kernel
 obtain⟨c2,Ee⟩:∃c2,ć (.int (c / 2)) (.int (B*B*B))=some (.int c2):=⟨_,by rw[cM,if_pos (by simp[xI,b3])]⟩;have m2:ć (.int c) (.int 2)=some (.int (c % 2)):=by simp
 obtain⟨a,b,d,q1,q2⟩:=Z0z (c % 2) (~~~n) (Ò n) [] c2 .no (by simp;lia) (λk hk=>by have:=ĸ.mp hk;lia);refine⟨a,?_,by simpa using q2⟩;rw[be] at q1;simp[Dd,G5,Ï,rr,q1,p0,b1,b2,Ee,m2,-cM,-JF]
theorem Z1v(s0 s1:ϒ):∀(xs:List Int) (os:List (Option P3)) (s3:ϒ),os.length+xs.length<=100000->(∀o∈os,sx o)->∃(Sz:List (Option P3)) (tX:ϒ),Ĩ (gN 3) qX (xs.map .int) [s0,s1,.ow (os.map dX),s3]=.ok .nx [s0,s1,.ow (Sz.map dX),tX]/\Sz.length=os.length+xs.length/\∀o∈Sz,sx o
 | [],os,s3,_,h=>⟨os,s3,rfl,rfl,h⟩
 |x::xs,os,s3,hl,h=>by
  have WS:(os.map dX).length<16777216:=by simp at hl ⊢;lia
  rw[ý,Ĩ];have hg:gN 3 (PV.int x) [s0,s1,.ow (os.map dX),s3]=some [s0,s1,.ow (os.map dX),~~~x]:=rfl;rw[hg];dsimp only;obtain⟨o,e,ho⟩:∃o:Option P3,qX [s0,s1,.ow (os.map dX),~~~x]=.ok .nx [s0,s1,.ow ((os ++ [o]).map dX),~~~x]/\sx o:=by
   simp only[š];generalize os.map dX=OS at*;by_cases h7:x % 8=7
   ·exact⟨none,by simp[qX,h7,WS,dX],trivial⟩
   ·refine⟨some (x / 8 % 7-3,x / 56 % 7-3,1+x / 392 % 3),by simp[qX,h7,WS,dX,c3],?_⟩;refine⟨⟨?_,?_,?_,?_,?_,?_⟩,?_⟩<;>dsimp only<;>lia
  rw[e];obtain⟨Sz,tX,q1,q2,q3⟩:=Z1v s0 s1 xs (os ++ [o]) (~~~x) (by simp at hl ⊢;lia) (by
   intro y hy;rcases cw.mp hy with hy|hy
   ·exact h y hy
   ·rw[aD.mp hy];exact ho)
  exact⟨Sz,tX,q1,by simp at q2 ⊢;lia,q3⟩
def Z4G(c:Int){n:Nat}(hn:n<=1000):∃os:List (Option P3),De [~~~c,~~~n]=.ret (.ow (os.map dX))/\os.length=n/\∀o∈os,sx o:=by obtain⟨xs,er,hx⟩:=Z4F c hn;obtain⟨os,s3,q1,q2,q3⟩:=Z1v (~~~c) (~~~n) xs [] .no (by simp;lia) (by simp);refine⟨os,?_,by simp at q2;lia,q3⟩;rw[be] at q1;generalize os.map dX=OS,xs.map PV.int=XS at*;simp[De,G6,Ï,er,q1]
def Z3v{w:Str}{xs:List Int}(h:Zg w xs=true):Ϝ w=true:=by
 unfold Zg at h;by_cases e1:w= "post"
 ·rw[e1];exact s1
 rw[if_neg e1] at h;by_cases e2:w= "fence"
 ·rw[e2];exact s2
 rw[if_neg e2] at h;by_cases e3:w= "sail"
 ·rw[e3];exact s3
 rw[if_neg e3] at h;by_cases e4:w= "cloth"
 ·rw[e4];exact s4
 rw[if_neg e4] at h;by_cases e5:w= "house"
 ·rw[e5];exact s5
 rw[if_neg e5] at h;cases h
def Z2N{T:List Th}(hl:T.length<=1000)(hg:∀t∈T,Zg t.1 t.2=true)(s0 s1:ϒ):Ķ (gT 2 (è (gN 0) (è (gN 1) ň))) Ě (á (ç gm (É 0 (ô (á (jG cj (Ç (Â 1) â))) Þ)))) (T.map Z2) [s0,s1] []=some (T.map zm):=by
 have hc:=Ĕ (g:=gT 2 (è (gN 0) (è (gN 1) ň))) (mt:=Ě) (me:=á (ç gm (É 0 (ô (á (jG cj (Ç (Â 1) â))) Þ)))) Z2 zm (λY=>∃a b,Y=[a,b]) T [s0,s1] [] ⟨_,_,rfl⟩ (by simp;lia) (by
  rintro t ht Y ⟨a,b,rfl⟩;have e:=Z36 (Z3v (hg t ht)) (xs:=t.2) (sl:=.sh (.lst (t.2.map .int))) (.inl rfl);rw[if_pos (hg t ht)] at e;change gm _=.ret (.sh (zm t)) at e;refine⟨[.sh (.str t.1),.sh (.lst (t.2.map .int))],_,[.sh (.str t.1),.sh (.lst (t.2.map .int))],by simp[Z2],rfl,?_,_,_,rfl⟩;generalize t.2.map PV.int=X,zm t=Qqj at*;simp[e])
 simpa using hc
def bG(os:List (Option P3)):PV:=.lst (os.map dX)
def Z3w(ns:List Int){f:Int}(k:Nat)(hk:k<3)(O:List PV)(hO:O.length<=1000)(z2 z3 z6 z7 z8 z9 oh AZ A_ A0 xh xi xj:ϒ):∃os:List (Option P3),qY [.sh (.lst (ns.map .int)),~~~f,z2,z3,.ow O,~~~k,z6,z7,z8,z9,oh,AZ,A_,A0,xh,xi,xj]=.ok .nx [.sh (.lst (ns.map .int)),~~~f,z2,z3,.ow (O ++ [bG os]),~~~k,z6,z7,z8,z9,oh,AZ,A_,A0,xh,xi,xj]/\os.length<=5/\∀o∈os,sx o:=by
 have e0:=ZE ns (5+k);rw[show((5+k:Nat):Int)=5+(k:Int) by lia] at e0;generalize ns.getD (5+k) 0=c at*;obtain⟨q,hq⟩:∃q,Ļ (.int (f / 125)) (.int ((k:Int)+1))=some (.int q):=by
  have:k=0\/k=1\/k=2:=by lia
  rcases this with rfl|rfl|rfl
  ·exact⟨_,by simp;rfl⟩
  ·exact⟨_,by simp;rfl⟩
  ·exact⟨_,by simp;rfl⟩
 obtain⟨n,hn⟩:∃n:Nat,1+q % 4=(n:Int):=⟨(1+q % 4).toNat,by lia⟩;obtain⟨os,e1,e2,e3⟩:=Z4G c (n:=n) (by lia);refine⟨os,?_,by lia,e3⟩;have hO:O.length<16777216:=by lia
 have d1:Ļ (.int f) (.int 125)=some (.int (f / 125)):=by simp
 unfold bG;generalize os.map dX=OS,ns.map PV.int=NS at*;simp[qY,e0,d1,hq,hn,e1,hO,-JE]
theorem Z1w(ns:List Int){f:Int}(z2 z3 z6 z7 z8 z9 oh AZ A_ A0 xh xi xj:ϒ):∀(ks:List Nat) (O:List (List (Option P3))) (z5:ϒ),(∀k∈ks,k<3)->O.length+ks.length<=1000->(∀os∈O,os.length<=5/\∀o∈os,sx o)->∃(O':List (List (Option P3))) (z5':ϒ),Ĩ (gN 5) qY (ks.map λ(i:Nat)=>PV.int (i:Int)) [.sh (.lst (ns.map .int)),~~~f,z2,z3,.ow (O.map bG),z5,z6,z7,z8,z9,oh,AZ,A_,A0,xh,xi,xj]=.ok .nx [.sh (.lst (ns.map .int)),~~~f,z2,z3,.ow (O'.map bG),z5',z6,z7,z8,z9,oh,AZ,A_,A0,xh,xi,xj]/\O'.length=O.length+ks.length/\∀os∈O',os.length<=5/\∀o∈os,sx o
 | [],O,z5,_,_,h=>⟨O,z5,rfl,rfl,h⟩
 |k::ks,O,z5,hk,hl,h=>by
  simp only[ŋ] at hl;obtain⟨os,e1,g1⟩:=Z3w ns (f:=f) k (hk k ĭ) (O.map bG) (by simp;lia) z2 z3 z6 z7 z8 z9 oh AZ A_ A0 xh xi xj;obtain⟨O',z5',e2,l2,g2⟩:=Z1w ns (f:=f) z2 z3 z6 z7 z8 z9 oh AZ A_ A0 xh xi xj ks (O ++ [os]) (~~~k) (λx hx=>hk x (Ă _ hx)) (by simp;lia) (by
   intro y hy;rcases cw.mp hy with hy|hy
   ·exact h y hy
   ·rw[aD.mp hy];exact g1)
  refine⟨O',z5',?_,by simp at l2 ⊢;lia,g2⟩;rw[š] at e2;rw[ý,Ĩ];have hg:gN 5 (PV.int (k:Int)) [.sh (.lst (ns.map .int)),~~~f,z2,z3,.ow (O.map bG),z5,z6,z7,z8,z9,oh,AZ,A_,A0,xh,xi,xj]=some [.sh (.lst (ns.map .int)),~~~f,z2,z3,.ow (O.map bG),~~~k,z6,z7,z8,z9,oh,AZ,A_,A0,xh,xi,xj]:=rfl;rw[hg];dsimp only;rw[e1];exact e2
def abc:Nat->Str
 |0=> "a"
 |1=> "b"
 |_=> "c"
def nc(O:List (List (Option P3))):List Dy:=(Ò O.length).map λk=>(abc k,1+(k:Int),O.getD k [])
def Z1O(O:List (List (Option P3))):(nc O).length=O.length:=by simp[nc]
def Z4H(O:List (List (Option P3))):f_ (nc O)=O.map bG:=by unfold f_ nc;rw[ag,ZV bG [] O];rfl
def Z4I{O:List (List (Option P3))}(h:∀os∈O,os.length<=5/\∀o∈os,sx o):∀d∈nc O,d.2.2.length<=5/\∀o∈d.2.2,sx o:=by
 intro d hd;obtain⟨k,hk,rfl⟩:=aE.mp hd;have hk:=ĸ.mp hk;have hm:O.getD k []∈O:=by rw[Ϫ,Ō hk];exact cz hk
 exact h _ hm
def Z1P{D:List Dy}(h:∀d∈D,d.2.2.length<=5/\∀o∈d.2.2,sx o):Wa D:=by
 intro d;by_cases hd:d<D.length
 ·rw[Qqj9 hd];exact h _ (cz hd)
 ·have:Ϸ D d=[]:=by simp[Ϸ,ur hd]
  rw[this];simp
def Z4d{O:List (List (Option P3))}(hl:O.length<=3)(s:ϒ):Ķ (gN 1) Ě (ķ (Ç (È ã (mC (.str "abc")) (Â 1)) (Ç (á (Ċ Ą (Ä 1) (Â 1))) (Ç (á (jG cj (Ç (È ã (Â 0) (Â 1)) â))) â)))) ((Ò O.length).map λ(k:Nat)=>PV.int (k:Int)) [.bw (O.map bG),s] []=some ((nc O).map og):=by
 have:=Ĕ (g:=gN 1) (mt:=Ě) (me:=ķ (Ç (È ã (mC (.str "abc")) (Â 1)) (Ç (á (Ċ Ą (Ä 1) (Â 1))) (Ç (á (jG cj (Ç (È ã (Â 0) (Â 1)) â))) â)))) (λ(k:Nat)=>PV.int (k:Int)) (λk=>og (abc k,1+(k:Int),O.getD k [])) (λY=>∃s,Y=[.bw (O.map bG),s]) (Ò O.length) [.bw (O.map bG),s] [] ⟨_,rfl⟩ (by simp;lia) (by
  rintro k hk Y ⟨s,rfl⟩;have hk:=ĸ.mp hk;have hx:(O.map bG)[k]?=some (.lst ((O.getD k []).map dX)):=by simp[hk,bG]
  have ha:ã (.str "abc") (.int (k:Int))=some (.str (abc k)):=by
   have:k=0\/k=1\/k=2:=by lia
   rcases this with rfl|rfl|rfl<;>rfl
  refine⟨[.bw (O.map bG),~~~k],[.bw (O.map bG),~~~k],[.bw (O.map bG),~~~k],by simp,by simp,?_,_,rfl⟩;unfold og;dsimp only;generalize (O.getD k []).map dX=X,O.map bG=OS at*;simp[hx,ha])
 rw[this,nc,ag];rfl
theorem Z1Q(ns:List Int){w h:Nat}(hw:1<=w/\w<=5)(hh:1<=h/\h<=5):∀(ks:List Nat) (ď:List PV) (s:ϒ),ď.length+ks.length<=1000->∃qs:List Nat,Ķ (gN 2) Ě (È ć (á (ç aU (É 0 (ô (á (Ċ Ą (Ä 8) (Â 2))) Þ)))) (È û (È ã (Â 1) (Ä 0)) (È ã (Â 1) (Ä 1)))) (ks.map λ(i:Nat)=>PV.int (i:Int)) [.sh (.lst (ns.map .int)),.sh (.tup [.int w,.int h]),s] ď=some (ď++qs.map nV)/\qs.length=ks.length/\∀q∈qs,q<w*h
 | [],ď,s,_=>⟨[],by simp[Ķ],rfl,by simp⟩
 |k::ks,ď,s,ha=>by
  have e0:=ZE ns (8+k);rw[show((8+k:Nat):Int)=8+(k:Int) by lia] at e0;generalize ns.getD (8+k) 0=c at*;have hp:0<w*h:=oV (by lia) (by lia);have h1:=Int.emod_nonneg c (show((w*h:Nat):Int)≠0 by lia);have h2:=Int.emod_lt_of_pos c (show(0:Int)<((w*h:Nat):Int) by lia);obtain⟨q,hq⟩:∃q:Nat,c % ((w*h:Nat):Int)=(q:Int):=⟨_,(Int.toNat_of_nonneg h1).symm⟩;have mo:Ĵ (w:Int) (h:Int)=true:=ϙ (by lia) (by lia);have hm:ć (.int c) (.int ((w:Int)*h))=some (.int q):=by rw[<-hq,<-jX,cM,if_pos (by simp;lia),iy _ (by lia)]
  obtain⟨qs,q1,q2,q3⟩:=Z1Q ns hw hh ks (ď ++ [nV q]) (~~~k) (by simp at ha ⊢;lia);refine⟨q::qs,?_,by simp[q2],?_⟩
  ·have hz:ď.length<16777216:=by simp at ha;lia
   generalize ns.map PV.int=NS at*;rw[ý,Ķ];simp[e0,mo,hm,hz,Ss,Ts,-cM];simpa[nV] using q1
  ·intro x hx;rcases Ā.mp hx with rfl|hx
   ·lia
   ·exact q3 x hx
def Z1x{w h:Nat}{T:List Th}(hT:T.length<=1000)(Er:∀t∈T,Zg t.1 t.2=true){O:List (List (Option P3))}(hl:O.length<=3):yB [.sh (.tup [.int w,.int h]),.bw (T.map Z2),.bw (O.map bG)]=.ret (.sh (Z1 w h T (nc O))):=by
 have r2:=Zt (n:=O.length) (by lia);have t1:=Z4d hl .no;have c1:=Z2N (T:=T) (by lia) Er .no .no;have y1:=Z45 (w:Int) (h:Int) (T:=T) (D:=nc O) (by lia) (by rw[Z1O];lia) (s3:=.sh (.lst (T.map zm))) (s4:=.bw ((nc O).map og)) (.inl rfl) (.inr rfl);have hY:PV.ins "Yard" ["width","height","things","days"] [.int w,.int h,.lst (T.map zm),.lst ((nc O).map og)]=Z1 w h T (nc O):=rfl;have IC:(O.map bG).length=O.length:=by simp
 generalize Z1 w h T (nc O)=Yv,T.map Z2=TR,T.map zm=TV,(nc O).map og=DV,O.map bG=OV at*;simp[yB,Gy,Ï,bt,av,IC,r2,t1,c1,dQ,y1,hY,Ss,Ts]
def wd2:wd 2=Ì "sail" := by simp[wd]
def wd4:wd 4=Ì "house" := by simp[wd]
def wd0:wd 0=Ì "post" := by simp[wd]
def Z3x(ns:List Int)(k:Nat)(O:List PV)(hO:O.length<=1000)(z2 z5 z6 z7 z8 z9:ϒ):∃(t:Th) (a b c d e:ϒ),mL [.sh (.lst (ns.map .int)),~~~1,z2,.ow O,~~~k,z5,z6,z7,z8,z9]=.ok .nx [.sh (.lst (ns.map .int)),~~~1,z2,.ow (O ++ [Z2 t]),~~~k,a,b,c,d,e]/\BT t:=by
 have e0:=ZE ns (1+k);rw[show((1+k:Nat):Int)=1+(k:Int) by lia] at e0;generalize ns.getD (1+k) 0=c0 at*;obtain⟨c,hc⟩:∃c,c0 % 1000000000000=c:=⟨_,rfl⟩;have hO:O.length<16777216:=by lia
 have hd:c % 3=0\/c % 3=1\/c % 3=2:=by lia
 rcases hd with hd|hd|hd
 ·refine⟨(wd 0,[(c / 3 % 17-5) / 2,(c / 51 % 17-5) / 2,1+c / 867 % 6]),~~~c,~~~(c / 3 % 17-5),~~~(c / 51 % 17-5),~~~(1+c / 867 % 6),z9,?_,0,.inl rfl,rfl,.post (by unfold pB;lia) (by unfold pB;lia) (by unfold hB;lia)⟩;rw[wd0];unfold Z2;generalize ns.map PV.int=NS at*;simp[mL,e0,hc,hd,hO,-dh]
 ·refine⟨(wd 2,[c / 3 % 17-5,c / 51 % 17-5,c / 3 % 17-5+1+c / 5202 % 4,c / 51 % 17-5+1+c / 20808 % 4,1+c / 867 % 6]),~~~c,~~~(c / 3 % 17-5),~~~(c / 51 % 17-5),~~~(1+c / 867 % 6),.sh (.str "sail"),?_,2,.inr (.inl rfl),rfl,.sail (by unfold pB;lia) (by unfold pB;lia) (by unfold pB;lia) (by unfold pB;lia) (by unfold hB;lia) (by lia) (by lia)⟩;rw[wd2];unfold Z2;generalize ns.map PV.int=NS at*;simp[mL,e0,hc,hd,hO,-dh]
 ·refine⟨(wd 4,[c / 3 % 17-5,c / 51 % 17-5,c / 3 % 17-5+1+c / 5202 % 4,c / 51 % 17-5+1+c / 20808 % 4,1+c / 867 % 6]),~~~c,~~~(c / 3 % 17-5),~~~(c / 51 % 17-5),~~~(1+c / 867 % 6),.sh (.str "house"),?_,4,.inr (.inr rfl),rfl,.house (by unfold pB;lia) (by unfold pB;lia) (by unfold pB;lia) (by unfold pB;lia) (by unfold hB;lia) (by lia) (by lia)⟩;rw[wd4];unfold Z2;generalize ns.map PV.int=NS at*;simp[mL,e0,hc,hd,hO,-dh]
theorem Z1y(ns:List Int)(z2:ϒ):∀(ks:List Nat) (T:List Th) (z4 z5 z6 z7 z8 z9:ϒ),T.length+ks.length<=1000->(∀t∈T,BT t)->∃(T':List Th) (a b c d e f:ϒ),Ĩ (gN 4) mL (ks.map λ(i:Nat)=>PV.int (i:Int)) [.sh (.lst (ns.map .int)),~~~1,z2,.ow (T.map Z2),z4,z5,z6,z7,z8,z9]=.ok .nx [.sh (.lst (ns.map .int)),~~~1,z2,.ow (T'.map Z2),a,b,c,d,e,f]/\T'.length=T.length+ks.length/\∀t∈T',BT t
 | [],T,z4,z5,z6,z7,z8,z9,_,h=>⟨T,z4,z5,z6,z7,z8,z9,rfl,rfl,h⟩
 |k::ks,T,z4,z5,z6,z7,z8,z9,hl,h=>by
  simp only[ŋ] at hl;obtain⟨t,a,b,c,d,e,e1,ht⟩:=Z3x ns k (T.map Z2) (by simp;lia) z2 z5 z6 z7 z8 z9;obtain⟨T',a',b',c',d',e',f',q1,q2,q3⟩:=Z1y ns z2 ks (T ++ [t]) (~~~k) a b c d e (by simp;lia) (by
   intro y hy;rcases cw.mp hy with hy|hy
   ·exact h y hy
   ·rw[aD.mp hy];exact ht)
  refine⟨T',a',b',c',d',e',f',?_,by simp at q2 ⊢;lia,q3⟩;rw[š] at q1;rw[ý,Ĩ];have hg:gN 4 (PV.int (k:Int)) [.sh (.lst (ns.map .int)),~~~1,z2,.ow (T.map Z2),z4,z5,z6,z7,z8,z9]=some [.sh (.lst (ns.map .int)),~~~1,z2,.ow (T.map Z2),~~~k,z5,z6,z7,z8,z9]:=rfl;rw[hg];dsimp only;rw[e1];exact q1
def Z3y(ns:List Int){m:Nat}(hm:m<=100):∃T:List Th,yu [.sh (.lst (ns.map .int)),~~~1,~~~m]=.ret (.ow (T.map Z2))/\T.length=m/\∀t∈T,BT t:=by obtain⟨T,a,b,c,d,e,f,q1,q2,q3⟩:=Z1y ns (~~~m) (Ò m) [] .no .no .no .no .no .no (by simp;lia) (by simp);refine⟨T,?_,by simpa using q2,q3⟩;have rr:=Zt (n:=m) (by lia);rw[be] at q1;generalize T.map Z2=TR,ns.map PV.int=NS at*;simp[yu,Gu,Ï,rr,q1]
def Z27:M Fl:=(æ (ü 13 (ç tj (É 2 (É 3 (É 4 (É 6 Þ))))))
 (æ (bq (nv 11 (zL (aN (È bX (Â 10) (mC .non))) (le (cK (á (ç lB (É 11 (É 13 Þ))))))))
 (Ď (Ń (mC (.bl false))))
 bF)
 (æ (bq (nv 11 (aN (È Ş (È ã (Â 11) (Ä 0)) (mC (.str "choice")))))
 (CU 11 3 (mC .non))
 bF)
 (Ď (ç lB (ô (á (ç ia (É 8 (É 6 Þ)))) (É 13 Þ)))))))
def Tu:M Fl:=(æ (ü 8 (ç yB (É 2 (É 3 (É 4 Þ)))))
 (æ (ü 9 (jG cj (Ç (Â 6) â)))
 (æ (ü 10 (Ń (mC .non)))
 (æ (ü 11 (Ń (mC .non)))
 (æ (zW (ü 11 (ç ia (É 8 (É 9 Þ)))) (jd 12 ["NoStone"] ["YardError","NoNumber","BadThing","NoTurn","BadRow","NoRow","NoDay"] (ü 10 (Ń (ê 12))) qB))
 (æ (bq (aN (È bv (Â 9) (Â 6)))
 (Ď (Ń (mC (.bl false))))
 bF)
 (æ (bq (aN (È bX (Â 7) (mC .non)))
 (Ď (Ń (ci (È bX (Â 10) (mC .non)) (á (ç tH (É 10 (É 7 Þ)))))))
 bF)
 Z27)))))))
def X4:M Fl:=(æ (ü 14 (϶ (Ç (gB aS (Ä 1)) (Ç (È û (È ã (Â 2) (Ä 0)) (È ã (Â 2) (Ä 1))) (Ç (È cU (Ä 10) (Ä 6)) (Ç (gB aS (È cU (Ä 10) (Ä 6))) (Ç (gB aS (Ä 2)) (Ç (á (Ċ Ą (È û (È ã (Â 2) (Ä 0)) (È ã (Â 2) (Ä 1))) (Ä 1))) â))))))))
     (æ (ü 7 (Ń (È ã (Â 14) (È ć (È Ļ (Â 1) (Ä 324000)) (Ä 6)))))
     (æ (ü 6 (Cz (Â 6) qv (mP (Ä 6))))
     (æ (ü 15 (Ń (È ć (á (ç aU (É 0 (ô (Ä 13) Þ)))) (á (Ċ Ą (ar aZ (Ç (Â 6) â)) (Ä 1))))))
     (æ (ü 16 (Fw (Ç (È ã (Â 14) (È ć (á (ç aU (É 0 (ô (Ä 14) Þ)))) (Ä 6))) â) (È ć (È Ļ (Â 1) (Ä 1944000)) (Ä 2))))
     (ü 6 (Ċ Ą (á (Ċ Ą (á (Ċ Ą (á (Cz (Â 6) qv (mP (ê 15)))) (á (϶ (Ç (ê 7) â))))) (á (Cz (Â 6) (mP (ê 15)) qv)))) (Â 16))))))))
def Wd:M Fl:=(æ (ü 7 (Ń (mC .non)))
 (æ (bq (aN (È Ş (È ć (È Ļ (Â 1) (Ä 54000)) (Ä 6)) (Ä 5)))
 X4
 bF)
 Tu))
def X5:M Fl:=(æ (ü 6 (Cz (á (Ċ Ą (Â 6) (á (϶ (Ç (Ä 0) (Ç (Ä 1) (Ç (Ä 2) (Ç (Ä 3) (Ç (Ä 4) (Ç (Ä 5) (Ç (Ä 6) (Ç (Ä 7) â)))))))))))) qv (mP (Ä 8))))
     (ü 6 (ĳ [2] 1 (ń 6) (gN 1) Ě (È ć (Â 1) (È û (È ã (Â 0) (Ä 0)) (È ã (Â 0) (Ä 1)))))))
def Z28:M Fl:=(æ (ü 6 (ĳ [0,2] 1 (Œ ϑ (Ç (È ć (È Ļ (Â 1) (Ä 9000)) (Ä 6)) â)) (gN 2) Ě (È ć (á (ç aU (É 0 (ô (á (Ċ Ą (Ä 8) (Â 2))) Þ)))) (È û (È ã (Â 1) (Ä 0)) (È ã (Â 1) (Ä 1))))))
 (æ (bq (gR (aN (È Ş (È ć (È Ļ (Â 1) (Ä 108000)) (Ä 8)) (Ä 3))) (aN (È Ş (ar aZ (Ç (Â 4) â)) (Ä 1))))
 X5
 bF)
 Wd))
theorem Z2O{w h:Nat}(X_:w<=60/\h<=1000){T:List Th}{D:List Dy}(s1:ϒ){bad:Int}(hb:¬(0<=bad/\bad<(w:Int)*(h:Int)))(rest:List PV):∀(pre:List Nat) (s2:ϒ),(∀k∈pre,k<w*h)->∃Y,Ĩ (gN 2) h_ (pre.map nV ++ .int bad::rest) [.sh (Z1 w h T D),s1,s2]=.exc (m_ bad) Y
 | [],s2,_=>by
   have yw:=XV w h T D;have yh:=y_h w h T D;have hm:Ĵ (w:Int) (h:Int)=true:=ϙ (by lia) (by lia);refine⟨[.sh (Z1 w h T D),s1,~~~bad],?_⟩;rw[be,Ś,Ĩ];generalize Z1 w h T D=Yv at*;by_cases h0:0<=bad
   ·have h1:¬bad<(w:Int)*(h:Int):=λq=>hb ⟨h0,q⟩;simp[h_,yw,yh,hm,h0,h1,KR,putN,vB,m_]
   ·simp[h_,yw,yh,hm,h0,KR,putN,vB,m_]
 |k::pre,s2,hp=>by
  have yw:=XV w h T D;have yh:=y_h w h T D;have hm:Ĵ (w:Int) (h:Int)=true:=ϙ (by lia) (by lia);obtain⟨Y,e⟩:=Z2O X_ (T:=T) (D:=D) s1 hb rest pre (~~~k) (λx hx=>hp x (Ă _ hx));have h1:(k:Int)<(w:Int)*(h:Int):=by
   have:=hp k ĭ;have:((k:Nat):Int)<((w*h:Nat):Int):=Int.ofNat_lt.mpr this
   rwa [jX] at this
  refine⟨Y,?_⟩;rw[ý,kc,Ĩ];generalize Z1 w h T D=Yv at*;have es:h_ [.sh Yv,s1,~~~k]=.ok .nx [.sh Yv,s1,~~~k]:=by simp[h_,yw,yh,hm,h1]
  have g1:gN 2 (nV k) [.sh Yv,s1,s2]=some [.sh Yv,s1,~~~k]:=rfl;rw[g1];dsimp only;rw[es];exact e
def Z3z{w h:Nat}(X_:w<=60/\h<=1000){T:List Th}{D:List Dy}{bad:Int}(hb:¬(0<=bad/\bad<(w:Int)*(h:Int)))(rest:List PV){pre:List Nat}(hp:∀k∈pre,k<w*h):ia [.sh (Z1 w h T D),.bw (pre.map nV ++ .int bad::rest)]=.exc (m_ bad):=by
 obtain⟨Y,e⟩:=Z2O X_ (T:=T) (D:=D) (.bw (pre.map nV ++ .int bad::rest)) hb rest pre .no hp;generalize pre.map nV ++ .int bad::rest=L,Z1 w h T D=Yv at*;have ec:tm [.sh Yv,.bw L]=.exc (m_ bad):=by simp[tm,Am,Ï,e]
 generalize m_ bad=X at*;simp[ia,wj,Ï,ec]
def Z2P(l:List Int):db (l.map PV.int)=true/\qt (l.map PV.int)=0:=by
 induction l with
 |nil=>exact⟨by simp[db],by simp[qt]⟩
 |cons x l ih=>exact⟨by simp[db,eE,ih.1],by simp[qt,ze,ih.2]⟩
def Z1R(l:List Int):bv (.lst (l.map PV.int)) (.lst (l.map PV.int))=some (.bl false):=by rw[DY (by simp[eE,(Z2P l).1]) (by simp[ze,(Z2P l).2])]
def Z2Q{w h:Nat}(hw:1<=w/\w<=5)(hh:1<=h/\h<=5){T:List Th}(hT:T.length<=100)(Er:∀t∈T,BT t){O:List (List (Option P3))}(hl:O.length<=3){bad:Int}(hb:¬(0<=bad/\bad<(w:Int)*(h:Int))){pre:List Nat}(hp:∀k∈pre,k<w*h){rest L:List Int}(hL:L.map PV.int=pre.map nV ++ .int bad::rest.map .int)(z0 z1 z5 xh xi xj:ϒ) :
 FR.of (Tu [z0,z1,.sh (.tup [.int w,.int h]),.ow (T.map Z2),.ow (O.map bG),z5,.ow (L.map .int),~~~bad,.no,.no,.no,.no,.no,.no,xh,xi,xj])=.ret (.sh (.bl true)):=by
 have hg:∀t∈T,Zg t.1 t.2=true:=λt ht=>by obtain⟨kd,_,h3,h4⟩:=Er t ht;rw[h3];exact Z0M h4
 have e1:=Z1x (w:=w) (h:=h) (T:=T) (by lia) hg hl;have e2:=Z3z (w:=w) (h:=h) (by lia) (T:=T) (D:=nc O) hb (rest.map .int) hp;rw[<-hL] at e2;have e3:=Z26 bad;have e3:tH [.sh (.xc "NoStone" ["stone"] [.int bad]),~~~bad]=.ret (.sh (.bl true)):=e3;have hn:=Z1R L;unfold m_ at e2;generalize Z1 w h T (nc O)=Yv,L.map PV.int=LV,T.map Z2=TR,O.map bG=OV at*;simp[Tu,e1,e2,hn,zW,jd,jS,e3]
def Z4J{w:Nat}{T:List Th}{D:List Dy}{ns:List Nat}{c d:Nat}(h1:Cho w T D ns c)(h2:Cho w T D ns d):c=d:=by
 obtain⟨a1,a2,a3⟩:=h1;obtain⟨b1,b2,b3⟩:=h2;have p:=a3 d b1 b2;have q:=b3 c a1 a2;have e:Zd (λ_=>1) ns.length c=Zd (λ_=>1) ns.length d:=by lia
 have:=p.2 e.symm;have:=q.2 e;lia
def We(qs:List Nat):qs.map nV=(qs.map λ(k:Nat)=>(k:Int)).map PV.int:=by rw[ag];rfl
def Z50:Ş (.str "alike") (.str "choice")=some (.bl false):=XZ false (by decide +kernel) (by decide +kernel) (by decide +kernel)
def Z51:Ş (.str "choice") (.str "choice")=some (.bl true):=XZ true (by decide +kernel) (by decide +kernel) (by decide +kernel)
def Z29{w h:Nat}(hw:1<=w/\w<=5)(hh:1<=h/\h<=5){T:List Th}(hT:T.length<=100)(Er:∀t∈T,BT t){O:List (List (Option P3))}(hl:O.length<=3)(hO:∀os∈O,os.length<=5/\∀o∈os,sx o){qs:List Nat}(h8:qs.length<=8)(hq:∀k∈qs,k<w*h)(z0 z1 z5 xh xi xj:ϒ) :
 FR.of (Tu [z0,z1,.sh (.tup [.int w,.int h]),.ow (T.map Z2),.ow (O.map bG),z5,.ow (qs.map nV),.sh .non,.no,.no,.no,.no,.no,.no,xh,xi,xj])=.ret (.sh (.bl true)):=by
 have hg:∀t∈T,Zg t.1 t.2=true:=λt ht=>by obtain⟨kd,_,h3,h4⟩:=Er t ht;rw[h3];exact Z0M h4
 have wh:w*h<=5*5:=du hw.2 hh.2;have Qqq:Tq w h T:=⟨by lia,by lia,by lia,by lia,by lia,hg⟩;have hD:=Z4I hO;have Ep:(nc O).length<=3:=by rw[Z1O];exact hl
 have e1:=Z1x (w:=w) (h:=h) (T:=T) (by lia) hg hl;obtain⟨v,e2,h2⟩:=Z3g Qqq Ep (Z1P hD) h8 hq;obtain⟨u,e3,h3⟩:=Z4b (w:=w) (h:=h) (by lia) Er (by lia) Ep hD (λd=>(Z1P hD d).1) h8 (λk hk=>by have:=hq k hk;lia);rw[Z4H] at e3;have hn:=Z1R (qs.map λ(k:Nat)=>(k:Int));rw[<-We] at hn;rcases h2 with⟨k,hk,rfl⟩|⟨c,hc,hp,hm,rfl⟩
 ·rcases h3 with⟨k',xl,rfl⟩|⟨c',jN,rfl⟩
  ·rw[hk] at xl;cases xl;have es:=Z3t ((Z0 (nc O)).getD k (0,0,0));have i0:∀p,ã (OM p) (.int 0)=some (.str "alike"):=λ_=>rfl;have i0:=i0 ((Z0 (nc O)).getD k (0,0,0));generalize OM ((Z0 (nc O)).getD k (0,0,0))=Qqj,Z1 w h T (nc O)=Yv,qs.map nV=QS,T.map Z2=TR,O.map bG=OV at*;simp[Tu,Z27,e1,e2,hn,zW,jS,e3,es,i0,Z50]
  ·rw[Z1u w T _ jN.2.1] at hk;cases hk
 ·rcases h3 with⟨k',xl,rfl⟩|⟨c',jN,rfl⟩
  ·rw[Z1u w T _ hp] at xl;cases xl
  ·obtain rfl:=Z4J ⟨hc,hp,hm⟩ jN;have es:=Z3u c (Zd (λ_=>1) qs.length c) w T (nc O) h8;have e2:ia [.sh (Z1 w h T (nc O)),.bw (qs.map nV)]=.ret (.ot [.str "choice",.int c,.int (Zd (λ_=>1) qs.length c)] (Eo w T (nc O) qs)):=e2;have hp2:2 ^ qs.length<=256:=by
    have:=km (show 0<2 by lia) h8;simpa using this
   have gJ:(Eo w T (nc O) qs).length<16777216:=by simp[Eo];lia
   clear hm jN;generalize Zd (λ_=>1) qs.length c=S at*;generalize Eo w T (nc O) qs=PA,Z1 w h T (nc O)=Yv,qs.map nV=QS,T.map Z2=TR,O.map bG=OV at*;simp[Tu,Z27,e1,e2,hn,zW,jS,e3,es,Z51,gJ]
def Z3A(qs:List Nat)(lo hi:Option Int):∃ys:List Nat,jn (qs.map nV) lo hi=ys.map nV/\ys.length<=qs.length/\∀y∈ys,y∈qs:=by unfold jn;rw[<-List.map_drop,<-List.map_take];refine⟨_,rfl,by simp;lia,λy hy=>?_⟩;exact List.mem_of_mem_drop (List.mem_of_mem_take hy)
def Z4e{w h:Nat}(hw:1<=w/\w<=5)(hh:1<=h/\h<=5){qs:List Nat}(hl:qs.length<=8)(s:ϒ):Ķ (gN 1) Ě (È ć (Â 1) (È û (È ã (Â 0) (Ä 0)) (È ã (Â 0) (Ä 1)))) (qs.map nV) [.sh (.tup [.int w,.int h]),s] []=some ((qs.map λq=>q % (w*h)).map nV):=by
 have c:=Ĕ (g:=gN 1) (mt:=Ě) (me:=È ć (Â 1) (È û (È ã (Â 0) (Ä 0)) (È ã (Â 0) (Ä 1)))) nV (λq=>nV (q % (w*h))) (λY=>∃s,Y=[.sh (.tup [.int w,.int h]),s]) qs [.sh (.tup [.int w,.int h]),s] [] ⟨_,rfl⟩ (by simp;lia) (by
  rintro q _ Y ⟨s,rfl⟩;have hp:0<w*h:=oV (by lia) (by lia);have mo:Ĵ (w:Int) (h:Int)=true:=ϙ (by lia) (by lia);have hm:ć (.int (q:Int)) (.int ((w:Int)*h))=some (.int ((q % (w*h):Nat):Int)):=by rw[<-jX,cM,if_pos (by simp;lia),iy _ (by lia)];simp
  unfold nV;generalize ((q % (w*h):Nat):Int)=r at*;exact⟨[.sh (.tup [.int w,.int h]),~~~q],[.sh (.tup [.int w,.int h]),~~~q],[.sh (.tup [.int w,.int h]),~~~q],by simp,by simp,by simp[mo,hm,Ss,Ts,-cM],_,rfl⟩)
 rw[c,ag];rfl
def Z3B{w h:Nat}(hw:1<=w/\w<=5)(hh:1<=h/\h<=5){qs:List Nat}(hl:qs.length<=8)(z0 z1 z3 z4 z5 z7 z8 z9 oh AZ A_ A0 xh xi xj:ϒ):∃ys:List Nat,X5 [z0,z1,.sh (.tup [.int w,.int h]),z3,z4,z5,.ow (qs.map nV),z7,z8,z9,oh,AZ,A_,A0,xh,xi,xj]=.ok .nx [z0,z1,.sh (.tup [.int w,.int h]),z3,z4,z5,.ow (ys.map nV),z7,z8,z9,oh,AZ,A_,A0,xh,xi,xj]/\ys.length<=8/\∀y∈ys,y<w*h:=by
 have hp:0<w*h:=oV (by lia) (by lia);have ha:Ą (.lst (qs.map nV)) (.lst [.int 0,.int 1,.int 2,.int 3,.int 4,.int 5,.int 6,.int 7])=some (.ow ((qs ++ [0,1,2,3,4,5,6,7]).map nV)):=by rw[rT (by simp;lia),š];rfl
 have hc:jn ((qs ++ [0,1,2,3,4,5,6,7]).map nV) none (some 8)=((qs ++ [0,1,2,3,4,5,6,7]).take 8).map nV:=by unfold jn;rw[show(some (8:Int))=some ((8:Nat):Int) from rfl,HT.IV];show List.take (min 8 _-0) (List.drop 0 _)=_;rw[List.map_take,List.drop_zero,Nat.min_eq_left (by simp)]
 have hl8:((qs ++ [0,1,2,3,4,5,6,7]).take 8).length<=8:=by rw[oK];lia
 have hm:=Z4e hw hh hl8 .no;refine⟨((qs ++ [0,1,2,3,4,5,6,7]).take 8).map λq=>q % (w*h),?_,by simpa using hl8,?_⟩
 ·generalize ((qs ++ [0,1,2,3,4,5,6,7]).take 8)=TK at*;generalize (TK.map λq=>q % (w*h)).map nV=R at*;generalize TK.map nV=R2,(qs ++ [0,1,2,3,4,5,6,7]).map nV=R3,qs.map nV=R4 at*;simp[X5,ha,Qp,hc,bt,av,hm]
 ·intro y hy;obtain⟨q,_,rfl⟩:=aE.mp hy;exact Nat.mod_lt _ hp
def Z2R(W i:Int)(h0:0<=i)(h6:i<6)(hW:1<=W/\W<=25):∃b:Int,ã (.lst [.int (-1),.int W,.int 1000000,.int (-1000000),.int (-2),.int (W+1)]) (.int i)=some (.int b)/\¬(0<=b/\b<W):=by
 have:i=0\/i=1\/i=2\/i=3\/i=4\/i=5:=by lia
 rcases this with rfl|rfl|rfl|rfl|rfl|rfl
 ·exact⟨-1,rfl,by lia⟩
 ·exact⟨W,rfl,by lia⟩
 ·exact⟨1000000,rfl,by lia⟩
 ·exact⟨-1000000,rfl,by lia⟩
 ·exact⟨-2,rfl,by lia⟩
 ·exact⟨W+1,rfl,by lia⟩
def Z4K(ns:List Int){f:Int}{w h:Nat}(hw:1<=w/\w<=5)(hh:1<=h/\h<=5){qs:List Nat}(hl:qs.length<=8)(hq:∀k∈qs,k<w*h)(z3 z4 z5 z7 z8 z9 oh AZ A_ A0 xh xi xj:ϒ):∃(bad:Int) (pre:List Nat) (rest L:List Int) (a b c:ϒ),X4 [.sh (.lst (ns.map .int)),~~~f,.sh (.tup [.int w,.int h]),z3,z4,z5,.ow (qs.map nV),z7,z8,z9,oh,AZ,A_,A0,xh,xi,xj]=.ok .nx [.sh (.lst (ns.map .int)),~~~f,.sh (.tup [.int w,.int h]),z3,z4,z5,.ow (L.map .int),~~~bad,z8,z9,oh,AZ,A_,A0,a,b,c]/\¬(0<=bad/\bad<(w:Int)*(h:Int))/\(∀k∈pre,k<w*h)/\L.map PV.int=pre.map nV ++ .int bad::rest.map .int:=by
 have k13:aU [.sh (.lst (ns.map .int)),~~~13]=.ret (~~~(ns.getD 13 0)):=ZE ns 13;have k14:aU [.sh (.lst (ns.map .int)),~~~14]=.ret (~~~(ns.getD 14 0)):=ZE ns 14;generalize ns.getD 13 0=c13,ns.getD 14 0=VC at*;have wh:w*h<=5*5:=du hw.2 hh.2;have hp:0<w*h:=oV (by lia) (by lia);have mo:Ĵ (w:Int) (h:Int)=true:=ϙ (by lia) (by lia);have hW:1<=(w:Int)*(h:Int)/\(w:Int)*(h:Int)<=25:=by rw[<-jX];lia
 obtain⟨bad,x1,hb⟩:=Z2R ((w:Int)*h) (f / 324000 % 6) (by lia) (by lia) hW;obtain⟨b2,x2,_⟩:=Z2R ((w:Int)*h) (VC % 6) (by lia) (by lia) hW;obtain⟨W,hWW⟩:∃W,(w:Int)*(h:Int)=W:=⟨_,rfl⟩;rw[hWW] at x1 x2 hb ⊢;have md1:ć (.int (f / 324000)) (.int 6)=some (.int (f / 324000 % 6)):=by simp
 have md2:ć (.int VC) (.int 6)=some (.int (VC % 6)):=by simp
 have md3:ć (.int (f / 1944000)) (.int 2)=some (.int (f / 1944000 % 2)):=by simp
 obtain⟨ys,hy,hyl,hym⟩:=Z3A qs none (some 6);obtain⟨at_,Eh⟩:∃at_,ć (.int c13) (.int ((ys.length:Int)+1))=some (.int at_):=⟨_,by rw[cM,if_pos (by simp;lia)]⟩;obtain⟨pre,A5,ZbF,Zba⟩:=Z3A ys none (some at_);obtain⟨post,OO,ZbG,_⟩:=Z3A ys (some at_) none;obtain⟨m,hm⟩:∃m:Nat,f / 1944000 % 2=(m:Int):=⟨(f / 1944000 % 2).toNat,by lia⟩;have hm1:m<=1:=by lia
 have i1:Ą (.lst (pre.map nV)) (.lst [.int bad])=some (.ow (pre.map nV ++ [.int bad])):=rT (by simp;lia);have i2:Ą (.lst (pre.map nV ++ [.int bad])) (.lst (post.map nV))=some (.ow (pre.map nV ++ [.int bad]++post.map nV)):=rT (by simp;lia);have i3:Ą (.lst (pre.map nV ++ [.int bad]++post.map nV)) (.lst ((Ï m b2).map .int))=some (.ow (pre.map nV ++ [.int bad]++post.map nV++(Ï m b2).map .int)):=rT (by simp;lia);have Wf:(ys.map nV).length=ys.length:=by simp
 refine⟨bad,pre,(post.map λ(k:Nat)=>(k:Int))++Ï m b2,(pre.map λ(k:Nat)=>(k:Int)) ++ [bad]++(post.map λ(k:Nat)=>(k:Int))++Ï m b2,.ow [.int (-1),.int W,.int 1000000,.int (-1000000),.int (-2),.int (W+1)],~~~at_,.ow ((Ï m b2).map .int),?_,hb,λk hk=>hq k (hym k (Zba k hk)),?_⟩
 ·have hL:((pre.map fun(k:Nat)=>(k:Int)) ++ [bad]++(post.map fun(k:Nat)=>(k:Int))++Ï m b2).map PV.int=pre.map nV ++ [.int bad]++post.map nV++(Ï m b2).map .int:=by
   rw[š,š,š,<-We,<-We];rfl
  rw[hL];have hm2:m=0\/m=1:=by lia
  rcases hm2 with rfl|rfl
  ·generalize pre.map nV=R1,post.map nV=R2,ys.map nV=R3,qs.map nV=R4,ns.map PV.int=NS at*;simp at hm i3;simp[X4,Ss,Ts,mo,hWW,md1,md2,md3,x1,Qp,hy,k13,Wf,Eh,k14,x2,hm,A5,OO,i1,i2,i3,-cM,-ZF]
  ·generalize pre.map nV=R1,post.map nV=R2,ys.map nV=R3,qs.map nV=R4,ns.map PV.int=NS at*;simp at hm i3;simp[X4,Ss,Ts,mo,hWW,md1,md2,md3,x1,Qp,hy,k13,Wf,Eh,k14,x2,hm,A5,OO,i1,i2,i3,-cM,-ZF]
 ·rw[š,š,š,š,<-We,<-We];simp
def Z1z(ns:List Int){f:Int}{w h:Nat}(hw:1<=w/\w<=5)(hh:1<=h/\h<=5){T:List Th}(hT:T.length<=100)(Er:∀t∈T,BT t){O:List (List (Option P3))}(hl:O.length<=3)(hO:∀os∈O,os.length<=5/\∀o∈os,sx o){qs:List Nat}(h8:qs.length<=8)(hq:∀k∈qs,k<w*h)(z5:ϒ) :
 FR.of (Wd [.sh (.lst (ns.map .int)),~~~f,.sh (.tup [.int w,.int h]),.ow (T.map Z2),.ow (O.map bG),z5,.ow (qs.map nV),.no,.no,.no,.no,.no,.no,.no,.no,.no,.no])=.ret (.sh (.bl true)):=by
 by_cases h5:f / 54000 % 6=5
 ·obtain⟨bad,pre,rest,L,a,b,c,e,hb,hp,hL⟩:=Z4K ns (f:=f) hw hh h8 hq (.ow (T.map Z2)) (.ow (O.map bG)) z5 (.sh .non) .no .no .no .no .no .no .no .no .no;have gz:=Z2Q hw hh hT Er hl hb hp hL (.sh (.lst (ns.map .int))) (~~~f) z5 a b c;generalize L.map PV.int=LV,qs.map nV=QS,T.map Z2=TR,O.map bG=OV,ns.map PV.int=NS at*;simp[Wd,h5,e];simpa using gz
 ·have gz:=Z29 hw hh hT Er hl hO h8 hq (.sh (.lst (ns.map .int))) (~~~f) z5 .no .no .no;generalize qs.map nV=QS,T.map Z2=TR,O.map bG=OV,ns.map PV.int=NS at*;simp[Wd,h5];simpa using gz
def Zy{a b:M Fl}{Y Y1:Ĝ}(h:a Y=.ok .nx Y1):æ a b Y=b Y1:=by simp[h]
def Z3C:M Fl:=(ü 6 (ĳ [0,2] 1 (Œ ϑ (Ç (È ć (È Ļ (Â 1) (Ä 9000)) (Ä 6)) â)) (gN 2) Ě (È ć (á (ç aU (É 0 (ô (á (Ċ Ą (Ä 8) (Â 2))) Þ)))) (È û (È ã (Â 1) (Ä 0)) (È ã (Â 1) (Ä 1))))))
def Sv:M Fl:=(bq (gR (aN (È Ş (È ć (È Ļ (Â 1) (Ä 108000)) (Ä 8)) (Ä 3))) (aN (È Ş (ar aZ (Ç (Â 4) â)) (Ä 1))))
     X5
     bF)
def Z3D:Z28=æ Z3C (æ Sv Wd):=rfl
def Z1A(ns:List Int){f:Int}{w h:Nat}(hw:1<=w/\w<=5)(hh:1<=h/\h<=5){T:List Th}(hT:T.length<=100)(Er:∀t∈T,BT t){O:List (List (Option P3))}(hl:O.length<=3)(hO:∀os∈O,os.length<=5/\∀o∈os,sx o)(z5:ϒ) :
 FR.of (Z28 [.sh (.lst (ns.map .int)),~~~f,.sh (.tup [.int w,.int h]),.ow (T.map Z2),.ow (O.map bG),z5,.no,.no,.no,.no,.no,.no,.no,.no,.no,.no,.no])=.ret (.sh (.bl true)):=by
 obtain⟨n,hn⟩:∃n:Nat,f / 9000 % 6=(n:Int):=⟨(f / 9000 % 6).toNat,by lia⟩;have r1:=Zt (n:=n) (by lia);obtain⟨qs,q1,q2,q3⟩:=Z1Q ns hw hh (Ò n) [] .no (by simp;lia);rw[Ś] at q1;have q2:qs.length<=8:=by simp at q2;lia
 obtain⟨ys,y1,y2,y3⟩:=Z3B hw hh q2 (.sh (.lst (ns.map .int))) (~~~f) (.ow (T.map Z2)) (.ow (O.map bG)) z5 .no .no .no .no .no .no .no .no .no .no;have f1:=Z1z ns (f:=f) hw hh hT Er hl hO q2 q3 z5;have f2:=Z1z ns (f:=f) hw hh hT Er hl hO y2 y3 z5;have IC:((O.map bG).length:Int)=(O.length:Int):=by simp
 have eA:Z3C [.sh (.lst (ns.map .int)),~~~f,.sh (.tup [.int w,.int h]),.ow (T.map Z2),.ow (O.map bG),z5,.no,.no,.no,.no,.no,.no,.no,.no,.no,.no,.no]=.ok .nx [.sh (.lst (ns.map .int)),~~~f,.sh (.tup [.int w,.int h]),.ow (T.map Z2),.ow (O.map bG),z5,.ow (qs.map nV),.no,.no,.no,.no,.no,.no,.no,.no,.no,.no]:=by generalize qs.map nV=QS,T.map Z2=TR,O.map bG=OV,ns.map PV.int=NS at*;clear f1 f2 y1;simp[Z3C,hn,r1,bt,av,q1]
 rw[Z3D,Zy eA];clear eA q1;by_cases h8:f / 108000 % 8=3
 ·by_cases h1:(O.length:Int)=1
  ·have eB:Sv [.sh (.lst (ns.map .int)),~~~f,.sh (.tup [.int w,.int h]),.ow (T.map Z2),.ow (O.map bG),z5,.ow (qs.map nV),.no,.no,.no,.no,.no,.no,.no,.no,.no,.no]=.ok .nx [.sh (.lst (ns.map .int)),~~~f,.sh (.tup [.int w,.int h]),.ow (T.map Z2),.ow (O.map bG),z5,.ow (ys.map nV),.no,.no,.no,.no,.no,.no,.no,.no,.no,.no]:=by
    rw[h1] at IC;clear f1 f2;generalize ys.map nV=YS,qs.map nV=QS,T.map Z2=TR,O.map bG=OV,ns.map PV.int=NS at*;have Zbt:OV.length=1:=by lia
    simp[Sv,h8,Zbt,y1]
   rw[Zy eB];exact f2
  ·have eB:Sv [.sh (.lst (ns.map .int)),~~~f,.sh (.tup [.int w,.int h]),.ow (T.map Z2),.ow (O.map bG),z5,.ow (qs.map nV),.no,.no,.no,.no,.no,.no,.no,.no,.no,.no]=.ok .nx [.sh (.lst (ns.map .int)),~~~f,.sh (.tup [.int w,.int h]),.ow (T.map Z2),.ow (O.map bG),z5,.ow (qs.map nV),.no,.no,.no,.no,.no,.no,.no,.no,.no,.no]:=by
    rw[<-IC] at h1;clear f1 f2 y1;generalize qs.map nV=QS,T.map Z2=TR,O.map bG=OV,ns.map PV.int=NS at*;have Kq:¬OV.length=1:=by lia
    simp[Sv,h8,h1,Kq]
   rw[Zy eB];exact f1
 ·have eB:Sv [.sh (.lst (ns.map .int)),~~~f,.sh (.tup [.int w,.int h]),.ow (T.map Z2),.ow (O.map bG),z5,.ow (qs.map nV),.no,.no,.no,.no,.no,.no,.no,.no,.no,.no]=.ok .nx [.sh (.lst (ns.map .int)),~~~f,.sh (.tup [.int w,.int h]),.ow (T.map Z2),.ow (O.map bG),z5,.ow (qs.map nV),.no,.no,.no,.no,.no,.no,.no,.no,.no,.no]:=by
   clear f1 f2 y1;generalize qs.map nV=QS,T.map Z2=TR,O.map bG=OV,ns.map PV.int=NS at*;simp[Sv,h8]
  rw[Zy eB];exact f1
def Z3E:M Fl:=(ü 1 (Ń (È ć (á (ç aU (É 0 (ô (Ä 0) Þ)))) (È cU (Ä 10) (Ä 9)))))
def Z3F:M Fl:=(ü 2 (Ń (ķ (Ç (á (Ċ Ą (Ä 1) (È ć (Â 1) (Ä 5)))) (Ç (á (Ċ Ą (Ä 1) (È ć (È Ļ (Â 1) (Ä 5)) (Ä 5)))) â)))))
def Z3G:M Fl:=(ü 3 (ç yu (É 0 (ô (Ä 1) (ô (È ć (È Ļ (Â 1) (Ä 25)) (Ä 5)) Þ)))))
def Z3H:M Fl:=(ü 4 (϶ â))
def Z3I:M Fl:=(br (Œ ϑ (Ç (á (Ċ Ą (Ä 1) (È ć (È Ļ (Â 1) (Ä 3000)) (Ä 3)))) â)) (gN 5) qY)
def Wg:M Fl:=(bq (aN (È Ş (È ć (È Ļ (Â 1) (Ä 3888000)) (Ä 16)) (Ä 9)))
 (ü 4 (϶ â))
 bF)
def Z52:Aw=æ Z3E (æ Z3F (æ Z3G (æ Z3H (æ Z3I (æ Wg (Z28)))))):=rfl
def Z4L{l:fA}{w:ß}{K:Ñ}{mg:Str->Option Á}{fa:À}{a:wl}(T:Tx K mg a)(hfa:mg "law" =some (.ref fa)):∃fd:ě,(∀(s:Å) (v:Á),dB s fd ⟨[v],[]⟩ [("_law_script",v)])/\∀base:Õ,K.In base->base.Ns ū mg->∃cm,Ĉ l.prog w K mg base (ż l.prog w) 12 fa fd ["_law_script"] (ſ ⟨K,cm⟩ 1 qZ):=by have e:=hfa.symm.trans T.Hm.m;cases e;exact⟨a.Hi,λs v=>T.Hm.bb s [v] rfl,λbase _ _=>⟨_,Sr T⟩⟩
def Z3J(ns:List Int)(hn:ns.length<=63):qZ [.sh (.lst (ns.map .int))]=.ret (.sh (.bl true)):=by
 have k0:aU [.sh (.lst (ns.map .int)),~~~0]=.ret (~~~(ns.getD 0 0)):=ZE ns 0;generalize ns.getD 0 0=c at k0;obtain⟨f,hf⟩:∃f,c % 1000000000=f:=⟨_,rfl⟩;have hf0:0<=f:=by lia
 obtain⟨w,hw⟩:∃w:Nat,1+f % 5=(w:Int):=⟨(1+f % 5).toNat,by lia⟩;obtain⟨h,hh⟩:∃h:Nat,1+f / 5 % 5=(h:Int):=⟨(1+f / 5 % 5).toNat,by lia⟩;obtain⟨m,hm⟩:∃m:Nat,f / 25 % 5=(m:Int):=⟨(f / 25 % 5).toNat,by lia⟩;obtain⟨d,hd⟩:∃d:Nat,1+f / 3000 % 3=(d:Int):=⟨(1+f / 3000 % 3).toNat,by lia⟩;have r2:=Zt (n:=d) (by lia);obtain⟨T,e1,e2,e3⟩:=Z3y ns (m:=m) (by lia);obtain⟨O,z5,d1,d2,d3⟩:=Z1w ns (f:=f) (.sh (.tup [.int w,.int h])) (.ow (T.map Z2)) .no .no .no .no .no .no .no .no .no .no .no (Ò d) [] .no (λk hk=>by have:=ĸ.mp hk;lia) (by simp;lia) (by simp);have d2:O.length<=3:=by simp at d2;lia
 have f1:=Z1A ns (f:=f) (w:=w) (h:=h) (by lia) (by lia) (T:=T) (by lia) e3 d2 d3 z5;have f2:=Z1A ns (f:=f) (w:=w) (h:=h) (by lia) (by lia) (T:=T) (by lia) e3 (O:=[]) (by simp) (by simp) z5;rw[be] at f2 d1;have s1:Z3E [.sh (.lst (ns.map .int)),.no,.no,.no,.no,.no,.no,.no,.no,.no,.no,.no,.no,.no,.no,.no,.no]=.ok .nx [.sh (.lst (ns.map .int)),~~~f,.no,.no,.no,.no,.no,.no,.no,.no,.no,.no,.no,.no,.no,.no,.no]:=by clear f1 f2 d1;generalize ns.map PV.int=NS,T.map Z2=TR,O.map bG=OV at*;simp[Z3E,k0,hf,-dh,-ZF]
 have s2:Z3F [.sh (.lst (ns.map .int)),~~~f,.no,.no,.no,.no,.no,.no,.no,.no,.no,.no,.no,.no,.no,.no,.no]=.ok .nx [.sh (.lst (ns.map .int)),~~~f,.sh (.tup [.int w,.int h]),.no,.no,.no,.no,.no,.no,.no,.no,.no,.no,.no,.no,.no,.no]:=by clear f1 f2 d1;generalize ns.map PV.int=NS,T.map Z2=TR,O.map bG=OV at*;simp[Z3F,hw,hh,-dh,-ZF]
 have s3:Z3G [.sh (.lst (ns.map .int)),~~~f,.sh (.tup [.int w,.int h]),.no,.no,.no,.no,.no,.no,.no,.no,.no,.no,.no,.no,.no,.no]=.ok .nx [.sh (.lst (ns.map .int)),~~~f,.sh (.tup [.int w,.int h]),.ow (T.map Z2),.no,.no,.no,.no,.no,.no,.no,.no,.no,.no,.no,.no,.no]:=by clear f1 f2 d1;generalize ns.map PV.int=NS,T.map Z2=TR,O.map bG=OV at*;simp[Z3G,hm,e1,-dh,-ZF]
 have s4:Z3H [.sh (.lst (ns.map .int)),~~~f,.sh (.tup [.int w,.int h]),.ow (T.map Z2),.no,.no,.no,.no,.no,.no,.no,.no,.no,.no,.no,.no,.no]=.ok .nx [.sh (.lst (ns.map .int)),~~~f,.sh (.tup [.int w,.int h]),.ow (T.map Z2),.ow [],.no,.no,.no,.no,.no,.no,.no,.no,.no,.no,.no,.no]:=by clear f1 f2 d1;generalize ns.map PV.int=NS,T.map Z2=TR,O.map bG=OV at*;simp[Z3H,-dh,-ZF]
 have s5:Z3I [.sh (.lst (ns.map .int)),~~~f,.sh (.tup [.int w,.int h]),.ow (T.map Z2),.ow [],.no,.no,.no,.no,.no,.no,.no,.no,.no,.no,.no,.no]=.ok .nx [.sh (.lst (ns.map .int)),~~~f,.sh (.tup [.int w,.int h]),.ow (T.map Z2),.ow (O.map bG),z5,.no,.no,.no,.no,.no,.no,.no,.no,.no,.no,.no]:=by clear f1 f2;generalize ns.map PV.int=NS,T.map Z2=TR,O.map bG=OV at*;simp[Z3I,hd,r2,d1,-dh,-ZF]
 have Ko:qZ [.sh (.lst (ns.map .int))]=FR.of (Aw [.sh (.lst (ns.map .int)),.no,.no,.no,.no,.no,.no,.no,.no,.no,.no,.no,.no,.no,.no,.no,.no]):=by simp[qZ,Ï]
 rw[Ko,Z52,Zy s1,Zy s2,Zy s3,Zy s4,Zy s5];by_cases h9:f / 3888000 % 16=9
 ·have s6:Wg [.sh (.lst (ns.map .int)),~~~f,.sh (.tup [.int w,.int h]),.ow (T.map Z2),.ow (O.map bG),z5,.no,.no,.no,.no,.no,.no,.no,.no,.no,.no,.no]=.ok .nx [.sh (.lst (ns.map .int)),~~~f,.sh (.tup [.int w,.int h]),.ow (T.map Z2),.ow [],z5,.no,.no,.no,.no,.no,.no,.no,.no,.no,.no,.no]:=by
   clear f1 f2 d1 s1 s2 s3 s4 s5;generalize ns.map PV.int=NS,T.map Z2=TR,O.map bG=OV at*;simp[Wg,h9]
  rw[Zy s6];exact f2
 ·have s6:Wg [.sh (.lst (ns.map .int)),~~~f,.sh (.tup [.int w,.int h]),.ow (T.map Z2),.ow (O.map bG),z5,.no,.no,.no,.no,.no,.no,.no,.no,.no,.no,.no]=.ok .nx [.sh (.lst (ns.map .int)),~~~f,.sh (.tup [.int w,.int h]),.ow (T.map Z2),.ow (O.map bG),z5,.no,.no,.no,.no,.no,.no,.no,.no,.no,.no,.no]:=by
   clear f1 f2 d1 s1 s2 s3 s4 s5;generalize ns.map PV.int=NS,T.map Z2=TR,O.map bG=OV at*;simp[Wg,h9]
  rw[Zy s6];exact f1
def Z5k{l:fA}{q:î}{jE:List Str}{XP:(Str->Option Á)->Õ->Prop}{YP:ß->Õ->Prop}{d:DefRec}{K:Params->Ñ}(hn:l.most=some 63)(SG:d.params.defaults=[])
 (hY:∀(w:ß) (h:Õ),YP w h->(K w.params).In h)
 (F:∀(w:ß) (mg:Str→Option Á) (fa:À) (h:Õ),(K w.params).In h→h.Ns ū mg→mg d.name=some (.ref fa)→
   ∃fd:ě,(∀(s:Å) (u:Á),dB s fd ⟨[u],[]⟩ [("_law_script",u)])/\∀base:Õ,(K w.params).In base->base.Ns ū mg->∃cm,Ĉ l.prog w (K w.params) mg base (ż l.prog w) 12 fa fd ["_law_script"] (ſ ⟨K w.params,cm⟩ 1 qZ))
 (hnt:∀w:ß,pL (K w.params)=true)(hrec:∀y,y∈lams->∃d,(oW q).find? (λe=>e.name== y)=some d) :
 pK q jE XP YP l.row.toRowW d [] (λf vs=>ph f vs):=
 P.DT (k:=12) (x:= "_law_script") (m:=qZ) hn SG ⟨rfl,by decide,by decide⟩ hY F Z3J (hnt:=λ_=>hnt) (hrec:=hrec)
end
end T
namespace PySem.W.Fast
def tw2802034319559169273:=Nat
def tw5564639386789590409:=Nat
def tw17075518206170636543:=Nat
def tw5394267957965438520:=Nat
def tw16938644084416281556:=Nat
def tw827496066904128435:=Nat
def tw9969699289981758974:=Nat
def tw13728631368861898666:=Nat
def tw18274674334799914982:=Nat
def tw6324038462582292388:=Nat
def tw16169763619176943526:=Nat
def tw4601165252768929047:=Nat
def tw16391636845441196997:=Nat
def tw4874879642845476416:=Nat
def tw12591450857176669155:=Nat
def tw17586426009967020218:=Nat
def tw2218279138820797194:=Nat
def tw7612318311453727995:=Nat
def tw16188693225508536223:=Nat
def tw13897604113977718476:=Nat
def tw10123301451516107450:=Nat
def tw532386367231534295:=Nat
def tw12186947988977377780:=Nat
def tw11876307469194795984:=Nat
def tw12286801517643424592:=Nat
def tw17610669548454030986:=Nat
def tw267266311983397549:=Nat
def tw12302188689671413746:=Nat
def tw11743910786014566952:=Nat
def tw9269324487440527428:=Nat
def tw16061452285041306754:=Nat
def tw5055622559506777840:=Nat
def tw7111261534399787514:=Nat
def tw6716240400215674122:=Nat
def tw6897355564113197115:=Nat
def tw18010733887542895776:=Nat
def tw11732273188881767247:=Nat
def tw17562113672994893893:=Nat
def tw5973343214770714987:=Nat
def tw15583146688562726938:=Nat
def tw11555116755848324621:=Nat
def tw9464912811443208835:=Nat
def tw12551206276543502692:=Nat
def tw7111784352020797172:=Nat
def tw1338374033263012702:=Nat
def tw9292416657760879937:=Nat
def tw7322572403753415261:=Nat
def tw15752096715438553016:=Nat
def tw9906524686770589277:=Nat
def tw16153493873909190971:=Nat
def tw12418823738424445898:=Nat
def tw10840264900509610184:=Nat
def tw13979600875176234532:=Nat
def tw4262447799210751340:=Nat
def tw14307984131263341084:=Nat
def tw13297021652285423958:=Nat
def tw15110478959895808086:=Nat
def tw11800244608914263294:=Nat
def tw2328690198290715887:=Nat
def tw5984248471438787013:=Nat
def tw16162088340344236558:=Nat
def tw11024147904145301662:=Nat
def tw4401515337022069941:=Nat
def tw12126889322795956893:=Nat
def tw14781339186292219453:=Nat
def tw6428815285635477305:=Nat
def tw1388747789032540981:=Nat
def tw12896055569585539439:=Nat
def tw3445550653061917563:=Nat
def tw8479651656236020223:=Nat
def tw6491292684450752311:=Nat
def tw13334972666132191942:=Nat
def tw33061466510906960:=Nat
def tw1278633326603650884:=Nat
def tw5228548670699862357:=Nat
def tw1825456175806267305:=Nat
def tw4442824721619413661:=Nat
def tw9133041366447213439:=Nat
def tw5567198734502602636:=Nat
def tw1219238782993580682:=Nat
def tw888979169054033915:=Nat
def tw10873516495907524649:=Nat
def tw10179280740946626528:=Nat
def tw12691172939519856079:=Nat
def tw8816561236058256197:=Nat
def tw14291916204695525100:=Nat
def tw10186271432329406085:=Nat
def tw16056771494884441180:=Nat
def tw490521197586757300:=Nat
def tw10657866794092551468:=Nat
def tw2507183658023791511:=Nat
def tw10850579335914510262:=Nat
def tw9874734779372743028:=Nat
def tw6577646428228557317:=Nat
def tw5239595518365878767:=Nat
def tw9107234608016371316:=Nat
def tw15288829987885579673:=Nat
def tw6341324766484798046:=Nat
def tw14404833951844495245:=Nat
def tw13377663563175347145:=Nat
def tw13754128146770288729:=Nat
def tw2732130856579149925:=Nat
def tw5000459328294590226:=Nat
def tw4684349948076947465:=Nat
def tw6465071344966405080:=Nat
def tw8690358028001064771:=Nat
def tw4396487920585818418:=Nat
def tw6523903648843273958:=Nat
def tw6287108586194828709:=Nat
def tw17965237441489244492:=Nat
def tw1863429429152493597:=Nat
def tw2506329068097887216:=Nat
def tw11400219281467796512:=Nat
def tw16527076707258977848:=Nat
def tw11482551224162062773:=Nat
def tw15828554458579858415:=Nat
def tw7052029741249801192:=Nat
def tw2408872433079928917:=Nat
def tw11351135696514496348:=Nat
def tw10765968111135164509:=Nat
def tw8813784435534411880:=Nat
def tw9242059792167828628:=Nat
def tw10079109429619707732:=Nat
def tw9665760726068513632:=Nat
def tw1204743140403492090:=Nat
def tw13793664588468453413:=Nat
def tw13165534334041221361:=Nat
def tw4161523317474208876:=Nat
def tw6113688982331928180:=Nat
def tw2923895054242559456:=Nat
def tw9392571638286566747:=Nat
def tw3636272121038719900:=Nat
def tw9876412336647690124:=Nat
def tw4080880707264581082:=Nat
def tw8766195870027741428:=Nat
def tw6786806761455794743:=Nat
def tw5901570170485525612:=Nat
def tw1688348332494703055:=Nat
def tw13475015158237526085:=Nat
def tw7829703164381427046:=Nat
def tw15659636922458440735:=Nat
def tw7184782716785845466:=Nat
def tw7733745683121951145:=Nat
def tw15158663804162179636:=Nat
def tw1210448319213410398:=Nat
def tw8934129835570363164:=Nat
def tw10413752803753620217:=Nat
def tw11175272360665193219:=Nat
def tw2106355220216989051:=Nat
def tw16545543918251056955:=Nat
def tw13201132036185984752:=Nat
def tw14680191359967557164:=Nat
def tw8648584340000223514:=Nat
def tw10416033533889559284:=Nat
def tw1293537187926039498:=Nat
def tw5739462785314568973:=Nat
def tw14637842100809531172:=Nat
def tw9229998202789753304:=Nat
def tw568456412946689952:=Nat
def tw6312913089673143028:=Nat
def tw8026400498660984835:=Nat
def tw4999106831355855642:=Nat
def tw4956734556472691533:=Nat
def tw8284083652540021206:=Nat
def tw12042932115655837691:=Nat
def tw5321765864261114607:=Nat
def tw7320784149355640355:=Nat
def tw13731702822060968163:=Nat
def tw9764885707443923882:=Nat
def tw13364607376202823608:=Nat
def tw11542893550368413280:=Nat
def tw4216192876165830371:=Nat
def tw2173704819938944185:=Nat
def tw7067781636771276797:=Nat
def tw9641279994853854161:=Nat
def tw13688326430196511525:=Nat
def tw1762299741256046410:=Nat
def tw1982836758949109751:=Nat
def tw15185363514035527317:=Nat
def tw15510397234738734425:=Nat
def tw3138985347389544552:=Nat
def tw4380745284857558167:=Nat
def tw9451674089871516436:=Nat
def tw3257974870670883369:=Nat
def tw15748376510536951793:=Nat
def tw13771682187977452702:=Nat
def tw16643856870364161338:=Nat
def tw13091430968963648891:=Nat
def tw6760459109123724300:=Nat
def tw5352064807142938624:=Nat
def tw15619420815426802257:=Nat
def tw1442584431880819593:=Nat
def tw6076989302244573279:=Nat
def tw17049995861507871088:=Nat
def tw12553114401987325919:=Nat
def tw9948983580595481041:=Nat
def tw259871234238018707:=Nat
def tw14524392991246419382:=Nat
def tw7318262510430698084:=Nat
def tw17210727261183669053:=Nat
def tw13315948081914163624:=Nat
def tw10365310024040373355:=Nat
def tw16319566055204189388:=Nat
def tw15813726009470517976:=Nat
def tw4807377701398275442:=Nat
def tw10914252541690812474:=Nat
def tw8827139500381322462:=Nat
def tw10226548265668739764:=Nat
def tw7796455542367008653:=Nat
def tw1631832185302200856:=Nat
def tw18311893363369390031:=Nat
def tw11854506713602608543:=Nat
def tw12924398430136955661:=Nat
def tw4276070069904984607:=Nat
def tw10726421045818112923:=Nat
def tw3695562427064728087:=Nat
def tw11880660104979216967:=Nat
def tw15035930933715021972:=Nat
def tw9252002505019991926:=Nat
def tw10536813568337811465:=Nat
def tw8651950921082674355:=Nat
def tw14333619495361823257:=Nat
def tw8296758008205122164:=Nat
def tw5684354017803772416:=Nat
def tw3951608449116263916:=Nat
def tw11062984867671158757:=Nat
def tw4190408809461187002:=Nat
def tw6370160857420404040:=Nat
def tw8463155049126149948:=Nat
def tw3231880197476935133:=Nat
def tw16857497812477079817:=Nat
def tw17971844871451615859:=Nat
def tw8807970211435583389:=Nat
def tw2149168414266046265:=Nat
def tw16133235236121794236:=Nat
def tw10984972815725461761:=Nat
def tw3267637190003270975:=Nat
def tw777013546863582210:=Nat
def tw15325088965817052839:=Nat
def tw9099953649813348493:=Nat
def tw12345489082892624231:=Nat
def tw8177613177480867164:=Nat
def tw11856099461831392545:=Nat
def tw9128314660087075951:=Nat
def tw3684061852169450862:=Nat
def tw13705186021778208660:=Nat
def tw9990759952644747092:=Nat
def tw14443700324499839834:=Nat
def tw11428162715225900847:=Nat
def tw7655500229853239764:=Nat
def tw14003088622566069440:=Nat
def tw16839911325303940555:=Nat
def tw15888052573607827092:=Nat
def tw14971387830927554620:=Nat
def tw15421992221737939826:=Nat
def tw13078228990002058114:=Nat
def tw5585410818509380012:=Nat
def tw17515720123306566338:=Nat
def tw6559576458181220251:=Nat
def tw14460288182167048455:=Nat
def tw11949839063749259731:=Nat
def tw17070781782825377660:=Nat
def tw16321082556813252238:=Nat
def tw11498839028325830683:=Nat
def tw15090507804720790271:=Nat
def tw11924121406132237658:=Nat
def tw8933222479024729392:=Nat
def tw18106984048111577602:=Nat
def tw13981208155352469901:=Nat
def tw14395574801825994314:=Nat
def tw17193118990886354174:=Nat
def tw284541131371425510:=Nat
def tw14162276063424460140:=Nat
def tw12687959218235953559:=Nat
def tw5608093066213780588:=Nat
def tw15869795888148800459:=Nat
def tw3653623374686948699:=Nat
def tw18037077183778678083:=Nat
def tw6224877262287732632:=Nat
def tw14244419121153341522:=Nat
def tw18174404405646104712:=Nat
def tw18080398063814747482:=Nat
def tw9644575624039598993:=Nat
def tw11167039413917231805:=Nat
def tw5897582402195051646:=Nat
def tw1969653506371446077:=Nat
def tw1707296040955308158:=Nat
def tw9221685637212365763:=Nat
def tw10494486937515286972:=Nat
def tw487083828656622253:=Nat
def tw14409728541354879124:=Nat
def tw7503523637295016489:=Nat
def tw6195194434655543054:=Nat
def tw7472927834680580406:=Nat
def tw5303256192547027901:=Nat
def tw11373338514994116155:=Nat
def tw12709174994654601143:=Nat
def tw986889456644105965:=Nat
def tw16926651237642307705:=Nat
def tw15770091607301686880:=Nat
def tw7844608798938326326:=Nat
def tw4648737041715967809:=Nat
def tw4264368283419612152:=Nat
def tw10215097191043836512:=Nat
def tw8825665986154650788:=Nat
def tw1503785232449549579:=Nat
def tw7594283385624653826:=Nat
def tw12418834417106319189:=Nat
def tw17150420762972399431:=Nat
def tw6512130126269473531:=Nat
def tw16468008690260970008:=Nat
def tw6775788878493164058:=Nat
def tw2429016434301117643:=Nat
def tw2191663847487528096:=Nat
def tw13410119514564416944:=Nat
def tw12713451527904869042:=Nat
def tw100380538917354322:=Nat
def tw7631651578671913114:=Nat
def tw12792948422623876726:=Nat
def tw5637473326738213855:=Nat
def tw18201496281279015892:=Nat
def tw2139009171498878947:=Nat
def tw3759036763244325499:=Nat
def tw4401501360269166678:=Nat
def tw10642755461197252682:=Nat
def tw13857194467031453387:=Nat
def tw4985745711887834484:=Nat
def tw1120846102934081106:=Nat
def tw5524642228310824668:=Nat
def tw14592586429455860132:=Nat
def tw16280824872800334486:=Nat
def tw1604279323350425178:=Nat
def tw13221792314252858769:=Nat
def tw4140705257920250057:=Nat
def tw1023268639793920759:=Nat
def tw2874032283037759473:=Nat
def tw13399391365988196138:=Nat
def tw9350737481676598461:=Nat
def tw3168456158346249589:=Nat
def tw9823719245377479330:=Nat
def tw10875038650679483638:=Nat
def tw16173547813730175754:=Nat
def tw16917622171862187718:=Nat
def tw17297319092445906794:=Nat
def tw11501426295529637849:=Nat
def tw4542673982522828804:=Nat
def tw12403925200793954571:=Nat
def tw9240738459810246902:=Nat
def tw17763516914595725095:=Nat
def tw3357974823579680367:=Nat
def tw1497563267347386243:=Nat
def tw12584003238644447585:=Nat
def tw13074227635271890591:=Nat
def tw6885121705104011670:=Nat
def tw16949333330121205278:=Nat
def tw5194187452003220988:=Nat
def tw13331151815104652440:=Nat
def tw8369766333637959206:=Nat
def tw10530577168116832288:=Nat
def tw1578634220760473672:=Nat
def tw11053767637834945814:=Nat
def tw2259171506001604347:=Nat
def tw10495125368415826262:=Nat
def tw5121804811317621710:=Nat
def tw16641037053702483217:=Nat
def tw12639307794471583784:=Nat
def tw14188221296553062347:=Nat
def tw15647097695119603042:=Nat
def tw8826367066465629350:=Nat
def tw14751128806173560158:=Nat
def tw17868654441655546099:=Nat
def tw17782662204187758213:=Nat
def tw7307275137125675470:=Nat
def tw8330816690843005289:=Nat
def tw4166884053747004503:=Nat
def tw10284825814005605492:=Nat
def tw2789402819897186929:=Nat
end PySem.W.Fast
open PySem PySem.W PyProof.Rows
set_option maxRecDepth 100000 in
set_option maxHeartbeats 0 in
theorem PySem.Challenge.cw_shadowpost_k55_stones_to_watch_holds : PySem.Challenge.rw_shadowpost_k55_stones_to_watch.Holds := by
 w_on;o_law;k_head;(case hw=>w_witness2)
 k_fill
 refine T.Z5k (l:=PySem.Challenge.rw_shadowpost_k55_stones_to_watch) rfl rfl (λw h Qqq=>by first|exact PySem.W.kIn_of Qqq|exact PySem.W.km_in_of Qqq) ?F ?hnt ?hrec
 case hnt=>intro w;kernel_rfl
 case hrec=>
  intro y hy;have e:y=Ì "cheapest" := by simpa[L2.lams] using hy
  subst e;exact⟨_,rfl⟩
 case F=>
  intro w mg fa h KX G Wp
  refine' T.Z4L (a:=T.wl.mk) (T.Tx.mk (ů KX G ?_) (ů KX G ?_) (ů KX G ?_) (ů KX G ?_) (ů KX G ?_) (ů KX G ?_) (ů KX G ?_) (ů KX G ?_) (ů KX G ?_) (ů KX G ?_) (ů KX G ?_) (ů KX G ?_) (ů KX G ?_) (ů KX G ?_) (ů KX G ?_) (P.ĕ KX G (λ_ _ _ _ _ _ _ _=>rfl) ?_ ?_ ?_ ?_) (P.ĕ KX G (λ_ _ _ _ _ _ _ _ _=>rfl) ?_ ?_ ?_ ?_) (P.hJ (λ_ _ _ _ _ _ _ _ _ _ _=>rfl) ?_ ?_ ?_ ?_) (P.ĕ KX G (λ_ _ _ _ _ _ _=>rfl) ?_ ?_ ?_ ?_) (P.ĕ KX G (λ_ _ _ _ _ _ _=>rfl) ?_ ?_ ?_ ?_) (P.ĕ KX G (λ_ _ _ _ _ _ _=>rfl) ?_ ?_ ?_ ?_) (P.hJ (λ_ _ _ _ _ _ _ _ _=>rfl) ?_ ?_ ?_ ?_) (P.ĕ KX G (λ_ _ _ _ _ _ _=>rfl) ?_ ?_ ?_ ?_) (P.ĕ KX G (λ_ _ _ _ _ _ _=>rfl) ?_ ?_ ?_ ?_) (P.ĕ KX G (λ_ _ _ _ _ _ _=>rfl) ?_ ?_ ?_ ?_) (P.ĕ KX G (λ_ _ _ _ _ _ _=>rfl) ?_ ?_ ?_ ?_) (P.ĕ KX G (λ_ _ _ _ _ _ _=>rfl) ?_ ?_ ?_ ?_) (P.ĕ KX G (λ_ _ _ _ _ _ _ _=>rfl) ?_ ?_ ?_ ?_) (P.ĕ KX G (λ_ _ _ _ _ _ _ _ _=>rfl) ?_ ?_ ?_ ?_) (P.ĕ KX G (λ_ _ _ _ _ _ _=>rfl) ?_ ?_ ?_ ?_) (P.ĕ KX G (λ_ _ _ _ _ _ _ _=>rfl) ?_ ?_ ?_ ?_) (P.ĕ KX G (λ_ _ _ _ _ _ _ _ _ _ _ _=>rfl) ?_ ?_ ?_ ?_) (P.ĕ KX G (λ_ _ _ _ _ _ _ _ _ _=>rfl) ?_ ?_ ?_ ?_) (P.ĕ KX G (λ_ _ _ _ _ _ _ _ _=>rfl) ?_ ?_ ?_ ?_) (P.ĕ KX G (λ_ _ _ _ _ _ _ _ _ _=>rfl) ?_ ?_ ?_ ?_) (P.ĕ KX G (λ_ _ _ _ _ _ _ _=>rfl) ?_ ?_ ?_ ?_) (P.ĕ KX G (λ_ _ _ _ _ _ _ _=>rfl) ?_ ?_ ?_ ?_) (P.ĕ KX G (λ_ _ _ _ _ _ _ _=>rfl) ?_ ?_ ?_ ?_) (P.ĕ KX G (λ_ _ _ _ _ _ _=>rfl) ?_ ?_ ?_ ?_) (P.ĕ KX G (λ_ _ _ _ _ _ _ _=>rfl) ?_ ?_ ?_ ?_) (P.ĕ KX G (λ_ _ _ _ _ _ _ _=>rfl) ?_ ?_ ?_ ?_) (P.ĕ KX G (λ_ _ _ _ _ _ _ _=>rfl) ?_ ?_ ?_ ?_) (P.ĕ KX G (λ_ _ _ _ _ _ _ _ _=>rfl) ?_ ?_ ?_ ?_) (P.Vq KX G (λ_ _ _ _ _ _ _ _ _ _ _=>⟨_,rfl,rfl⟩) (λ_ _ _ _ _ _ _ _ _ _=>⟨_,rfl,rfl⟩) ?_ ?_ ?d ?_ ?_) (P.ĕ KX G (λ_ _ _ _ _ _ _=>rfl) ?_ ?_ ?_ ?_) (P.ĕ KX G (λ_ _ _ _ _ _ _=>rfl) ?_ ?_ ?_ ?_) (P.ĕ KX G (λ_ _ _ _ _ _ _ _=>rfl) ?_ ?_ ?_ ?_) (P.ĕ KX G (λ_ _ _ _ _ _ _ _=>rfl) ?_ ?_ ?_ ?_) (P.ĕ KX G (λ_ _ _ _ _ _ _=>rfl) ?_ ?_ ?_ ?_) (P.ĕ KX G (λ_ _ _ _ _ _ _=>rfl) ?_ ?_ ?_ ?_) (P.ĕ KX G (λ_ _ _ _ _ _ _ _=>rfl) ?_ ?_ ?_ ?_) (P.ĕ KX G (λ_ _ _ _ _ _ _=>rfl) ?_ ?_ ?_ ?_) (P.ĕ KX G (λ_ _ _ _ _ _ _=>rfl) ?_ ?_ ?_ ?_) (P.ĕ KX G (λ_ _ _ _ _ _ _ _=>rfl) ?_ ?_ ?_ ?_) (P.ĕ KX G (λ_ _ _ _ _ _ _ _=>rfl) ?_ ?_ ?_ ?_) (P.ĕ KX G (λ_ _ _ _ _ _ _ _ _=>rfl) ?_ ?_ ?_ ?_) (P.ĕ KX G (λ_ _ _ _ _ _ _ _ _=>rfl) ?_ ?_ ?_ ?_) (P.ĕ KX G (λ_ _ _ _ _ _ _ _=>rfl) ?_ ?_ ?_ ?_) (P.ĕ KX G (λ_ _ _ _ _ _ _=>rfl) ?_ ?_ ?_ ?_) (P.ĕ KX G (λ_ _ _ _ _ _ _ _=>rfl) ?_ ?_ ?_ ?_) (P.ĕ KX G (λ_ _ _ _ _ _ _ _=>rfl) ?_ ?_ ?_ ?_) (P.ĕ KX G (λ_ _ _ _ _ _ _ _=>rfl) ?_ ?_ ?_ ?_) (P.ĕ KX G (λ_ _ _ _ _ _ _ _=>rfl) ?_ ?_ ?_ ?_) (P.ĕ KX G (λ_ _ _ _ _ _ _ _ _ _ _=>rfl) ?_ ?_ ?_ ?_) (P.ĕ KX G (λ_ _ _ _ _ _ _ _ _ _ _=>rfl) ?_ ?_ ?_ ?_) (P.hJ (λ_ _ _ _ _ _ _=>rfl) ?_ ?_ ?_ ?_) (P.hJ (λ_ _ _ _ _ _ _=>rfl) ?_ ?_ ?_ ?_) (P.hJ (λ_ _ _ _ _ _ _=>rfl) ?_ ?_ ?_ ?_) (P.hJ (λ_ _ _ _ _ _ _=>rfl) ?_ ?_ ?_ ?_) (P.hJ (λ_ _ _ _ _ _ _=>rfl) ?_ ?_ ?_ ?_) (P.ĕ KX G (λ_ _ _ _ _ _ _ _=>rfl) ?_ ?_ ?_ ?_) (P.ĕ KX G (λ_ _ _ _ _ _ _ _=>rfl) ?_ ?_ ?_ ?_) (P.ĕ KX G (λ_ _ _ _ _ _ _ _ _=>rfl) ?_ ?_ ?_ ?_) (P.ĕ KX G (λ_ _ _ _ _ _ _ _ _=>rfl) ?_ ?_ ?_ ?_) (P.ĕ KX G (λ_ _ _ _ _ _ _ _ _=>rfl) ?_ ?_ ?_ ?_) (P.ĕ KX G (λ_ _ _ _ _ _ _ _=>rfl) ?_ ?_ ?_ ?_) (P.ĕ KX G (λ_ _ _ _ _ _ _=>rfl) ?_ ?_ ?_ ?_) (P.ĕ KX G (λ_ _ _ _ _ _ _ _=>rfl) ?_ ?_ ?_ ?_) (P.ĕ KX G (λ_ _ _ _ _ _ _ _ _=>rfl) ?_ ?_ ?_ ?_) (P.ĕ KX G (λ_ _ _ _ _ _ _ _=>rfl) ?_ ?_ ?_ ?_) (P.ĕ KX G (λ_ _ _ _ _ _ _ _=>rfl) ?_ ?_ ?_ ?_) (P.ĕ KX G (λ_ _ _ _ _ _ _ _=>rfl) ?_ ?_ ?_ ?_) (P.ĕ KX G (λ_ _ _ _ _ _ _ _=>rfl) ?_ ?_ ?_ ?_) (P.ĕ KX G (λ_ _ _ _ _ _ _ _=>rfl) ?_ ?_ ?_ ?_) (P.ĕ KX G (λ_ _ _ _ _ _ _=>rfl) ?_ ?_ ?_ ?_) (P.hJ (λ_ _ _ _ _ _ _ _=>rfl) ?_ ?_ ?_ ?_) (P.hJ (λ_ _ _ _ _ _ _ _ _=>rfl) ?_ ?_ ?_ ?_) (P.hJ (λ_ _ _ _ _ _ _ _=>rfl) ?_ ?_ ?_ ?_) (P.hJ (λ_ _ _ _ _ _ _ _=>rfl) ?_ ?_ ?_ ?_) (ů KX G ?_) (ů KX G ?_) (ŵ KX G ?_) (ŵ KX G ?_) (ŵ KX G ?_) (ŵ KX G ?_) (ŵ KX G ?_) (ŵ KX G ?_) (ŵ KX G ?_) (ŵ KX G ?_) (ŵ KX G ?_) (ŵ KX G ?_) (ŵ KX G ?_) (ŵ KX G ?_) (ŵ KX G ?_) (ŵ KX G ?_) (ŵ KX G ?_) (ŵ KX G ?_) (ŵ KX G ?_) (ŵ KX G ?_) ?_ ?_ ?_ ?_ ?_ ?_ ?_ ?_ ?_ (P.vI ?_) ?_ ?_ (P.vI ?_) ?_ ?_ ?_ (P.vI ?_) ?_ ?_ ?_ ?_ ?_ (P.vI ?_) ?_ ?_ (P.jJ ?_) (P.qG ?_) ?_ ?_ ?_ ?_ (P.jJ ?_) (P.qG ?_) ?_ ?_ (P.jJ ?_) (P.qG ?_) ?_ ?_ (P.lp ?_) (P.jJ ?_) (P.qG ?_) ?_ ?_ (P.lp ?_) (P.jJ ?_) (P.qG ?_) ?_ ?_ (P.lp ?_) (P.jJ ?_) (P.qG ?_) ?_ ?_ (P.lp ?_) (P.jJ ?_) (P.qG ?_) ?_ ?_ (P.lp ?_) ?_ ?_ (P.vH ?_) (P.vH ?_) (P.FU ?_) (P.FV ?_) (P.FW ?_) (P.CM ?_)) Wp
  any_goals (dsimp only;k_is)
  case d=>k_is
  any_goals first|kernel_rfl|(unfold L2.ė;kernel_rfl)
  all_goals skip
