import PyProof.Rows.All
import Wide.FinOn
import KE.KNestM
import KE.KIsAll
import KE.KxText
import KE.KIntText
import KE.KUnpack
import KE.KItem
import KE.BitLaws
import KE.IntBitsLaws
import PyProof.EqAt
import PyProof.EqKinds
import PyProof.TupleCall
import PySem.Challenge.RW_shadowpost_k81_whole_dark_by_witnesses
set_option Elab.async false
set_option linter.all false
set_option bootstrap.genMatcherCode false
set_option backward.eqns.nonrecursive false
set_option genSizeOf false
set_option maxRecDepth 100000
set_option maxHeartbeats 4000000
set_option hygiene false in
local macro_rules|`(command|#where)=>do
 let f(s:String)(l:List Nat):=l.mapM λi=>let x:=Lean.mkIdent ((`PySem.W.Fast).str ("tw"++toString ((`Tp).str (s++toString i)).hash));`(theorem $x:ident :True:=trivial)
 return Lean.mkNullNode ((<-f "o_" (List.range' 43 1131))++(<-f "tree_" [47,63,78,93,115,137,159,174,222,303,380,460,514,536,558,580,600,629,685,767,835,918,1001,1043,1096,1173])++(<-f "sts_" [49,64,79,94,116,138,160,175,223,304,381,461,515,537,559,581,601,630,686,768,836,919,1002,1046,1097])++(<-f "heap_" [39,46,1174])++(<-f "view_" [39])++(<-f "env_" [41])).toArray
#where
theorem PySem.W.Fast.tw1348553046226544868:True:=trivial
theorem PySem.W.Fast.tw16722190529214973092:True:=trivial
set_option maxHeartbeats 0 in
open_top Tp for PySem.Challenge.rw_shadowpost_k81_whole_dark_by_witnesses
noncomputable section
open Array renaming length_toList->cI
open Bool renaming and_eq_true->Ă,false_ne_true->bZ,or_false->vI,false_eq_true->qz,eq_iff_iff->gp,or_eq_true->m_
open Char renaming toNat->aF
open Classical renaming choose->AK,byContradiction->AL
open False renaming elim->aG
open ForInStep renaming yield->gq
open Function renaming comp_def->vJ
open Int renaming mul_one->vK,natCast_nonneg->kT,fdiv_eq_ediv_of_nonneg->nc,fmod_eq_emod_of_nonneg->vL,toNat_natCast->vM,le_ediv_iff_mul_le->AM,fmod_nonneg_of_pos->AN,gcd_ne_zero_right->AO,gcd_ediv_gcd_ediv_gcd->AQ,fdiv_eq_ediv_of_dvd->AR,mul_ediv_cancel_left->vN,mul_le_mul_of_nonneg_left->qA,le_of_lt->vO,mul_comm->dP,mul_assoc->bj,neg_mul_neg->qB,mul_nonneg->Ŏ,le_total->iY,mul_nonneg_of_nonpos_of_nonpos->qC,mul_neg_of_neg_of_pos->iZ,mul_pos->vP,natAbs_mul->qD,eq_ofNat_of_zero_le->qE,natCast_add->qF,natCast_mul->ng,ofNat_lt->vQ,eq_of_mul_eq_mul_right->AS
open List renaming range->å,mem_filter->vR,mem_range->Ϝ,filterMap_cons->qG,mem_cons_self->ϝ,mem_cons_of_mem->ð,mem_cons->ö,mem_append->aH,mem_append_left->kU,getElem?_eq_some_iff->fh,getElem?_set_self->nh,getElem?_set_ne->i_,mem_filterMap->vS,mem_append_right->bo,size_toArray->Ī,length_cons->Ę,any_eq_false->nj,lookup->fi,map_cons->á,length_map->ħ,append_nil->kW,nodup_cons->b_,of_mem_zip->nk,replicate->Ù,length->cJ,length_take->qH,getElem?_append_right->kX,getElem?_replicate->gt,getElem?_append_left->fj,getElem?_map->ŗ,mem_of_getElem?->AT,length_append->Ϟ,length_replicate->vT,map_nil->ϟ,all_eq_true->bp,lookup_cons->Ř,forIn_cons->nn,nil_append->bq,append_assoc->qI,forIn_nil->vU,mem_iff_getElem->qJ,getD_eq_getElem?_getD->Ϡ,getElem?_eq_getElem->ũ,getElem_mem->Ū,length_range->vV,drop_zero->qK,take_of_length_le->vW,eq_nil_of_length_eq_zero->vY,replicate_succ->vZ,foldl_cons->ϡ,map_map->Ğ,map_congr_left->v_,drop_eq_getElem_cons->kY,drop_eq_nil_of_le->ja,length_eq_zero_iff->qL,contains_cons->wa,cons_append->dQ,getElem?_cons_succ->qM,mem_singleton->kZ,not_mem_nil->br,any_cons->jb,findSome?_cons->qN,findIdx?_map->wb,findIdx?_eq_some_iff_getElem->qO,map_append->ş,getElem?_of_mem->AU,mem_map->Đ,nodup_append->wc,mem_or_eq_of_mem_set->AV,range'->jc,range'_succ->we,take_succ_cons->AW,find?_cons->qP,mem_flatMap->qQ,mem_map_of_mem->cK,findSome?_eq_none_iff->AX,exists_of_findSome?_eq_some->qR,length_pos_iff->qS,sum_cons->nq,set_cons_succ->nr,set_cons_zero->qT,flatMap_cons->nv,forall_mem_cons->ny,any_eq_true->wf,range_succ->qU,flatMap_append->AY,range_eq_range'->AZ,mem_of_getLast?->A_,getElem_map->wg,findIdx?_eq_none_iff->A0
open List.Pairwise renaming nil->A1
open Nat renaming lt_of_lt_of_le->Š,lt_irrefl->dR,ne_of_lt->ŏ,le_trans->ř,le_of_lt->nA,ne_of_gt->cL,le_refl->ø,le_of_eq->qV,lt_succ_self->qW,zero_le->dS,lt_succ_of_lt->qX,mul_le_mul->bt,le_succ->wj,add_comm->nB,lt_or_gt_of_ne->wl,one_mul->wm,testBit_mul_two_pow->A2,pow_le_pow_right->qY,add_mul->qZ,mod_lt->nC,mod_eq_sub_div_mul->A3,mul_comm->q_,testBit_lt_two_pow->wo,toDigits->Ϣ,div_add_mod->wp,min_eq_left->wq
open Ne renaming symm->Ē
open OfNat renaming ofNat->Ÿ
open Option renaming map_eq_some_iff->fk,bind_eq_some_iff->nD,map_some->re
open Option.some renaming inj->š
open Or renaming inl->aI,inr->jd
open Prod.mk renaming injEq->wr
open Pure renaming pure->ñ
open PyProof.Rows renaming AllBare->fq,callWith_type1->rh,envOfC->Ϗ,IntsAre->k_,ext_toList->A4,boot_abs->rj,boot_all->dU,boot_int->wt,boot_list->cM,boot_tuple->gu,boot_divmod->A5,boot_str->rk,boot_max->wu,boot_min->wv,boot_sum->rl,boot_isinstance->je,boot_bool->A6
open PySem renaming Value->Á,World->â,Program->ë,Addr->À,Heap->Ñ,sysModules->nE,Within->ww,mainGlobals->ġ,bootBuiltins->fu,Around->ì,Shared->Ä,Scope->ý,Model->fv,wpAny->Ï,Expr->È,model->Ü,backTo->Ć,starEach->Ð,Stmt->ò,wpAny_mono->bu,wpAny_execs_nil->nH,swapsWith->ū,assign->cO,assignEach->ϐ,Operator->nI,holding->ca,standAt->gv,wpAny_bind->Ò,wpAny_holding->lc,wpAny_standAt->nJ,swapsWithSole->wy,swappedStores->wz,PassesOwn->nK,wpAny_passesOwn->jf,pyNext->cP,letOwnedTupleGo->rm,pyIter->gw,wpAny_pure->Č,rawInt->cQ,foldedSetIterable->cR,binaryOp->ŀ,compareOp->ī,CmpOp->fw,behindInMarks->le,sizeLine_eq->dW,wpAny_truthy_bool->fA,getMethod->lf,codeAny->fB,attributeBase->cS,cLine->Ź,FuncData->ĉ,BindsTo->fC,bindArgs->nL,Keyword->ϣ,NameKind->cb,cellsFrom->Ś,mem_of_lookup->nM,Arguments->gx,wpAny_Call_Name_kw->lg,typeIs_str->lh,sliceBounds->jg,PlainAttrs->rn,backToKw->bv,keywordEach->bz,call_meets->li,Params->gy,callerA->gA,call->rz,codeAny_mono->lj,DictEntry->gB,PyData->Ϥ,wpAny_newObj_type->wA,wpAny_pyIter_list->ll,eval->wB,wpAny_pyIter_tuple->wD,callWith->gC,ExceptHandler->nN,nums_intItems->rC,intItems->gE,numAt->cT,Slot->wE,Builtin->lm,IsEnum->bA,field->ce,wpAny_field->ź,wpAny_setField_rec->cU,wpAny_rule->rD,wpAny_letGo->rE,wpAny_attempt->rG,wpAny_callSpecial?_slot->lq,wpAny_call_entry->lr,wpAny_pyIter_enum->wF,wpAny_seqItems->gF,Draws->dX,IsZip->ϥ,IsPair->Ő,wpAny_onRaise->rH,wpAny_updateSeq_pair->wG,boot_len->ğ,Str->aJ,intText?->nO,intBits_fdiv_le->nP
open PySem.Around renaming under->wH
open PySem.Builtin renaming bitAnd->gG,bitOr->nQ,bitNot->lu
open PySem.Builtin.Int renaming intBits->rJ
open PySem.Builtin.List renaming listTooLong->wI
open PySem.Builtin.SmallTypes renaming ownedTupleIsFree->lv,ownedTupleHandOut->rK,nextOf->gH
open PySem.Builtin.Str renaming strSliceIndices->lw,occurrences->jh,strKind->lx
open PySem.Calls renaming Name_function_global->A7
open PySem.Code renaming isFrame->wJ
open PySem.Data renaming fields->wK,cell->nR
open PySem.F renaming slot_list_append->cV,slot_list_extend->wL,called_enumerate->wM,slot_enumerate_next->rM,entry_enumerate_next->A8,args_enumerate_next_1->A9,slot_tuple_iterator_next->rN,entry_tuple_iterator_next->Ba,args_tuple_iterator_next_1->Bb,slot_zip_next->rP,slot_list_index->Bc,plainAttrs_list->bB,type_list_append->dY,slot_str_split->ji,entry_str_split->wN,args_str_split_2->wO,plainAttrs_str->dZ,slot_str_startswith->Bd,type_str_startswith->Be,type_str_split->rQ,slot_str_join->rS,type_str_join->rT,type_list_extend->Bf
open PySem.Heap renaming lt_size->ā,SameBut->Ţ,get?_push_of_some->ă,get?_push_size->Į,size_push->Ϧ,get?_update_self->Bg,get?_update_other->Bh,ExtBut->rW
open PySem.Heap.SameBut renaming update->Bi
open PySem.NameKind renaming free->ci,cell->gI
open PySem.Obj renaming mapSeq->nS
open PySem.PassesOwn renaming leaving->į
open PySem.PyData renaming eqv->Ĭ,strOk->ĕ,canLay0->wP,canLayAll0->d_,eqvAll->nU
open PySem.Shared renaming heap->wQ
open PySem.Str renaming length->cj,ofString->Æ,ext'->jj
open PySem.Value renaming isStrOf->fE,int->nV,str->ly,bool->eh,float->wR,ref->ń,type->wS
open PySem.Value.type renaming inj->Bj
open PySem.W renaming instObj->fF,methodObj->wT,Frag->Î,tabIn->ck,CodeHd->wU,lookIn->rX,plainGet->nW,hasDictIn->rY,findIn->Ż,handedIn->Bk,plainGet_of->wV,isFn->nX,plainOver->wW,takerIn->wX,makesIn->wY,emptyDict->ei,keepIn->bC,kitOne->nY,kia_one->bE,kitx_list->wZ,kitx_tuple->Bl,kitx_dict->Bm,cellsFrom_some->Bn,fnOf->aK,codeIn->lz,OpenLaw->lA,WalkO->rZ,noTabs->w_,callWith_K->nZ,methodCall_KW->Bo,nsIn->en,mg_of->r_
open PySem.W.KIN renaming val_back->Bp
open Sum renaming inl->jk,inr->jl
open ToString renaming toString->fG
namespace L2
open PySem PySem.Spec PyProof.Rows
abbrev Key:=Sum Int Str
noncomputable def HR:Key->Á->Bool
 |.inl k,v=>Value.isInt k v|.inr x,v=>fE x v
def Q6(w:â):Key->Int
 |.inl k=>hashInt k|.inr x=>hashStr w x
theorem ϑ:∀{k:Key}{v:Á},HR k v=true->(∃i t,k=jk i/\v=nV i t)\/(∃x t,k=jl x/\v=ly x t)
 |.inl i,v,h=>by obtain⟨t,e⟩:=Value.isInt_shape (k:=i) (v:=v) h;exact .inl ⟨i,t,rfl,e⟩|.inr x,v,h=>by obtain⟨t,e⟩:=Value.isStrOf_shape (x:=x) (v:=v) h;exact .inr ⟨x,t,rfl,e⟩
def IQ(a b:Int):decide ((jk a:Key)=jk b)=(a==b):=by
 by_cases e:a=b
 ·subst e;simp
 ·have h:¬(jk a:Key)=jk b:=λq=>e<|Sum.inl.inj q;rw[decide_eq_false h];exact(beq_eq_false_iff_ne.mpr e).symm
def IS(a b:Str):decide ((jl a:Key)=jl b)=decide (a=b):=by
 by_cases e:a=b
 ·subst e;simp
 ·have h:¬(jl a:Key)=jl b:=λq=>e<|Sum.inr.inj q;rw[decide_eq_false h,decide_eq_false e]
def IT(a:Int)(b:Str):decide ((jk a:Key)=jl b)=false:=decide_eq_false<|λq=>nomatch q
def IU(a:Str)(b:Int):decide ((jl a:Key)=jk b)=false:=decide_eq_false<|λq=>nomatch q
def xf(prog:ë)(w:â):PySem.KeyKind prog w Key where
 is:=HR
 hash:=Q6 w
 inj:=λv a b ha hb=>by
  rcases ϑ ha with⟨i,t,rfl,rfl⟩|⟨x,t,rfl,rfl⟩
  ·rcases ϑ hb with⟨j,u,rfl,e⟩|⟨y,u,rfl,e⟩
   ·injection e with e1 _;rw[e1]
   ·exact nomatch e
  ·rcases ϑ hb with⟨j,u,rfl,e⟩|⟨y,u,rfl,e⟩
   ·exact nomatch e
   ·injection e with e1 _;rw[e1]
 byValue:=λk v h=>by rcases ϑ h with⟨i,t,rfl,rfl⟩|⟨x,t,rfl,rfl⟩<;>rfl
 pyHash:=λhv h=>by
  rcases ϑ hv with⟨i,t,rfl,rfl⟩|⟨x,t,rfl,rfl⟩
  ·exact wpAny_pyHash_int h
  ·exact wpAny_pyHash_str h
 eqBool:=λhu hv h=>by
  rcases ϑ hu with⟨i,t,rfl,rfl⟩|⟨x,t,rfl,rfl⟩
  ·rcases ϑ hv with⟨j,u,rfl,rfl⟩|⟨y,u,rfl,rfl⟩
   ·rw[IQ]at h;exact wpAny_eqBool_int h
   ·rw[IT]at h;exact SeqAt.EqAt.int_str i t y u _ _ _ _ h
  ·rcases ϑ hv with⟨j,u,rfl,rfl⟩|⟨y,u,rfl,rfl⟩
   ·rw[IU]at h;exact SeqAt.EqAt.str_int x t j u _ _ _ _ h
   ·rw[IS]at h;exact wpAny_eqBool_str h
 «strs» :=fun k x t v h=>by
   rcases ϑ h with⟨i,u,rfl,e⟩|⟨y,u,rfl,e⟩
   ·exact nomatch e
   ·injection e with e1 _
    subst e1;cases v<;>rfl
inductive V where
 |non|bl (b:Bool)|int (i:Int)|str (x:Str)|HS (b:Array UInt8)|flt (b:UInt64)|ref (a:À)|ty (n:String)
 deriving DecidableEq
def RelV:V->Á->Prop
 |.non,u=>u=Value.none|.bl b,u=>u=eh b|.int i,u=>∃t,u=nV i t|.str x,u=>∃t,u=ly x t|.HS b,u=>∃t,u=Value.bytes b t|.flt b,u=>∃t,u=wR b t|.ref a,u=>u=ń a|.ty n,u=>u=wS n
abbrev ł:List V->List Á->Prop:=Paired RelV
theorem ł.length{xs:List V}{us:List Á}(r:ł xs us):xs.length=us.length:=Paired.length r
theorem ł.get:∀{xs:List V}{us:List Á}{i:Nat}{x:V},ł xs us->xs[i]?=some x->∃u,us[i]?=some u/\RelV x u
 |_,_,_,_,.nil,e=>by simp at e|_,_,0,_,.cons r _,e=>by simp at e;subst e;exact⟨_,rfl,r⟩|_,_,i+1,x,.cons _ t,e=>by obtain⟨u,h1,h2⟩:=ł.get (i:=i) (x:=x) t (by simpa using e);exact⟨u,by simpa using h1,h2⟩
theorem ł.set{x:V}{u:Á}(r:RelV x u):∀{xs:List V}{us:List Á} (i:Nat),ł xs us->ł (xs.set i x) (us.set i u)
 |_,_,_,.nil=>.nil|_,_,0,.cons _ t=>.cons r t|_,_,i+1,.cons q t=>.cons q<|ł.set r i t
theorem ł.append:∀{xs ys:List V}{us ws:List Á},ł xs us->ł ys ws->ł (xs++ys) (us++ws)
 |_,_,_,_,.nil,s=>s|_,_,_,_,.cons r t,s=>.cons r<|ł.append t s
theorem ł.take:∀{xs:List V}{us:List Á} (n:Nat),ł xs us->ł (xs.take n) (us.take n)
 |_,_,0,_=>.nil|_,_,_+1,.nil=>.nil|_,_,n+1,.cons r t=>.cons r<|ł.take n t
theorem ł.drop:∀{xs:List V}{us:List Á} (n:Nat),ł xs us->ł (xs.drop n) (us.drop n)
 |_,_,0,r=>r|_,_,_+1,.nil=>.nil|_,_,n+1,.cons _ t=>ł.drop n t
def ux:Option V->Option Á->Prop
 |some v,some u=>RelV v u|none,none=>True|_,_=>False
def KV{κ:Type}:List (κ×V)->List (κ×Á)->Prop:=Paired λ(p:κ×V) (q:κ×Á)=>p.1=q.1/\RelV p.2 q.2
noncomputable def kV:Key->V
 |.inl i=>.int i|.inr x=>.str x
inductive HO where
 |lst (xs:List V)
 |tup (xs:List V)
 |dK (am:List (Key×V))|dT (am:List (List Key×V))
 |set (S:Int->Bool) (n:Nat)
 |ins (C dx:À) (fs:List (Str×V))
 |own (x:À)
 |xd (fs:List (Str×V))
 |met (f x:À)
 |rng (lo hi:Int)
 |fP (o:Obj) (u:HO)
 |aj (q:Str)
 |IV (q:Str)
 |ext (φ:Ñ->Prop)
abbrev Hp:=À->Option HO
noncomputable def upd(H:Hp)(a:À)(o:HO):Hp:=λb=>if b=a then some o else H b
def ą{H:Hp}{a:À}{o:HO}:upd H a o a=some o:=by unfold upd;rw[if_pos rfl]
def õ{H:Hp}{a b:À}{o:HO}(h:b≠a):upd H a o b=H b:=by unfold upd;rw[if_neg h]
def Ņ{H:Hp}{a b:À}{o:HO}(h:H a=some o)(h':H b=none):a≠b:=by intro e;subst e;rw[h]at h';cases h'
section
variable(P:ë)(w:â)
def cD(H:Hp)(h:Ñ)(a:À):HO->Prop
 |.lst xs=>xs.length<=sizeLine/\∃(ď:List Á) (n:Nat),ł xs ď/\h.get? a=some {cls:=.type "list",data:=.seq ď.toArray n}|.tup xs=>xs.length<=sizeLine/\∃ď:List Á,ł xs ď/\IsTup h a ď.toArray|.dK am=>am.length<=sizeLine/\(a==nE)=false/\∃vs,KV am vs/\h.DictOf (xf P w) a vs|.dT am=>am.length≤sizeLine∧(a==nE)=false∧∃xs:List (List Key×À×Á),
     Paired (λ(p:List Key×V) (q:List Key×À×Á)=>p.1=q.1/\H q.2.1=some (.tup<|p.1.map kV)/\RelV p.2 q.2.2) am xs/\
     ∃o es ep,h.get? a=some o/\o.ExactDict/\o.data=.dict es ep/\es.toList=xs.map (entryOfKey<|tupleKind<|xf P w)/\(xs.map (·.1)).Nodup
 |.set S n=>h.SetOf (intKind P w) a S n|.ins C dx fs=>H dx=some (.own a)∧fs.length≤1000∧dx≠a∧h.get? a=some (fF C dx)∧
     ∃mA,h.Ns1 dx mA/\(∀f,ux (fs.lookup f)<|mA f)/\ww mA (fs.map (·.1))
 |.own _=>∃o,h.get? a=some o|.xd fs=>∃mA,h.Ns1 a mA/\∀f,ux (fs.lookup f)<|mA f|.rng lo hi=>∃t u v,h.get? a=some {cls:=.type "range",data:=.fields #[.int lo t,.int hi u,.int 1 v]}|.fP o u=>h.get? a=some o/\cD H h a u|.aj q=>∃ps:Array Á,h.get? a=some {cls:=.none,data:=.fields ps}/\TriplesOk ps.toList/\∀pos cv,codeAmong pos ps.toList=some cv->∃c,cv=.ref c/\H c=some (.IV q)|.IV q=>h.CodeRec (.ref a) q|.met f x=>h.get? a=some (wT (.ref f)<|.ref x)|.ext φ=>φ h/\(∃o,h.get? a=some o)/\∀h1 h2:Ñ,φ h1->(∀o,h1.get? a=some o->h2.get? a=some o)->φ h2
def n_(H:Hp)(h:Ñ):Prop:=∀a o,H a=some o->cD P w H h a o
end
section
variable{P:ë}{w:â}{H H':Hp}{h h':Ñ}{a:À}{o:HO}
theorem cD.lt(x:cD P w H h a o):a<h.objs.size:=by
 cases o with
 |lst xs=>obtain⟨_,_,_,_,e⟩:=x;exact ā e|tup xs=>obtain⟨_,_,_,p⟩:=x;exact p.lt|dK am=>obtain⟨_,_,_,_,o,_,_,e,_⟩:=x;exact ā e|dT am=>obtain⟨_,_,_,_,o,_,_,e,_⟩:=x;exact ā e|set S n=>obtain⟨o,_,_,_,e,_⟩:=x;exact ā e|ins C dx fs=>obtain⟨_,_,_,e,_⟩:=x;exact ā e|own y=>obtain⟨_,e⟩:=x;exact ā e|xd fs=>obtain⟨_,⟨_,_,_,e,_⟩,_⟩:=x;exact ā e|rng lo hi=>obtain⟨_,_,_,e⟩:=x;exact ā e|fP ob u=>obtain⟨e,_⟩:=x;exact ā e|aj q=>obtain⟨_,e,_⟩:=x;exact ā e|IV q=>obtain⟨c,o,_,_,z,e,_⟩:=x;cases z;exact ā e|met f y=>exact ā<|show h.get? a=some _ from x|ext φ=>obtain⟨_,⟨_,e⟩,_⟩:=x;exact ā e
theorem Paired.IW{α β:Type}{F G:α->β->Prop}:∀{l₁:List α}{l₂:List β},Paired F l₁ l₂->(∀a b,F a b->G a b)->Paired G l₁ l₂
 |_,_,.nil,_=>.nil|_,_,.cons r t,f=>.cons (f _ _ r)<|Paired.IW t f
def cD.stay(x:cD P w H h a o)(k:∀b u,(b=a\/H b=some (.own a))->h.get? b=some u->h'.get? b=some u)
 (ho:∀b,H b=some (.own a)->H' b=some (.own a))(ht:∀b xs,H b=some (.tup xs)->H' b=some (.tup xs))(hc:∀b q,H b=some (.IV q)->H' b=some (.IV q):=by exact λ_ _ z=>z):cD P w H' h' a o:=by
 induction o with
 |lst xs=>obtain⟨z,ď,n,r,e⟩:=x;exact⟨z,ď,n,r,k _ _ (.inl rfl) e⟩|tup xs=>obtain⟨z,ď,r,ob,e,c⟩:=x;exact⟨z,ď,r,ob,k _ _ (.inl rfl) e,c⟩|dK am=>obtain⟨z,y,vs,r,ob,es,ep,e,c⟩:=x;exact⟨z,y,vs,r,ob,es,ep,k _ _ (.inl rfl) e,c⟩|dT am=>obtain⟨z,y,xs,r,ob,es,ep,e,c⟩:=x;exact⟨z,y,xs,Paired.IW r λp q z=>⟨z.1,ht _ _ z.2.1,z.2.2⟩,ob,es,ep,k _ _ (.inl rfl) e,c⟩
 |set S n=>obtain⟨ob,es,ep,t,e,c⟩:=x;exact⟨ob,es,ep,t,k _ _ (.inl rfl) e,c⟩|ins C dx fs=>obtain⟨d,z,ne,e,mA,⟨od,es,ep,e2,c⟩,r⟩:=x;exact⟨ho _ d,z,ne,k _ _ (.inl rfl) e,mA,⟨od,es,ep,k _ _ (.inr d) e2,c⟩,r⟩|own y=>obtain⟨ob,e⟩:=x;exact⟨ob,k _ _ (.inl rfl) e⟩|xd fs=>obtain⟨mA,⟨od,es,ep,e,c⟩,r⟩:=x;exact⟨mA,⟨od,es,ep,k _ _ (.inl rfl) e,c⟩,r⟩|rng lo hi=>obtain⟨t,u,v,e⟩:=x;exact⟨t,u,v,k _ _ (.inl rfl) e⟩|fP ob u ih=>obtain⟨e,q⟩:=x;exact⟨k _ _ (.inl rfl) e,ih q⟩|aj q=>obtain⟨ps,e,t,r⟩:=x;exact⟨ps,k a _ (.inl rfl) e,t,λpos cv z=>let ⟨c,z1,z2⟩:=r pos cv z;⟨c,z1,hc c q z2⟩⟩
 |IV q=>obtain⟨c,o,vs,t,z,e,r⟩:=x;cases z;exact⟨a,o,vs,t,rfl,k a _ (.inl rfl) e,r⟩|met f y=>have e:h.get? a=some (wT (.ref f)<|.ref y):=x;show h'.get? a=some (wT (.ref f)<|.ref y);exact k a _ (.inl rfl) e|ext φ=>obtain⟨p,⟨o,e⟩,st⟩:=x;exact⟨st _ _ p λo q=>k _ _ (.inl rfl) q,⟨o,k _ _ (.inl rfl) e⟩,st⟩
theorem n_.lt(x:n_ P w H h)(e:H a=some o):a<h.objs.size:=(x a o e).lt
def n_.fresh(x:n_ P w H h)(e:h.objs.size<=a):H a=none:=by
 cases q:H a with
 |none=>rfl|some u=>exact absurd (Š (x.lt q) e)<|dR _
def n_.kept(x:n_ P w H h)(k:∀b u,h.get? b=some u->h'.get? b=some u):n_ P w H h':=λa o e=>
 (x a o e).stay (λb u _ q=>k b u q) (λ_ q=>q) λ_ _ q=>q
def n_.laid(x:n_ P w H h)(k:∀b u,h.get? b=some u->h'.get? b=some u)(hp:h.objs.size<=a)(new:cD P w (upd H a o) h' a o):n_ P w (upd H a o) h':=λb u e=>by
 have hn:=x.fresh hp;by_cases hb:b=a
 ·subst hb;rw[ą]at e;cases e;exact new
 ·rw[õ hb]at e;exact(x b u e).stay (λc v _ q=>k c v q) (λc q=>by rw[õ<|Ņ q hn];exact q) (λc xs q=>by rw[õ<|Ņ q hn];exact q) λc xs q=>by rw[õ<|Ņ q hn];exact q
end
def Rd(H:Hp)(a:À)(u:HO):Prop:=H a=some u\/∃o,H a=some (.fP o u)
def Rd.ok{P:ë}{w:â}{H:Hp}{h:Ñ}{a:À}{u:HO}(r:Rd H a u)(x:n_ P w H h):cD P w H h a u:=by
 rcases r with r|⟨o,r⟩
 ·exact x a u r
 ·obtain⟨_,q⟩:=x a _ r;exact q
def O_:Option HO->Prop
 |some (.lst _)=>True|some (.dK _)=>True|some (.dT _)=>True|some (.set _ _)=>True|some (.ins _ _ _)=>True|some (.ext _)=>True|some (.xd _)=>True|_=>False
section
variable{P:ë}{w:â}{H:Hp}{h h':Ñ}{x e:À}{o':HO}
def n_.write(ok:n_ P w H h)(mu:O_ (H x))(he:e=x\/H e=some (.own x))(k:∀b u,b≠e->h.get? b=some u->h'.get? b=some u)(LK:∃u,h'.get? e=some u)
 (new:cD P w (upd H x o') h' x o'):n_ P w (upd H x o') h':=λb u q=>by
 have LS:∀c y,H c=some (.own y)->c≠x:=λc y r z=>by subst z;rw[r]at mu;exact mu
 have Q7:∀c xs,H c=some (.tup xs)->c≠x:=λc xs r z=>by subst z;rw[r]at mu;exact mu
 have Q8:∀c q,H c=some (.IV q)->c≠x:=λc xs r z=>by subst z;rw[r]at mu;exact mu
 by_cases hb:b=x
 ·subst hb;rw[ą]at q;cases q;exact new
 ·rw[õ hb]at q;by_cases yr:b=e
  ·have q':H b=some (.own x):=by
    rcases he with z|z
    ·exact absurd (yr.trans z) hb
    ·rw[yr];exact z
   rw[q]at q';cases q';obtain⟨v,hv⟩:=LK;exact⟨v,by rw[yr];exact hv⟩
  ·refine(ok b u q).stay (λc v hc r=>k c v ?_ r) (λc r=>by rw[õ<|LS c b r];exact r) (λc xs r=>by rw[õ<|Q7 c xs r];exact r) λc xs r=>by rw[õ<|Q8 c xs r];exact r
   rcases hc with rfl|hc
   ·exact yr
   ·rintro rfl;rcases he with z|z
    ·exact LS c b hc z
    ·rw[hc]at z;cases z;exact hb rfl
end
structure Un(fs ex:List À)(H H':Hp)(h h':Ñ):Prop where
 keep:∀b o,h.get? b=some o->H b=none->b∉fs->b∉ex->h'.get? b=some o
 slot:∀b o,h.get? b=some o->H b=none->b∈fs->b∉ex->∃sl,h'.get? b=some {o with slots:=sl}
 free:∀b o,h.get? b=some o->H b=none->b∉ex->H' b=none
 there:∀b o,h.get? b=some o->b∉ex->∃o',h'.get? b=some o'
 tups:∀b xs,H b=some (.tup xs)->H' b=some (.tup xs)
 uy:∀b o u,H b=some (.fP o u)->H' b=some (.fP o u)
 qi:∀b q,H b=some (.aj q)->H' b=some (.aj q)
section
variable{fs ex:List À}{H H1:Hp}{h h1 h':Ñ}{a x e:À}{o:HO}
def Un.any(u:Un fs ex H H1 h h1){b:À}{ob:Obj}(q:h.get? b=some ob)(n:H b=none)(hx:b∉ex):∃sl,h1.get? b=some {ob with slots:=sl}:=by
 by_cases hb:b∈fs
 ·exact u.slot b ob q n hb hx
 ·exact⟨ob.slots,u.keep b ob q n hb hx⟩
def Un.kept(k:∀b u,h.get? b=some u->h'.get? b=some u):Un fs ex H H h h':=
 ⟨λb ob q _ _ _=>k b ob q,λb ob q _ _ _=>⟨ob.slots,k b ob q⟩,λ_ _ _ n _=>n,λb ob q _=>⟨ob,k b ob q⟩,λ_ _ q=>q,λ_ _ _ q=>q,λ_ _ q=>q⟩
def Un.refl:Un fs ex H H h h:=Un.kept λ_ _ q=>q
def Un.laid(k:∀b u,h.get? b=some u->h'.get? b=some u)(hp:h.objs.size<=a)(hn:H a=none):Un fs ex H (upd H a o) h h' where
 keep:=λb u q _ _ _=>k b u q
 slot:=λb u q _ _ _=>⟨u.slots,k b u q⟩
 free:=λb u q n _=>by rw[õ<|ŏ<|Š (ā q) hp];exact n
 there:=λb u q _=>⟨u,k b u q⟩
 tups:=λb xs q=>by rw[õ<|Ņ q hn];exact q
 uy:=λb u xs q=>by rw[õ<|Ņ q hn];exact q
 qi:=λb ps q=>by rw[õ<|Ņ q hn];exact q
def Un.write(mu:O_ (H x))(he:e=x\/H e=some (.own x))(k:∀b u,b≠e->h.get? b=some u->h'.get? b=some u)(LK:∃u,h'.get? e=some u):Un fs ex H (upd H x o) h h':=by
 have hx:∀b,H b=none->b≠x:=λb n z=>by subst z;rw[n]at mu;exact mu
 have hb:∀b,H b=none->b≠e:=λb n z=>by
  subst z;rcases he with r|r
  ·exact hx b n r
  ·rw[n]at r;cases r
 have hm:∀b u,H b=some u->¬O_ (some u)->b≠x:=λb u q nm z=>by subst z;rw[q]at mu;exact nm mu
 refine⟨λb u q n _ _=>k b u (hb b n) q,λb u q n _ _=>⟨u.slots,k b u (hb b n) q⟩,λb u q n _=>by rw[õ<|hx b n];exact n,λb u q _=>?_,
  λb xs q=>by rw[õ<|hm b _ q λz=>z];exact q,λb u xs q=>by rw[õ<|hm b _ q λz=>z];exact q,λb ps q=>by rw[õ<|hm b _ q λz=>z];exact q⟩
 by_cases yr:b=e
 ·subst yr;exact LK
 ·exact⟨u,k b u yr q⟩
end
def O0(h:Ñ)(H:Hp):List À:=(å h.objs.size).filter λa=>(H a).isSome
def uz(h:Ñ)(H:Hp):Ñ:=PySem.W.hideAll h<|O0 h H
def Ct(h:Ñ)(H:Hp):(uz h H).objs.size=h.objs.size:=PySem.W.hideAll_size _ _
def DI{h:Ñ}{H:Hp}{b:À}{o:Obj}(e:h.get? b=some o)(n:H b=none):(uz h H).get? b=some o:=
 PySem.W.hideAll_get _ e λhm=>by have q:(H b).isSome=true:=(vR.mp hm).2;rw[n]at q;simp at q
def Ga{h:Ñ}{H:Hp}{b:À}{o:Obj}(e:(uz h H).get? b=some o):h.get? b=some o/\H b=none:=by
 have e':h.get? b=some o:=PySem.W.of_hideAll (O0 h H) e;refine⟨e',?_⟩;cases q:H b with
 |none=>rfl|some x=>have hm:b∈O0 h H:=vR.mpr ⟨Ϝ.mpr<|ā e',by simp[q]⟩;have z:(uz h H).get? b=none:=PySem.W.hideAll_none (O0 h H) hm;rw[z]at e;cases e
noncomputable def Gb(g h:Ñ)(L:À):List (À×Obj):=(å h.objs.size).filterMap λa=>if a=L\/(g.get? a).isSome=true then none else(h.get? a).map λo=>(a,o)
def rest(g h:Ñ)(L d:À):List (À×Obj):=(Gb g h L).filter λp=>decide<|p.1≠d
structure Mod(K:Î)(mg:Str->Option Á)(base:Ñ):Prop where
 HU:K.In base
 glob:base.Ns ġ mg
 blt:∃mb,base.Ns builtinsNs mb/\∀x:Str,x≠"__name__" ->mb x=fu x
 nolimit:base.NoLimit
def eS:List Str:=[]
abbrev xg(x:Str):Str:=(x++".<locals>.")++"<lambda>"
def yk(K:Î)(mg:Str->Option Á)(base:Ñ)(H:Hp):Prop:=∀x c P,x∈eS->ck K x=some (c,P)->wU base c P/\H P=some (.aj<|xg x)/\base.BuiltinsAt mg P
structure Cx where
 prog:ë
 w:â
 K:Î
 mg:Str->Option Á
 base:Ñ
 A:ì
 N:List Str
 s₀:Ä
 H₀:Hp
 env:Env
 outer:List Env
 stack:List Env
 ex:List À
 fn:Str->Bool
 calm:Bool
 pn:List (À×Obj)
 xe:Á->Ä->Prop
def FC(l:List Env):List À:=l.filterMap (·.frame)
abbrev Cx.fs(X:Cx):List À:=FC X.outer
def Lg(sc:ý)(x:Str):Prop:=sc.names.lookup x=some .local\/sc.names.lookup x=some .cell\/sc.names.lookup x=some .free
def Loc(sc:ý)(x:Str):Prop:=sc.names.lookup x=some .local\/sc.names.lookup x=some .cell
noncomputable def IX(sc:ý)(x:Str):Bool:=(sc.names.lookup x).any λk=>decide<|k=.local\/k=.cell\/k=.free
def IY{sc:ý}{x:Str}(h:IX sc x=true):Lg sc x:=by
 unfold IX at h;unfold Lg;cases e:sc.names.lookup x with
 |none=>rw[e]at h;cases h|some k=>rw[e]at h;rcases of_decide_eq_true h with rfl|rfl|rfl<;>simp
def LU(sc:ý)(x:Str):Bool:=(sc.names.lookup x).any λk=>decide<|k=.local\/k=.cell
def xh{sc:ý}{x:Str}(h:LU sc x=true):Loc sc x:=by
 unfold LU at h;unfold Loc;cases e:sc.names.lookup x with
 |none=>rw[e]at h;cases h|some k=>rw[e]at h;rcases of_decide_eq_true h with rfl|rfl<;>simp
def Look(env:Env)(h:Ñ)(m:Str->Option Á)(x:Str)(u:Á):Prop:=
 (env.kindOf x=some .local/\m x=some u)\/((env.kindOf x=some .cell\/env.kindOf x=some .free)/\∃c,env.cells.lookup x=some c/\h.IsCell c (some u))
structure Cx.Ok(X:Cx):Prop where
 mod:Mod X.K X.mg X.base
 kind:X.env.scope.kind=.function
 glob:X.env.globals=ġ
 blt:X.env.builtins=builtinsNs
 above:X.s₀.heap.objs.size<=X.env.locals
 inj:∀x y c,X.env.cells.lookup x=some c->X.env.cells.lookup y=some c->x=y
 has:∀x,(X.env.kindOf x=some .cell\/X.env.kindOf x=some .free)->∃c,X.env.cells.lookup x=some c
 cab:∀x c,X.fn x=true->X.env.cells.lookup x=some c->X.s₀.heap.objs.size<=c
 hd:X.calm=true->X.A.handled=none
 frames:X.A.frames=some X.stack
 stk:X.stack=X.outer\/(X.stack=X.env::X.outer/\X.env.frame=some X.env.locals)
 O1:∀b∈X.ex,b≠X.env.locals/\∀x c,X.env.cells.lookup x=some c->c≠b
 bs:∀b o,X.base.get? b=some o->X.s₀.heap.get? b=some o/\X.H₀ b=none
 DJ:X.base.objs.size<=X.s₀.heap.objs.size
 yz:∀b o,X.base.get? b=some o->b∉X.ex
 Cu:∀b∈X.ex,b∉X.fs
 oa:X.s₀.heap.FunFrames X.base X.outer
 Gd:∀b∈X.fs,X.H₀ b=none
 tb:yk X.K X.mg X.base X.H₀
structure Inv(X:Cx)(Ç:List (À×Obj))(σ:List (Option V))(H:Hp)(s:Ä):Prop where
 ok:X.Ok
 os:s.os=X.s₀.os
 bare:fq s.gens
 base:Un X.fs X.ex X.H₀ H X.s₀.heap s.heap
 loc:∃m,s.heap.Ns X.env.locals m/\∀(i:Nat) (x:Str) (v:V),X.N[i]?=some x->σ[i]?=some (some v)->Lg X.env.scope x->∃u,RelV v u/\Look X.env s.heap m x u
 cell:∀x c,X.env.cells.lookup x=some c->∃v,s.heap.IsCell c v
 free:H X.env.locals=none
 jT:∀x c,X.env.cells.lookup x=some c->H c=none
 pin:∀p∈X.pn++Ç,s.heap.get? p.1=some p.2/\H p.1=none/\p.1≠X.env.locals/\p.1∉X.fs/\∀v,p.2.data≠.cell v
 hok:n_ X.prog X.w H s.heap
 len:σ.length=X.N.length
section
variable{X:Cx}{Ç:List (À×Obj)}{σ:List (Option V)}{H H':Hp}{s:Ä}{h':Ñ}
def Cx.Ok.Q9(ok:X.Ok){b:À}{o:Obj}(e:X.base.get? b=some o):b∉X.fs:=λhb=>by have:=(ok.oa.mem hb).1;rw[e]at this;cases this
theorem Inv.bs(I:Inv X Ç σ H s):∀b o,X.base.get? b=some o->s.heap.get? b=some o/\H b=none:=λb o e=>
 ⟨I.base.keep b o (I.ok.bs b o e).1 (I.ok.bs b o e).2 (I.ok.Q9 e) (I.ok.yz b o e),I.base.free b o (I.ok.bs b o e).1 (I.ok.bs b o e).2 (I.ok.yz b o e)⟩
def Inv.bk(I:Inv X Ç σ H s):∀b o,X.base.get? b=some o->s.heap.get? b=some o:=λb o e=>(I.bs b o e).1
theorem Inv.tb(I:Inv X Ç σ H s):yk X.K X.mg X.base H:=λx c P hx e=>⟨(I.ok.tb x c P hx e).1,I.base.qi _ _ (I.ok.tb x c P hx e).2.1,(I.ok.tb x c P hx e).2.2⟩
theorem Inv.mod(I:Inv X Ç σ H s):Mod X.K X.mg X.base:=I.ok.mod
def Inv.mj(I:Inv X Ç σ H s):X.K.In s.heap:=I.ok.mod.HU.keeps I.bk
theorem Inv.lt(I:Inv X Ç σ H s):X.env.locals<s.heap.objs.size:=let ⟨_,hn,_⟩:=I.loc;hn.lt
def Inv.sz(I:Inv X Ç σ H s):X.s₀.heap.objs.size<=s.heap.objs.size:=ř I.ok.above<|nA I.lt
def Inv.Ra(I:Inv X Ç σ H s){a:À}(h:s.heap.objs.size<=a):a∉X.fs:=λhb=>by obtain⟨_,o,ho,_⟩:=I.ok.oa.mem hb;exact absurd (Š (ā ho)<|ř I.sz h)<|dR _
def Inv.IZ(I:Inv X Ç σ H s):∀x c,X.env.cells.lookup x=some c->c≠X.env.locals:=λx c e z=>by obtain⟨v,o,ho,hd⟩:=I.cell x c e;obtain⟨m,⟨o',es,ep,AF,Oo,_⟩,_⟩:=I.loc;rw[z,AF]at ho;cases ho;rw[Oo]at hd;cases hd
theorem Inv.oa(I:Inv X Ç σ H s):s.heap.FunFrames X.base X.outer:=by
 have all:∀(l:List Env),(∀b∈FC l,b∈X.fs)->X.s₀.heap.FunFrames X.base l->s.heap.FunFrames X.base l:=by
  intro l
  induction l with
  |nil=>intro _ _;trivial|cons env r ih=>intro hs hl;obtain⟨hk,⟨L,o,hf,hn,ho,hd⟩,hr⟩:=hl;have hL:L∈X.fs:=hs L (by unfold FC;rw[qG,hf];exact ϝ);obtain⟨sl,e⟩:=I.base.slot L o ho (I.ok.Gd L hL) hL λz=>I.ok.Cu L z hL;exact⟨hk,⟨L,_,hf,hn,e,hd⟩,ih (λb hb=>hs b (by unfold FC;rw[qG,hf];exact ð _ hb)) hr⟩
 exact all X.outer (λ_ hb=>hb) I.ok.oa
theorem Inv.stack(I:Inv X Ç σ H s):s.heap.FunFrames X.base X.stack:=by
 rcases I.ok.stk with e|⟨e,hf⟩
 ·rw[e];exact I.oa
 ·rw[e];obtain⟨m,hn,_⟩:=I.loc;refine .cons (by rw[I.ok.kind];decide) hf hn ?_ I.oa;exact Heap.get?_none_of_le<|ř I.ok.DJ I.ok.above
def Inv.xi(I:Inv X Ç σ H s):∀b∈FC X.stack,b∈X.env.locals::X.fs:=λb hb=>by
 rcases I.ok.stk with e|⟨e,hf⟩
 ·rw[e]at hb;exact ð _ hb
 ·rw[e]at hb;unfold FC at hb;rw[qG,hf]at hb;exact hb
def Inv.Bq(I:Inv X Ç σ H s):∀b∈FC X.stack,H b=none:=λb hb=>by
 rcases ö.mp (I.xi b hb)with e|hb
 ·rw[e];exact I.free
 ·obtain⟨_,o,ho,_⟩:=I.ok.oa.mem hb;exact I.base.free b o ho (I.ok.Gd b hb) λz=>I.ok.Cu b z hb
def Inv.step{g':Array GenState}{t':Nat}{d':Drawn}{ch:List À}(I:Inv X Ç σ H s)
 (DE:∀b∈ch,(b∈X.ex\/X.s₀.heap.objs.size<=b)/\b≠X.env.locals/\(∀x c,X.env.cells.lookup x=some c->c≠b)/\∀p∈X.pn++Ç,p.1≠b)
 (keep:∀b o,b≠X.env.locals->b∉X.fs->b∉ch->s.heap.get? b=some o->H b=none->h'.get? b=some o)
 (slot:∀b o,b≠X.env.locals->b∈X.fs->b∉ch->s.heap.get? b=some o->H b=none->∃sl,h'.get? b=some {o with slots:=sl})(free:∀b o,b∉ch->s.heap.get? b=some o->H b=none->H' b=none)
 (there:∀b o,b∉ch->s.heap.get? b=some o->∃o',h'.get? b=some o')
 (tups:∀b xs,H b=some (.tup xs)->H' b=some (.tup xs))(uy:∀b o u,H b=some (.fP o u)->H' b=some (.fP o u))(qi:∀b q,H b=some (.aj q)->H' b=some (.aj q))
 (ns:∀m,s.heap.Ns X.env.locals m->h'.Ns X.env.locals m)(hok:n_ X.prog X.w H' h')(hg:fq g'):
 Inv X Ç σ H' {s with heap:=h',gens:=g',drawn:=d',toks:=t'}:=by
 have VL:∀b o,X.s₀.heap.get? b=some o->b≠X.env.locals:=λb o e=>ŏ<|Š (ā e) I.ok.above;have O2:∀b o,X.s₀.heap.get? b=some o->b∉X.ex->b∉ch:=λb o e hx hb=>by
  rcases(DE b hb).1 with z|z
  ·exact hx z
  ·exact absurd (Š (ā e) z)<|dR _
 have II:∀x c,X.env.cells.lookup x=some c->∀v,s.heap.IsCell c v->h'.IsCell c v:=by
  rintro x c e v ⟨o,ho,hd⟩;have LV:c∉ch:=λz=>(DE c z).2.2.1 x c e rfl;by_cases hc:c∈X.fs
  ·obtain⟨sl,q⟩:=slot c o (I.IZ x c e) hc LV ho<|I.jT x c e;exact⟨_,q,hd⟩
  ·exact⟨o,keep c o (I.IZ x c e) hc LV ho<|I.jT x c e,hd⟩
 refine⟨I.ok,I.os,hg,⟨λb o e n hb hx=>?_,λb o e n hb hx=>?_,λb o e n hx=>?_,λb o e hx=>?_,λb xs e=>tups b xs<|I.base.tups b xs e,λb o xs e=>uy b o xs<|I.base.uy b o xs e,λb ps e=>?_⟩,?_,λx c e=>?_,?_,λx c e=>?_,λp hp=>?_,hok,I.len⟩
 ·exact keep b o (VL b o e) hb (O2 b o e hx) (I.base.keep b o e n hb hx)<|I.base.free b o e n hx
 ·obtain⟨sl,e1⟩:=I.base.slot b o e n hb hx;obtain⟨sl',e2⟩:=slot b _ (VL b o e) hb (O2 b o e hx) e1<|I.base.free b o e n hx;exact⟨sl',e2⟩
 ·obtain⟨o',e1⟩:=I.base.there b o e hx;exact free b o' (O2 b o e hx) e1<|I.base.free b o e n hx
 ·obtain⟨o',e1⟩:=I.base.there b o e hx;exact there b o' (O2 b o e hx) e1
 ·exact qi b ps<|I.base.qi b ps e
 ·obtain⟨m,hn,hl⟩:=I.loc;refine⟨m,ns m hn,λi x v e1 e2 e3=>?_⟩;obtain⟨u,r,l⟩:=hl i x v e1 e2 e3;refine⟨u,r,?_⟩;rcases l with l|⟨k,c,e,z⟩
  ·exact .inl l
  ·exact .inr ⟨k,c,e,II x c e _ z⟩
 ·obtain⟨v,z⟩:=I.cell x c e;exact⟨v,II x c e v z⟩
 ·obtain⟨m,⟨o,_,_,ho,_⟩,_⟩:=I.loc;exact free _ o (λz=>(DE _ z).2.1 rfl) ho I.free
 ·obtain⟨v,o,ho,hd⟩:=I.cell x c e;exact free c o (λz=>(DE c z).2.2.1 x c e rfl) ho<|I.jT x c e
 ·obtain⟨e,n,ne,nf,d⟩:=I.pin p hp;have LV:p.1∉ch:=λz=>(DE p.1 z).2.2.2 p hp rfl;exact⟨keep p.1 p.2 ne nf LV e n,free p.1 p.2 LV e n,ne,nf,d⟩
def Inv.un{t':Nat}(I:Inv X Ç σ H s)(u:Un X.fs [] H H' s.heap h')(hok:n_ X.prog X.w H' h'):Inv X Ç σ H' {s with heap:=h',toks:=t'}:=by obtain⟨m,⟨o,es,ep,ho,r⟩,_⟩:=id I.loc;obtain⟨sl,hL⟩:=u.any ho I.free (by simp);exact I.step (g':=s.gens) (d':=s.drawn) (ch:=[]) (λ_ z=>nomatch z) (λb o _ hb _ e n=>u.keep b o e n hb<|by simp) (λb o _ hb _ e n=>u.slot b o e n hb<|by simp) (λb o _ e n=>u.free b o e n<|by simp) (λb o _ e=>u.there b o e<|by simp) u.tups u.uy u.qi (λm' hm=>by obtain⟨o',Qqq0,Qqq1,AF,r'⟩:=hm;rw[ho]at AF;cases AF;exact⟨_,Qqq0,Qqq1,hL,r'⟩) hok I.bare
def Inv.call{g':Array GenState}{t':Nat}{d':Drawn}{ch:List À}(I:Inv X Ç σ H s)(u:Un (FC X.stack) ch H H' s.heap h')(hok:n_ X.prog X.w H' h')(hg:fq g')
 (DE:∀b∈ch,(b∈X.ex\/X.s₀.heap.objs.size<=b)/\b≠X.env.locals/\(∀x c,X.env.cells.lookup x=some c->c≠b)/\∀p∈X.pn++Ç,p.1≠b):
 Inv X Ç σ H' {s with heap:=h',gens:=g',drawn:=d',toks:=t'}:=by
 obtain⟨m,⟨o,es,ep,ho,r⟩,_⟩:=id I.loc;obtain⟨sl,hL⟩:=u.any ho I.free λz=>(DE _ z).2.1 rfl;exact I.step (ch:=ch) DE (λb o hL hb hc e n=>u.keep b o e n (λz=>(ö.mp<|I.xi b z).elim hL hb) hc) (λb o _ _ hc e n=>u.any e n hc) (λb o hc e n=>u.free b o e n hc) (λb o hc e=>u.there b o e hc) u.tups u.uy u.qi (λm' hm=>by obtain⟨o',Qqq0,Qqq1,AF,r'⟩:=hm;rw[ho]at AF;cases AF;exact⟨_,Qqq0,Qqq1,hL,r'⟩) hok hg
def Inv.turned{t':Nat}{it:À}(I:Inv X Ç σ H s)(k:∀b o,b≠it->s.heap.get? b=some o->h'.get? b=some o)(hn:H it=none)(hL:it≠X.env.locals)
 (h1:it∈X.ex\/X.s₀.heap.objs.size<=it)(h2:∀x c,X.env.cells.lookup x=some c->c≠it)(h3:∀p∈X.pn++Ç,p.1≠it):Inv X Ç σ H {s with heap:=h',toks:=t'}:=by
 have LW:∀b u,H b=some u->b≠it:=λb u e z=>by rw[z,hn]at e;cases e
 refine I.step (g':=s.gens) (d':=s.drawn) (ch:=[it]) (λb hb=>?_) (λb o _ _ hc e _=>k b o (λz=>hc<|by simp[z]) e) (λb o _ _ hc e _=>⟨o.slots,k b o (λz=>hc<|by simp[z]) e⟩) (λ_ _ _ _ n=>n)
  (λb o hc e=>⟨o,k b o (λz=>hc<|by simp[z]) e⟩) (λ_ _ e=>e) (λ_ _ _ e=>e) (λ_ _ e=>e) (λm hm=>?_) (λb u e=>?_) I.bare
 ·have e:b=it:=by simpa using hb
  subst e;exact⟨h1,hL,h2,h3⟩
 ·obtain⟨o,es,ep,ho,r⟩:=hm;exact⟨o,es,ep,k _ o (Ē hL) ho,r⟩
 ·refine(I.hok b u e).stay (λc v hc q=>k c v ?_ q) (λ_ q=>q) λ_ _ q=>q;rcases hc with z|z
  ·rw[z];exact LW b u e
  ·exact LW c _ z
def Inv.tok(I:Inv X Ç σ H s)(t:Nat):Inv X Ç σ H {s with toks:=t}:=I.un (h':=s.heap) (t':=t) Un.refl I.hok
theorem Inv.kept{t':Nat}(I:Inv X Ç σ H s)(k:∀b u,s.heap.get? b=some u->h'.get? b=some u):Inv X Ç σ H {s with heap:=h',toks:=t'}:=I.un (Un.kept k)<|I.hok.kept k
theorem Inv.laid{a:À}{o:HO}{t':Nat}(I:Inv X Ç σ H s)(k:∀b u,s.heap.get? b=some u->h'.get? b=some u)(hp:s.heap.objs.size<=a)(new:cD X.prog X.w (upd H a o) h' a o):
 Inv X Ç σ (upd H a o) {s with heap:=h',toks:=t'}:=I.un (Un.laid k hp<|I.hok.fresh hp)<|I.hok.laid k hp new
theorem Inv.write{x e:À}{o:HO}{t':Nat}(I:Inv X Ç σ H s)(mu:O_ (H x))(he:e=x\/H e=some (.own x))(k:∀b u,b≠e->s.heap.get? b=some u->h'.get? b=some u)(LK:∃u,h'.get? e=some u)
 (new:cD X.prog X.w (upd H x o) h' x o):Inv X Ç σ (upd H x o) {s with heap:=h',toks:=t'}:=I.un (Un.write mu he k LK)<|I.hok.write mu he k LK new
def Inv.Br{uI:List (À×Obj)}(I:Inv X Ç σ H s)(h:∀p∈uI,s.heap.get? p.1=some p.2/\H p.1=none/\p.1≠X.env.locals/\p.1∉X.fs/\∀v,p.2.data≠.cell v):Inv X uI σ H s:=
 ⟨I.ok,I.os,I.bare,I.base,I.loc,I.cell,I.free,I.jT,λp hp=>(aH.mp hp).elim (λz=>I.pin p<|kU _ z) (h p),I.hok,I.len⟩
def yA{N:List Str}(hN:N.Nodup){i j:Nat}{x:Str}(a:N[i]?=some x)(b:N[j]?=some x):i=j:=by obtain⟨h1,e1⟩:=fh.mp a;obtain⟨h2,e2⟩:=fh.mp b;exact(List.getElem_inj hN).mp (e1.trans e2.symm)
def uJ{M:fv}{A:ì}{E:Á->Ä->Prop}{i:Nat}{x:Str}{v:V}{u:Á}{Q:Unit->Ä->Prop}(I:Inv X Ç σ H s)(hN:X.N.Nodup)(hi:X.N[i]?=some x)(hx:Loc X.env.scope x)(r:RelV v u)
 (h:∀s',Inv X Ç (σ.set i<|some v) H s'->(∃a,Ţ a s.heap s'.heap/\(a=X.env.locals\/X.env.cells.lookup x=some a))->Q () s')(hf:X.fn x=true\/X.env.scope.names.lookup x=some .local:=by first|exact .inl rfl|exact .inr rfl|assumption):Ï M A (storeName X.env x u) Q E s:=by
 obtain⟨m,hn,hl⟩:=id I.loc;have Qqq2:(X.env.scope.kind==.class||(X.env.scope.kind==.module&&X.env.locals !=X.env.globals))=false:=by rw[I.ok.kind];rfl
 have VM:i<σ.length:=by rw[I.len];exact(fh.mp hi).1
 have IZ:=I.IZ;have Cn:∀{a:À}{h':Ñ},(∃o,s.heap.get? a=some o/\H a=none)->Ţ a s.heap h'->n_ X.prog X.w H h':=fun{a h'} ha hs b ob e=>by
  obtain⟨_,_,hfree⟩:=ha;refine(I.hok b ob e).stay (λc w' hc q=>(hs.2 c ?_).trans q) (λ_ q=>q) λ_ _ q=>q;rintro rfl;rcases hc with rfl|hc
  ·rw[hfree]at e;cases e
  ·rw[hfree]at hc;cases hc
 rcases hx with hk|hk
 ·refine wpAny_storeName_local hk hn (λh' hn' hs=>?_) Qqq2;obtain⟨oL,_,_,hoL,_⟩:=id hn;refine h _ ⟨I.ok,I.os,I.bare,⟨λb o e n hb hx=>?_,λb o e n hb hx=>?_,I.base.free,λb o e hx=>?_,I.base.tups,I.base.uy,I.base.qi⟩,⟨_,hn',λj y v' e1 e2 e3=>?_⟩,λy c e=>?_,I.free,I.jT,λp hp=>?_,Cn ⟨oL,hoL,I.free⟩ hs,by simpa using I.len⟩ ⟨_,hs,.inl rfl⟩
  ·exact(hs.2 b<|ŏ<|Š (ā e) I.ok.above).trans (I.base.keep b o e n hb hx)
  ·obtain⟨sl,e1⟩:=I.base.slot b o e n hb hx;exact⟨sl,(hs.2 b<|ŏ<|Š (ā e) I.ok.above).trans e1⟩
  ·obtain⟨o',e1⟩:=I.base.there b o e hx;exact⟨o',(hs.2 b<|ŏ<|Š (ā e) I.ok.above).trans e1⟩
  ·by_cases hj:j=i
   ·subst hj;rw[hi]at e1;cases e1;rw[nh VM]at e2;cases e2;exact⟨u,r,.inl ⟨hk,by simp⟩⟩
   ·rw[i_<|Ē hj]at e2;obtain⟨u',r',q⟩:=hl j y v' e1 e2 e3;refine⟨u',r',?_⟩;rcases q with⟨k,e⟩|⟨k,c,e,z⟩
    ·refine .inl ⟨k,?_⟩;have:y≠x:=λe=>hj<|yA hN e1<|e▸hi;simp[this,e]
    ·exact .inr ⟨k,c,e,z.sameBut hs<|IZ y c e⟩
  ·obtain⟨w',z⟩:=I.cell y c e;exact⟨w',z.sameBut hs<|IZ y c e⟩
  ·obtain⟨e,n,ne,nf,d⟩:=I.pin p hp;exact⟨(hs.2 p.1 ne).trans e,n,ne,nf,d⟩
 ·have Qqq3:X.fn x=true:=by
   rcases hf with z|z
   ·exact z
   ·rw[z]at hk;cases hk
  obtain⟨c,hc⟩:=I.ok.has x<|.inl hk;obtain⟨w',z⟩:=I.cell x c hc;refine wpAny_storeName_cell I.ok.kind hk hc z<|λh' Op hs=>?_;obtain⟨oc,Yd,Rb⟩:=id z;refine h {s with heap:=h'} ⟨I.ok,I.os,I.bare,⟨λb o e n hb hx=>?_,λb o e n hb hx=>?_,I.base.free,λb o e hx=>?_,I.base.tups,I.base.uy,I.base.qi⟩,⟨m,hn.sameBut hs<|Ē<|IZ x c hc,λj y v' e1 e2 e3=>?_⟩,λy c' e=>?_,I.free,I.jT,λp hp=>?_,Cn ⟨oc,Yd,I.jT x c hc⟩ hs,by simpa using I.len⟩ ⟨c,hs,.inr hc⟩
  ·exact(hs.2 b<|ŏ<|Š (ā e)<|I.ok.cab x c Qqq3 hc).trans (I.base.keep b o e n hb hx)
  ·obtain⟨sl,e1⟩:=I.base.slot b o e n hb hx;exact⟨sl,(hs.2 b<|ŏ<|Š (ā e)<|I.ok.cab x c Qqq3 hc).trans e1⟩
  ·obtain⟨o',e1⟩:=I.base.there b o e hx;exact⟨o',(hs.2 b<|ŏ<|Š (ā e)<|I.ok.cab x c Qqq3 hc).trans e1⟩
  ·by_cases hj:j=i
   ·subst hj;rw[hi]at e1;cases e1;rw[nh VM]at e2;cases e2;exact⟨u,r,.inr ⟨.inl hk,c,hc,Op⟩⟩
   ·rw[i_<|Ē hj]at e2;obtain⟨u',r',q⟩:=hl j y v' e1 e2 e3;refine⟨u',r',?_⟩;rcases q with q|⟨k,c',e,z'⟩
    ·exact .inl q
    ·refine .inr ⟨k,c',e,z'.sameBut hs ?_⟩;rintro rfl;exact hj<|yA hN e1<|I.ok.inj _ _ _ e hc▸hi
  ·by_cases Ye:c'=c
   ·subst Ye;exact⟨_,Op⟩
   ·obtain⟨w2,z2⟩:=I.cell y c' e;exact⟨w2,z2.sameBut hs Ye⟩
  ·obtain⟨e,n,ne,nf,d⟩:=I.pin p hp;refine⟨(hs.2 p.1 ?_).trans e,n,ne,nf,d⟩;intro q;rw[q,Yd]at e;have q':oc=p.2:=š e;exact d w' (by rw[<-q'];exact Rb)
def sG{M:fv}{A:ì}{E:Á->Ä->Prop}{i:Nat}{x:Str}{v:V}{u:Á}{Q:Unit->Ä->Prop}(I:Inv X Ç σ H s)(hN:X.N.Nodup)(hi:X.N[i]?=some x)(hx:Loc X.env.scope x)(r:RelV v u)
 (h:∀s',Inv X Ç (σ.set i<|some v) H s'->Q () s')(hf:X.fn x=true\/X.env.scope.names.lookup x=some .local:=by first|exact .inl rfl|exact .inr rfl|assumption):Ï M A (storeName X.env x u) Q E s:=
 uJ I hN hi hx r (λs' I' _=>h s' I') hf
def Inv.call'{s':Ä}{ch:List À}(I:Inv X Ç σ H s)(ho:s'.os=s.os)(u:Un (FC X.stack) ch H H' s.heap s'.heap)(hok:n_ X.prog X.w H' s'.heap)(hg:fq s'.gens)
 (DE:∀b∈ch,(b∈X.ex\/X.s₀.heap.objs.size<=b)/\b≠X.env.locals/\(∀x c,X.env.cells.lookup x=some c->c≠b)/\∀p∈X.pn++Ç,p.1≠b):Inv X Ç σ H' s':=by
 obtain⟨h',g',d',t',o'⟩:=s';have e:o'=s.os:=ho;subst e;exact I.call (g':=g') (t':=t') (d':=d') u hok hg DE
end
abbrev XK:=Á->Option À->Hp->Prop
abbrev St:=List<|Option V
abbrev Ċ:=St
abbrev VK:=V->Hp->Prop
abbrev TE:=St->Hp->VK->Prop
abbrev TT:=St->Hp->(Bool->Hp->Prop)->Prop
abbrev TA:=St->Hp->(List V->Hp->Prop)->Prop
structure Ends where
 nx:St->Hp->Prop
 rt:VK
 bk:St->Hp->Prop:=λ_ _=>False
 ct:St->Hp->Prop:=λ_ _=>False
abbrev TS:=Ends->St->Hp->Prop
def EP(X:Cx)(Ç:List (À×Obj))(a:St)(Q:VK)(u:Á)(s':Ä):Prop:=∃v H',Inv X Ç a H' s'/\RelV v u/\Q v H'
def TP(X:Cx)(Ç:List (À×Obj))(a:St)(Q:Bool->Hp->Prop)(b:Bool)(s':Ä):Prop:=∃H',Inv X Ç a H' s'/\Q b H'
def AP(X:Cx)(Ç:List (À×Obj))(a:St)(Q:List V->Hp->Prop)(us:List Á)(s':Ä):Prop:=∃vs H',Inv X Ç a H' s'/\ł vs us/\Q vs H'
def SP(X:Cx)(Ç:List (À×Obj))(D:Ends)(f:Flow)(s':Ä):Prop:=
 match f with
 |.next=>∃a H',Inv X Ç a H' s'/\D.nx a H'|.brk=>∃a H',Inv X Ç a H' s'/\D.bk a H'|.cont=>∃a H',Inv X Ç a H' s'/\D.ct a H'|.ret u=>∃v a H',Inv X Ç a H' s'/\RelV v u/\D.rt v H'
def PE(X:Cx)(e:È)(t:TE):Prop:=
 ∀(Ç:List (À×Obj)) (s:Ä) (a:St) (H:Hp) (Q:VK),Inv X Ç a H s->t a H Q->Ï (Ü X.prog X.w) X.A (eval e X.env) (EP X Ç a Q) X.xe s
def PT(X:Cx)(e:È)(t:TT):Prop:=
 ∀(Ç:List (À×Obj)) (s:Ä) (a:St) (H:Hp) (Q:Bool->Hp->Prop),Inv X Ç a H s->t a H Q->Ï (Ü X.prog X.w) X.A (isTrue e X.env<|eval e X.env) (TP X Ç a Q) X.xe s
def PW(X:Cx)(e:È)(t:TT):Prop:=
 ∀(whole:Sem Á) (Ç:List (À×Obj)) (s:Ä) (a:St) (H:Hp) (Q:Bool->Hp->Prop),Inv X Ç a H s->t a H Q->Ï (Ü X.prog X.w) X.A (isTrue e X.env whole) (TP X Ç a Q) X.xe s
def PW.pt{X:Cx}{e:È}{t:TT}(h:PW X e t):PT X e t:=h _
def PA(X:Cx)(es:List È)(t:TA):Prop:=
 ∀(pos:Pos) (Ç:List (À×Obj)) (s:Ä) (a:St) (H:Hp) (Q:List V->Hp->Prop),Inv X Ç a H s->t a H Q->Ï (Ü X.prog X.w) X.A (spliced<|Ć pos<|Ð es X.env) (AP X Ç a Q) X.xe s
def PS(X:Cx)(st:ò)(t:TS):Prop:=
 ∀(Ç:List (À×Obj)) (s:Ä) (a:St) (H:Hp) (D:Ends),Inv X Ç a H s->t D a H->Ï (Ü X.prog X.w) X.A (exec st X.env) (SP X Ç D) X.xe s
def dB(X:Cx)(st:List ò)(t:TS):Prop:=
 ∀(Ç:List (À×Obj)) (s:Ä) (a:St) (H:Hp) (D:Ends),Inv X Ç a H s->t D a H->Ï (Ü X.prog X.w) X.A (execs st X.env) (SP X Ç D) X.xe s
def ϙ{α:Type}{t:Sem α}{Q Q':α->Ä->Prop}{M:fv}{A:ì}{E:Á->Ä->Prop}{s:Ä}(h:Ï M A t Q E s)(hQ:∀a s,Q a s->Q' a s):Ï M A t Q' E s:=bu h hQ λ_ _ x=>x
section
variable{X:Cx}
def jm(i:Nat):TE:=λa H Q=>∃v,a[i]?=some (some v)/\Q v H
def tC(v:V):TE:=λ_ H Q=>Q v H
def I_{i:Nat}{x:Str}{pos:Pos}(hN:X.N[i]?=some x)(hv:Lg X.env.scope x)(hd:(x==("__debug__":Str))=false:=by kernel_rfl)(Dj:(x==("__classdict__":Str))=false:=by kernel_rfl):PE X (.Name x pos) (jm i):=by
 intro Ç s a H Q I h;obtain⟨v,e,h⟩:=h;obtain⟨m,hn,hl⟩:=I.loc;obtain⟨u,r,l⟩:=hl i x v hN e hv;have mV:EP X Ç a Q u s:=⟨v,H,I,r,h⟩;rcases l with⟨hk,hm⟩|⟨hk,c,hc,hcell⟩
 ·exact wpAny_Name (wpAny_loadName_local I.ok.kind hk hn hm mV) hd
 ·rcases hk with hk|hk
  ·exact wpAny_Name (wpAny_loadName_cell I.ok.kind hk hc hcell mV) hd
  ·exact wpAny_Name (wpAny_loadName_free I.ok.kind hk hc hcell mV Dj) hd
def Cw(X:Cx)(i:Nat)(x:Str):Bool:=decide (X.N[i]?=some x)&&(IX X.env.scope x&&(!(x==("__debug__":Str))&&!(x==("__classdict__":Str))))
def lM{i:Nat}{x:Str}{pos:Pos}(h:Cw X i x=true):PE X (.Name x pos) (jm i):=by unfold Cw at h;rw[Ă,Ă,Ă,Bool.not_eq_true',Bool.not_eq_true',decide_eq_true_eq]at h;exact I_ h.1 (IY h.2.1) h.2.2.1 h.2.2.2
def xj{i j pos}:PE X (.Constant (.int i) j pos) (tC<|.int i):=λ_ _ _ H _ I h=>wpAny_Constant_int ⟨.int i,H,I.tok _,⟨_,rfl⟩,h⟩
def LX{b j pos}:PE X (.Constant (.bool b) j pos) (tC<|.bl b):=λ_ _ _ H _ I h=>Constant_bool ⟨.bl b,H,I,rfl,h⟩
def I0{j pos}:PE X (.Constant .none j pos) (tC .non):=λ_ _ _ H _ I h=>Constant_none ⟨.non,H,I,rfl,h⟩
def Ja{x j pos}:PE X (.Constant (.str x) j pos) (tC<|.str x):=λ_ _ _ H _ I h=>Calls.Constant_str ⟨.str x,H,I.tok _,⟨_,rfl⟩,h⟩
abbrev Gl(X:Cx)(x:Str):Prop:=X.env.kindOf x=some .globalImplicit
def se{E:Á->Ä->Prop}{Ç:List (À×Obj)}{s:Ä}{a:St}{H:Hp}{x:Str}{u:Á}{pos:Pos}{Q:Á->Ä->Prop}(I:Inv X Ç a H s)(hg:Gl X x)(hm:X.mg x=some u)(h:Q u s)
 (hd:(x==("__debug__":Str))=false:=by kernel_rfl):Ï (Ü X.prog X.w) X.A (eval (.Name x pos) X.env) Q E s:=
 A7 I.ok.kind hg (Calls.loadGlobal_global (by rw[I.ok.glob];exact I.mod.glob.keeps I.bk) hm h) hd
def mq{E:Á->Ä->Prop}{Ç:List (À×Obj)}{s:Ä}{a:St}{H:Hp}{x:Str}{u:Á}{pos:Pos}{Q:Á->Ä->Prop}(I:Inv X Ç a H s)(hg:Gl X x)(hm:X.mg x=none)(hv:fu x=some u)(h:Q u s)
 (hn:x≠"__name__":=by decide)(hd:(x==("__debug__":Str))=false:=by kernel_rfl):Ï (Ü X.prog X.w) X.A (eval (.Name x pos) X.env) Q E s:=by
 obtain⟨mb,h1,h2⟩:=I.mod.blt;exact A7 I.ok.kind hg (Calls.loadGlobal_builtin (by rw[I.ok.glob];exact I.mod.glob.keeps I.bk) hm (by rw[I.ok.blt];exact h1.keeps I.bk) ((h2 x hn).trans hv) h) hd
def xk{x:Str}{v:V}{u:Á}{pos:Pos}(hg:Gl X x)(hm:X.mg x=some u)(r:RelV v u)(hd:(x==("__debug__":Str))=false:=by kernel_rfl):PE X (.Name x pos) (tC v):=
 λ_ _ _ H _ I h=>se I hg hm ⟨v,H,I,r,h⟩ hd
def jo{x:Str}{v:V}{u:Á}{pos:Pos}(hg:Gl X x)(hm:X.mg x=none)(hv:fu x=some u)(r:RelV v u)(hn:x≠"__name__":=by decide)(hd:(x==("__debug__":Str))=false:=by kernel_rfl):PE X (.Name x pos) (tC v):=
 λ_ _ _ H _ I h=>mq I hg hm hv ⟨v,H,I,r,h⟩ hn hd
variable{a b:È}{ta tb:TE}{pos:Pos}
variable{tA LY:TT}{rest:List È}
def Rc(t u:TT):TT:=λd H Q=>t d H λc H1=>if c=true then u d H1 Q else Q false H1
def YH(t u:TT):TT:=λd H Q=>t d H λc H1=>if c=true then Q true H1 else u d H1 Q
def Rf(t:TT):TT:=λd H Q=>t d H λc H1=>Q (!c) H1
def Ge(ha:PT X a tA):PW X (.BoolOp .And [a] pos) tA:=by
 intro wh Ç s d H Q I h;refine isTrue_and<|ϙ (ha Ç s d H Q I h) λc s1 e=>?_;cases c with
 |true=>exact isTrue_and_nil e|false=>exact e
def Jb(ha:PT X a tA):PW X (.BoolOp .Or [a] pos) tA:=by
 intro wh Ç s d H Q I h;refine isTrue_or<|ϙ (ha Ç s d H Q I h) λc s1 e=>?_;cases c with
 |false=>exact isTrue_or_nil e|true=>exact e
def Jc(ha:PT X a tA)(hb:PW X (.BoolOp .And (b::rest) pos) LY):PW X (.BoolOp .And (a::b::rest) pos) (Rc tA LY):=by
 intro wh Ç s d H Q I h;refine isTrue_and<|ϙ (ha Ç s d H _ I h) λc s1 zz=>?_;obtain⟨H1,I1,q1⟩:=zz;cases c with
 |true=>exact hb wh Ç s1 d H1 Q I1 q1|false=>exact⟨H1,I1,q1⟩
def LZ(ha:PT X a tA)(hb:PW X (.BoolOp .Or (b::rest) pos) LY):PW X (.BoolOp .Or (a::b::rest) pos) (YH tA LY):=by
 intro wh Ç s d H Q I h;refine isTrue_or<|ϙ (ha Ç s d H _ I h) λc s1 zz=>?_;obtain⟨H1,I1,q1⟩:=zz;cases c with
 |true=>exact⟨H1,I1,q1⟩|false=>exact hb wh Ç s1 d H1 Q I1 q1
def Jd(ha:PT X a tA):PT X (.UnaryOp .Not a pos) (Rf tA):=λÇ s d H Q I h=>isTrue_not<|ha Ç s d H (λc H1=>Q (!c) H1) I h
def Je{op}{t:TE}(h:PE X a t):PE X (.BoolOp op [a] pos) t:=λÇ s c H Q I hw=>BoolOp_one<|h Ç s c H Q I hw
def YI(t:TT)(ta tb:TE):TE:=λd H Q=>t d H λc H1=>if c=true then ta d H1 Q else tb d H1 Q
def DK{c:È}(hc:PT X c tA)(ha:PE X a ta)(hb:PE X b tb):PE X (.IfExp c a b pos) (YI tA ta tb):=by
 intro Ç s e H Q I h;refine wpAny_IfExp<|ϙ (hc Ç s e H _ I h) λd s1 zz=>?_;obtain⟨H1,I1,q1⟩:=zz;cases d with
 |true=>exact ha Ç s1 e H1 Q I1 q1|false=>exact hb Ç s1 e H1 Q I1 q1
end
def ϱ(K:Î)(H:Hp)(a:À)(xs:List V):Prop:=
 Rd H a (.lst xs)\/
  ∃(o:Obj) (ď:Array Á) (n:Nat),K.lookup a=some o/\o.cls=.type "list"/\o.dict=none/\o.data=.seq ď n/\ď.size<=sizeLine/\ł xs ď.toList
def fL(K:Î)(H:Hp)(a:À)(xs:List V):Prop:=
 Rd H a (.tup xs)\/
  ∃(o:Obj) (ď:Array Á) (n:Nat),K.lookup a=some o/\o.cls=.type "tuple"/\o.data=.seq ď n/\ď.size<=sizeLine/\ł xs ď.toList
noncomputable def Rg:Á->Option V
 |.none=>some .non|.bool b=>some<|.bl b|.int i _=>some<|.int i|.str x _=>some<|.str x|.bytes b _=>some<|.HS b|.float b _=>some<|.flt b|.ref a=>some<|.ref a|.type n=>some<|.ty n|_=>none
def RelV.abs{x:V}{u:Á}(r:RelV x u):Rg u=some x:=by
 cases x with
 |non=>cases r;rfl|bl _=>cases r;rfl|int _=>obtain⟨t,rfl⟩:=r;rfl|str _=>obtain⟨t,rfl⟩:=r;rfl|HS _=>obtain⟨t,rfl⟩:=r;rfl|flt _=>obtain⟨t,rfl⟩:=r;rfl|ref _=>cases r;rfl|ty _=>cases r;rfl
def RelV.inj{x y:V}{u:Á}(r:RelV x u)(q:RelV y u):x=y:=š<|r.abs.symm.trans q.abs
theorem ł.inj:∀{xs ys:List V}{us:List Á},ł xs us->ł ys us->xs=ys:=by
 intro xs ys us h g
 induction h generalizing ys with
 |nil=>cases g;rfl|cons r t ih=>
  cases g with
  |cons r2 t2=>rw[r.inj r2,ih t2]
section
variable{X:Cx}{Ç:List (À×Obj)}{σ:St}{H:Hp}{s:Ä}{a:À}{xs ys:List V}
def ϱ.of{K:Î}(h:H a=some (.lst xs)):ϱ K H a xs:=.inl<|.inl h
def fL.of{K:Î}(h:H a=some (.tup xs)):fL K H a xs:=.inl<|.inl h
def Inv.list(I:Inv X Ç σ H s)(h:ϱ X.K H a xs):∃ď:List Á,ł xs ď/\PlainL s.heap a ď.toArray/\xs.length<=sizeLine:=by
 rcases h with h|⟨o,ď,n,hk,hc,hd,hs,hz,r⟩
 ·obtain⟨z,ď,n,r,e⟩:=h.ok I.hok;exact⟨ď,r,⟨_,n,e,rfl,rfl,rfl⟩,z⟩
 ·refine⟨ď.toList,r,⟨o,n,I.mj a o hk,hc,hd,by simpa using hs⟩,?_⟩;have e:=r.length;simp only[cI]at e;lia
def Inv.tuple(I:Inv X Ç σ H s)(h:fL X.K H a xs):∃ď:List Á,ł xs ď/\IsTup s.heap a ď.toArray/\xs.length<=sizeLine:=by
 rcases h with h|⟨o,ď,n,hk,hc,hs,hz,r⟩
 ·obtain⟨z,ď,r,p⟩:=h.ok I.hok;exact⟨ď,r,p,z⟩
 ·refine⟨ď.toList,r,⟨o,I.mj a o hk,hc,n,by simpa using hs⟩,?_⟩;have e:=r.length;simp only[cI]at e;lia
def Inv.sI(I:Inv X Ç σ H s)(h:ϱ X.K H a xs)(h':ϱ X.K H a ys):xs=ys:=by
 obtain⟨ď,r,⟨o,n,e,_,_,d⟩,_⟩:=I.list h;obtain⟨its',r',⟨o',n',e',_,_,d'⟩,_⟩:=I.list h';rw[e]at e';cases e';rw[d]at d';injection d' with d1 _
 have:ď=its':=by simpa using congrArg Array.toList d1
 subst this;exact r.inj r'
def Inv.uK(I:Inv X Ç σ H s)(h:fL X.K H a xs)(h':fL X.K H a ys):xs=ys:=by
 obtain⟨ď,r,⟨o,e,_,n,d⟩,_⟩:=I.tuple h;obtain⟨its',r',⟨o',e',_,n',d'⟩,_⟩:=I.tuple h';rw[e]at e';cases e';rw[d]at d';injection d' with d1 _
 have:ď=its':=by simpa using congrArg Array.toList d1
 subst this;exact r.inj r'
end
noncomputable abbrev Cx.wish(X:Cx)(E:Á->Ä->Prop):Cx:={X with xe:=E}
abbrev Cx.ϧ(X:Cx):Cx:=X.wish λ_ _=>False
theorem Cx.Ok.wish{X:Cx}(ok:X.Ok)(E:Á->Ä->Prop):(X.wish E).Ok:=
 ⟨ok.mod,ok.kind,ok.glob,ok.blt,ok.above,ok.inj,ok.has,ok.cab,ok.hd,ok.frames,ok.stk,ok.O1,ok.bs,ok.DJ,ok.yz,ok.Cu,ok.oa,ok.Gd,ok.tb⟩
def Cx.Ok.jp{X:Cx}{E:Á->Ä->Prop}(ok:(X.wish E).Ok):X.Ok:=
 ⟨ok.mod,ok.kind,ok.glob,ok.blt,ok.above,ok.inj,ok.has,ok.cab,ok.hd,ok.frames,ok.stk,ok.O1,ok.bs,ok.DJ,ok.yz,ok.Cu,ok.oa,ok.Gd,ok.tb⟩
section
variable{X:Cx}{Ç:List (À×Obj)}{σ:St}{H:Hp}{s:Ä}{E:Á->Ä->Prop}
theorem Inv.wish(I:Inv X Ç σ H s)(E:Á->Ä->Prop):Inv (X.wish E) Ç σ H s:=⟨I.ok.wish E,I.os,I.bare,I.base,I.loc,I.cell,I.free,I.jT,I.pin,I.hok,I.len⟩
theorem Inv.jp(I:Inv (X.wish E) Ç σ H s):Inv X Ç σ H s:=⟨I.ok.jp,I.os,I.bare,I.base,I.loc,I.cell,I.free,I.jT,I.pin,I.hok,I.len⟩
theorem SP.jp{D:Ends}{f:Flow}{s':Ä}(h:SP (X.wish E) Ç D f s'):SP X Ç D f s':=by
 cases f with
 |next=>obtain⟨a,H',I,q⟩:=h;exact⟨a,H',I.jp,q⟩|brk=>obtain⟨a,H',I,q⟩:=h;exact⟨a,H',I.jp,q⟩|cont=>obtain⟨a,H',I,q⟩:=h;exact⟨a,H',I.jp,q⟩|ret u=>obtain⟨v,a,H',I,r,q⟩:=h;exact⟨v,a,H',I.jp,r,q⟩
theorem PE.ϧ{e:È}{t:TE}(h:PE X.ϧ e t):PE X e t:=λÇ s σ H Q I hw=>
 bu (h Ç s σ H Q (I.wish _) hw) (λ_ _ ⟨v,H',I',r,q⟩=>⟨v,H',I'.jp,r,q⟩) λ_ _ z=>aG z
end
section
variable{X:Cx}{st:ò}{rest:List ò}{t u:TS}{e:È}{te:TE}{pos:Pos}
def L_:TS:=λD a H=>D.nx a H
def Rh(t u:TS):TS:=λD a H=>t {D with nx:=u D} a H
def Bs:dB X [] L_:=λ_ _ a H _ I h=>nH ⟨a,H,I,h⟩
def io(h1:PS X st t)(h2:dB X rest u):dB X (st::rest) (Rh t u):=by
 intro Ç s b H D I h;refine wpAny_execs_cons<|ϙ (h1 Ç s b H {D with nx:=u D} I h) λf s1 q=>?_;cases f with
 |next=>obtain⟨a,H',I',q⟩:=q;exact h2 Ç s1 a H' D I' q|ret v=>exact q|brk=>exact q|cont=>exact q
def jq(h1:PS X st t):dB X [st] t:=by
 intro Ç s a H D I h;refine wpAny_execs_cons<|ϙ (h1 Ç s a H D I h) λf s1 q=>?_;cases f with
 |next=>exact nH q|ret v=>exact q|brk=>exact q|cont=>exact q
def Inv.quiet{Ç:List (À×Obj)}{a:St}{H:Hp}{s:Ä}(I:Inv X Ç a H s):interactive X.env=false:=by simp[interactive,I.ok.kind]
def sJ(te:TE):TS:=λD a H=>te a H λ_ H1=>D.nx a H1
def ϵ(he:PE X e te)(hs:ū e none pos.line X.env=ñ false:=by kernel_rfl):PS X (.Expr e pos) (sJ te):=λÇ s a H D I h=>wpAny_Expr_any (ϙ (he Ç s a H _ I h) λv s1 ⟨x,H1,I1,r1,q1⟩=>⟨a,H1,I1,q1⟩) I.quiet hs
def Ri(te:TE):TS:=λD a H=>te a H D.rt
def Jf(he:PE X e te):PS X (.Return (some e) pos) (Ri te):=λÇ s a H D I h=>wpAny_Return_some<|ϙ (he Ç s a H _ I h) λv s1 ⟨x,H1,I1,r1,q1⟩=>⟨x,a,H1,I1,r1,q1⟩
def Rj(c:TT)(t u:TS):TS:=λD a H=>c a H λb H1=>if b=true then t D a H1 else u D a H1
def DM{c:È}{a b:List ò}{tc:TT}(hc:PT X c tc)(ha:dB X a t)(hb:dB X b u):PS X (.If c a b pos) (Rj tc t u):=by
 intro Ç s f H D I h;refine wpAny_If<|ϙ (hc Ç s f H _ I h) λd s1 zz=>?_;obtain⟨H1,I1,q1⟩:=zz;cases d with
 |true=>exact ha Ç s1 f H1 D I1 q1|false=>exact hb Ç s1 f H1 D I1 q1
def Jg:TS:=λ_ _ _=>False
def DN:PS X st Jg:=λ_ _ _ _ _ _ h=>h.elim
end
abbrev TG:=V->St->Hp->(St->Hp->Prop)->Prop
abbrev DO:=List V->St->Hp->(St->Hp->Prop)->Prop
def PG(X:Cx)(target:È)(t:TG):Prop:=
 ∀(Ç:List (À×Obj)) (s:Ä) (b:St) (H:Hp) (v:V) (u:Á) (Q:St->Hp->Prop),Inv X Ç b H s->RelV v u->t v b H Q->
  Ï (Ü X.prog X.w) X.A (cO target X.env u) (λ_ s'=>∃a H',Inv X Ç a H' s'/\Q a H') X.xe s
def zy(X:Cx)(ts:List È)(t:DO):Prop:=
 ∀(Ç:List (À×Obj)) (s:Ä) (b:St) (H:Hp) (vs:List V) (us:List Á) (Q:St->Hp->Prop),Inv X Ç b H s->ł vs us->t vs b H Q->
  Ï (Ü X.prog X.w) X.A (assignInOrder ((ϐ ts X.env).map (·.2)) us) (λ_ s'=>∃a H',Inv X Ç a H' s'/\Q a H') X.xe s
abbrev Jh:=V->V->V->Hp->(Hp->Prop)->Prop
def L0(X:Cx)(t:Jh):Prop:=
 ∀(Ç:List (À×Obj)) (s:Ä) (a:St) (H:Hp) (o i v:V) (ov iv u:Á) (Q:Hp->Prop),Inv X Ç a H s->RelV o ov->RelV i iv->RelV v u->t o i v H Q->
  Ï (Ü X.prog X.w) X.A (setItem ov iv u) (λ_ s'=>∃H',Inv X Ç a H' s'/\Q H') X.xe s
abbrev O3:=V->V->Hp->VK->Prop
def VN(X:Cx)(op:nI)(t:O3):Prop:=
 ∀(Ç:List (À×Obj)) (s:Ä) (a:St) (H:Hp) (x y:V) (v u:Á) (Q:VK),Inv X Ç a H s->RelV x v->RelV y u->t x y H Q->
  Ï (Ü X.prog X.w) X.A (inplaceOp op v u) (EP X Ç a Q) X.xe s
section
variable{X:Cx}{pos:Pos}
def uL(i:Nat):TG:=λv a H Q=>Q (a.set i<|some v) H
def lB{i:Nat}{x:Str}(hN:X.N.Nodup)(hi:X.N[i]?=some x)(hx:Loc X.env.scope x)(hf:X.fn x=true\/X.env.scope.names.lookup x=some .local:=by first|exact .inl rfl|exact .inr rfl|assumption):PG X (.Name x pos) (uL i):=λÇ s a H v u Q I r h=>wpAny_assign_Name<|sG I hN hi hx r (λs' I'=>⟨_,H,I',h⟩) hf
def L1:DO:=λvs a H Q=>vs=[]/\Q a H
def DP(t:TG)(u:DO):DO:=λvs b H Q=>∃v r,vs=v::r/\t v b H λa H'=>u r a H' Q
def xl:zy X [] L1:=by intro Ç s a H vs us Q I r h;obtain⟨e,h⟩:=h;subst e;cases r;exact assignInOrder_nil ⟨a,H,I,h⟩
def ip{e:È}{es:List È}{t:TG}{u:DO}(h1:PG X e t)(h2:zy X es u)
 (hs:(ϐ (e::es) X.env).map (·.2)=cO e X.env::(ϐ es X.env).map (·.2):=by rfl):zy X (e::es) (DP t u):=by
 intro Ç s b H vs us Q I r h;obtain⟨v,vr,e1,h⟩:=h;subst e1;cases r with
 |cons r rr=>rw[hs];refine assignInOrder_cons<|ϙ (h1 Ç s b H _ _ _ I r h) λ_ s1 zz=>?_;obtain⟨a,H1,I1,q1⟩:=zz;exact h2 Ç s1 a H1 _ _ Q I1 rr q1
def L3(K:Î)(n:Nat)(t:DO):TG:=λv b H Q=>∃a xs,v=.ref a/\fL K H a xs/\xs.length=n/\t xs b H Q
def xm{es:List È}{k:Nat}{t:DO}{n:Nat}(hc:X.calm=true)(h:zy X es t)
 (hn:(ϐ es X.env).length=n:=by rfl)(mZ:(ϐ es X.env).findIdx? (·.1)=none:=by rfl):PG X (.Tuple es k pos) (L3 X.K n t):=by
 intro Ç s c H v u Q I r hw;obtain⟨a,xs,e1,hq,hl,hw⟩:=hw;subst e1;cases r;obtain⟨ď,rv,ht,hz⟩:=I.tuple hq;refine assign_Tuple_tuple (I.ok.hd hc) ht (by simp[hn,<-hl,rv.length]) mZ λh' hx=>?_;have I1:Inv X Ç c H {s with heap:=h'}:=I.kept (t':=s.toks) λb o e=>hx b o (ŏ<|ā e) e;exact h Ç _ c H xs _ Q I1 (by simpa using rv) hw
def Rk(to ti:TE)(t:Jh):TG:=λv a H Q=>to a H λo H1=>ti a H1 λi H2=>t o i v H2 λH3=>Q a H3
def Ji{o i:È}{to ti:TE}{t:Jh}(ho:PE X o to)(hi:PE X i ti)(hs:L0 X t)
 (ha:∀v,cO (.Subscript o i pos) X.env v=(do
   let ov<-ca [v] (eval o X.env)
   let iv<-ca [v,ov] (eval i X.env)
   gv pos
   ca [v,ov,iv] (setItem ov iv v)
   release [v,ov,iv] []):=by intro _;rfl):PG X (.Subscript o i pos) (Rk to ti t):=by
 intro Ç s a H v u Q I r h;rw[ha];refine Ò<|lc<|ϙ (ho Ç s a H _ I h) λov s1 zz=>?_;obtain⟨x,H1,I1,r1,q1⟩:=zz;refine Ò<|lc<|ϙ (hi Ç s1 a H1 _ I1 q1) λiv s2 zz=>?_;obtain⟨y,H2,I2,r2,q2⟩:=zz;refine Ò<|nJ<|Ò<|lc<|ϙ (hs Ç s2 a H2 x y v ov iv u _ I2 r1 r2 r q2) λ_ s3 zz=>?_;obtain⟨H3,I3,q3⟩:=zz;exact wpAny_release ⟨a,H3,I3,q3⟩
def Gf(te:TE)(g:TG):TS:=λD a H=>te a H λx H1=>g x a H1 D.nx
def DQ{tg e:È}{te:TE}{g:TG}(he:PE X e te)(hg:PG X tg g)(hs:wy [tg] e pos.line X.env=ñ false:=by rfl)(hw:wz [tg] e X.env=ñ none:=by rfl)
 (h1:(ϐ [tg] X.env).map (·.2)=[cO tg X.env]:=by rfl):PS X (.Assign [tg] e pos) (Gf te g):=by
 intro Ç s a H D I h;refine wpAny_Assign_stores (ϙ (he Ç s a H _ I h) λv s1 zz=>?_) hs hw;obtain⟨x,H1,I1,r1,q1⟩:=zz;rw[h1];exact ϙ (hg Ç s1 a H1 x v _ I1 r1 q1) λ_ s2 q=>q
def xn{i:Nat}{x:Str}{e:È}{te:TE}{cA:Pos}(hN:X.N.Nodup)(hi:X.N[i]?=some x)(hx:Loc X.env.scope x)(he:PE X e te)(hs:ū e (some<|.Name x cA) pos.line X.env=ñ false:=by kernel_rfl)(hf:X.fn x=true\/X.env.scope.names.lookup x=some .local:=by first|exact .inl rfl|exact .inr rfl|assumption):
 PS X (.Assign [.Name x cA] e pos) (Gf te<|uL i):=by
 intro Ç s a H D I h;refine wpAny_Assign_Name (ϙ (he Ç s a H _ I h) λv s1 zz=>?_) hs;obtain⟨y,H1,I1,r1,q1⟩:=zz;exact sG I1 hN hi hx r1 (λs2 I2=>⟨_,H1,I2,q1⟩) hf
def Rl(i:Nat)(te:TE)(ti:O3):TS:=λD a H=>∃x,a[i]?=some (some x)/\te a H λy H1=>ti x y H1 λz H2=>D.nx (a.set i<|some z) H2
def Jj{i:Nat}{x:Str}{e:È}{te:TE}{op:nI}{ti:O3}{cA:Pos}(hN:X.N.Nodup)(hi:X.N[i]?=some x)(hx:Loc X.env.scope x)(he:PE X e te)(ho:VN X op ti)(hf:X.fn x=true\/X.env.scope.names.lookup x=some .local:=by first|exact .inl rfl|exact .inr rfl|assumption):
 PS X (.AugAssign (.Name x cA) op e pos) (Rl i te ti):=by
 intro Ç s a H D I h;obtain⟨v,e1,h⟩:=h;obtain⟨m,hn,hl⟩:=I.loc;have vis:Lg X.env.scope x:=by rcases hx with k|k;exact .inl k;exact .inr<|.inl k
 obtain⟨u,r,l⟩:=hl i x v hi e1 vis;refine wpAny_AugAssign_Name ?_;have go:Ï (Ü X.prog X.w) X.A (eval e X.env) (λw s₂=>Ï (Ü X.prog X.w) X.A (inplaceOp op u w) (λr s₃=>Ï (Ü X.prog X.w) X.A (storeName X.env x r) (λ_=>SP X Ç D .next) X.xe s₃) X.xe s₂) X.xe s:=by refine ϙ (he Ç s a H _ I h) λw s1 zz=>?_;obtain⟨y,H1,I1,r1,q1⟩:=zz;refine ϙ (ho Ç s1 a H1 v y u w _ I1 r r1 q1) λz s2 zz=>?_;obtain⟨zv,H2,I2,r2,q2⟩:=zz;exact sG I2 hN hi hx r2 (λs3 I3=>⟨_,H2,I3,q2⟩) hf
 rcases l with⟨hk,hm⟩|⟨hk,c,hc,hcell⟩
 ·exact wpAny_loadName_local I.ok.kind hk hn hm go
 ·rcases hk with hk|hk
  ·exact wpAny_loadName_cell I.ok.kind hk hc hcell go
  ·rcases hx with k|k
   ·have:X.env.scope.names.lookup x=some .free:=hk;rw[k]at this;cases this
   ·have:X.env.scope.names.lookup x=some .free:=hk;rw[k]at this;cases this
def YJ(f:Int->Int->Int):O3:=λx y H Q=>∃i j,x=.int i/\y=.int j/\Q (.int<|f i j) H
end
section
variable{X:Cx}{pos:Pos}
def Jk(c:TT)(tb:TS):TS:=λD a H=>∃W:Nat->St->Hp->Prop,(∃m,W m a H)/\∀m a H,W m a H->
 c a H λb H1=>if b=true then ∃N:St->Hp->Prop,(∀d H',N d H'->∃m',m'<m/\W m' d H')/\tb {D with nx:=N,ct:=N,bk:=D.nx} a H1 else D.nx a H1
def DR{c:È}{body:List ò}{tc:TT}{tb:TS}(hp:nK (Ü X.prog X.w) X.A X.env X.xe)(hc:PT X c tc)(hb:dB X body tb):PS X (.While c body [] pos) (Jk tc tb):=by
 intro Ç s g H D I h;obtain⟨W,⟨m0,w0⟩,turn⟩:=h;refine wpAny_While<|codeAny_whileLoop (λn s'=>∃e H',Inv X Ç e H' s'/\W n e H') ?_ m0 ⟨g,H,I,w0⟩;rintro n s1 ⟨d,H1,I1,w1⟩;refine jf hp<|ϙ (hc Ç s1 d H1 _ I1<|turn n d H1 w1) λb s2 zz=>?_;obtain⟨H2,I2,q2⟩:=zz;cases b with
 |true=>
  obtain⟨N,hN,q2⟩:=q2;rw[if_pos rfl];refine jf hp<|ϙ (hb Ç s2 d H2 _ I2 q2) λf s3 q3=>?_;cases f with
  |next=>obtain⟨a,H3,I3,n3⟩:=q3;obtain⟨m',hm,w3⟩:=hN a H3 n3;exact⟨m',hm,a,H3,I3,w3⟩|cont=>obtain⟨a,H3,I3,n3⟩:=q3;obtain⟨m',hm,w3⟩:=hN a H3 n3;exact⟨m',hm,a,H3,I3,w3⟩|brk=>exact q3|ret v=>exact q3
 |false=>rw[if_neg bZ];exact nH ⟨d,H2,I2,q2⟩
end
structure It where
 go:Nat->Hp->Prop
 L4:Nat->Hp->V->Hp->Prop
 stop:Nat->Hp->Prop
def my(X:Cx)(Ç:List (À×Obj))(H:Hp)(b:À):Prop:=
 H b=none/\b≠X.env.locals/\b∉X.fs/\(b∈X.ex\/X.s₀.heap.objs.size<=b)/\(∀x c,X.env.cells.lookup x=some c->c≠b)/\∀p∈X.pn++Ç,p.1≠b
def Inv.zM{X:Cx}{Ç:List (À×Obj)}{a:St}{H H':Hp}{s:Ä}{b:À}(I:Inv X Ç a H s)(hb:s.heap.objs.size<=b)(hn:H' b=none):my X Ç H' b:=by
 refine⟨hn,cL<|Š I.lt hb,I.Ra hb,.inr<|ř I.sz hb,λx c e z=>?_,λp hp z=>?_⟩
 ·obtain⟨v,q⟩:=I.cell x c e;exact absurd (Š q.lt (by rw[z];exact hb))<|dR _
 ·exact absurd (Š (ā (I.pin p hp).1) (by rw[z];exact hb))<|dR _
structure AG(P:ë)(w:â)(K:Î)(tg:È)(J:It)(fp:List À)(it:À)(tn:Nat->Ñ->Prop):Prop where
 mem:it∈fp
 obj:∀i h,tn i h->∀b∈fp,∃o,h.get? b=some o/\∀v,o.data≠.cell v
 keep:∀i h h',tn i h->(∀b∈fp,∀o,h.get? b=some o->h'.get? b=some o)->tn i h'
 item:∀(X:Cx),X.prog=P->X.w=w->X.K=K->X.calm=true->∀(i:Nat) (Ç:List (À×Obj)) (s:Ä) (σ:St) (H:Hp) (E:Á->Ä->Prop),Inv X Ç σ H s->(∀b∈fp,my X Ç H b)->tn i s.heap->J.go i H->
  Ï (Ü P w) X.A (cP<|.ref it) (λr s1=>∃u,r=some u/\
   Ï (Ü P w) X.A (rm tg (.ref it) u) (λ_ s2=>∃x H',Inv X Ç σ H' s2/\RelV x u/\J.L4 i H x H'/\tn (i+1) s2.heap/\∀b∈fp,H' b=none) E s1) E s
 done:∀(X:Cx),X.prog=P->X.w=w->X.K=K->X.calm=true->∀(i:Nat) (Ç:List (À×Obj)) (s:Ä) (σ:St) (H:Hp) (E:Á->Ä->Prop),Inv X Ç σ H s->(∀b∈fp,my X Ç H b)->tn i s.heap->J.stop i H->
  Ï (Ü P w) X.A (cP<|.ref it) (λr s1=>r=none/\Inv X Ç σ H s1) E s
 self:∀(A:ì) (i:Nat) (s:Ä) (Q:Á->Ä->Prop) (E:Á->Ä->Prop),tn i s.heap->Q (.ref it) s->Ï (Ü P w) A (gw<|.ref it) Q E s
abbrev TI:=St->Hp->(It->Hp->Prop)->Prop
def QZ(X:Cx)(Ç:List (À×Obj))(a:St)(tg:È)(R:It->Hp->Prop)(Qqq4:Á)(s2:Ä):Prop:=
 ∃(it:À) (fp:List À) (tn:Nat->Ñ->Prop) (J:It) (H':Hp),Qqq4=.ref it/\Inv X Ç a H' s2/\AG X.prog X.w X.K tg J fp it tn/\tn 0 s2.heap/\(∀b∈fp,my X Ç H' b)/\R J H'
def PI(X:Cx)(tg iter:È)(wi:TI):Prop:=
 ∀(Ç:List (À×Obj)) (s:Ä) (a:St) (H:Hp) (R:It->Hp->Prop),Inv X Ç a H s->wi a H R->
  Ï (Ü X.prog X.w) X.A (eval iter X.env) (λv s1=>Ï (Ü X.prog X.w) X.A (gw v) (QZ X Ç a tg R) X.xe s1) X.xe s
def Bt{M:fv}{A:ì}{E:Á->Ä->Prop}{s:Ä}{tg:È}{it:À}{u:Á}{o:Obj}{n:String}{vs:Array Á}{Q:Unit->Ä->Prop}(ho:s.heap.get? it=some o)(hc:o.cls=.type n)(hd:o.data=.fields vs)
 (hn:["enumerate","zip","dict_itemiterator","dict_reverseitemiterator","odict_iterator","itertools.zip_longest","itertools.pairwise"].contains n=false)(hQ:Q () s):Ï M A (rm tg (.ref it) u) Q E s:=by
 unfold rm;cases tg<;>first
  |exact Č hQ
  |(cases u<;>first
     |exact Č hQ
     |(refine Ò<|wpAny_load ho ?_
       rw[hc,hd];show Ï M A (if(["enumerate","zip","dict_itemiterator","dict_reverseitemiterator","odict_iterator","itertools.zip_longest","itertools.pairwise"].contains n&&vs[0]?==some (cQ _))=true then _ else _) Q E s;rw[if_neg (by intro h;rw[hn,Bool.false_and]at h;cases h)];exact Č hQ))
def HV(K:Î)(a:À):It:=
 ⟨λi H=>∃xs x,ϱ K H a xs/\xs[i]?=some x,λi H x H'=>H'=H/\∀xs,ϱ K H a xs->xs[i]?=some x,λi H=>∃xs,ϱ K H a xs/\xs.length<=i⟩
def L5(K:Î)(a:À):It:=
 ⟨λi H=>∃xs x,fL K H a xs/\xs[i]?=some x,λi H x H'=>H'=H/\∀xs,fL K H a xs->xs[i]?=some x,λi H=>∃xs,fL K H a xs/\xs.length<=i⟩
def O4(lo:Int)(n:Nat):It:=⟨λi _=>i<n,λi H x H'=>H'=H/\x=.int (lo+i),λi _=>n<=i⟩
def Cy{P:ë}{w:â}{K:Î}{tg:È}(a it:À):AG P w K tg (HV K a) [it] it (λi h=>h.IsListIter it a i) where
 mem:=by simp
 obj:=λi h st b hb=>by
  have e:b=it:=by simpa using hb
  subst e;obtain⟨o,e,c,d⟩:=st;exact⟨o,e,λv z=>by rw[d]at z;cases z⟩
 keep:=λi h h' st k=>st.at λo e=>k it (by simp) o e
 item:=by intro X hP hw hK hc i Ç s f H E I hf st hg;subst hP hw hK;obtain⟨xs,x,hq,hx⟩:=hg;obtain⟨ď,rv,p,hz⟩:=I.list hq;obtain⟨u,hu,ru⟩:=rv.get hx;obtain⟨f0,f1,f2,f3,f4,f5⟩:=hf it (by simp);refine wpAny_pyNext_list_item st p.isList (x:=u) (by simpa using hu) λh' Dk sb=>?_;have I1:Inv X Ç f H {s with heap:=h'}:=I.turned (t':=s.toks) (λb o hb e=>(sb.2 b hb).trans e) f0 f1 f3 f4 f5;obtain⟨o,e,c,d⟩:=id Dk;exact⟨u,rfl,Bt (s:={s with heap:=h'}) e c d (by decide) ⟨x,H,I1,ru,⟨rfl,λys hy=>by rw[I.sI hy hq];exact hx⟩,Dk,λb hb=>(hf b hb).1⟩⟩
 done:=by intro X hP hw hK hc i Ç s f H E I hf st hg;subst hP hw hK;obtain⟨xs,hq,hx⟩:=hg;obtain⟨ď,rv,p,hz⟩:=I.list hq;obtain⟨f0,f1,f2,f3,f4,f5⟩:=hf it (by simp);have hl:=rv.length;exact wpAny_pyNext_list_end (I.ok.hd hc) st p.isList (by simp;lia) λh' eb=>⟨rfl,I.turned (t':=s.toks) (λb o hb e=>eb b o hb e) f0 f1 f3 f4 f5⟩
 self:=λ_ _ _ _ _ st h=>wpAny_pyIter_listiter st h
def zN{P:ë}{w:â}{K:Î}{tg:È}(a it:À):AG P w K tg (L5 K a) [it] it (λi h=>h.IsTupleIter it a i) where
 mem:=by simp
 obj:=λi h st b hb=>by
  have e:b=it:=by simpa using hb
  subst e;obtain⟨o,e,c,d⟩:=st;exact⟨o,e,λv z=>by rw[d]at z;cases z⟩
 keep:=λi h h' st k=>st.at λo e=>k it (by simp) o e
 item:=by intro X hP hw hK hc i Ç s f H E I hf st hg;subst hP hw hK;obtain⟨xs,x,hq,hx⟩:=hg;obtain⟨ď,rv,p,hz⟩:=I.tuple hq;obtain⟨u,hu,ru⟩:=rv.get hx;obtain⟨f0,f1,f2,f3,f4,f5⟩:=hf it (by simp);refine wpAny_pyNext_tuple_item st (show s.heap.IsTuple a ď.toArray from p) (x:=u) (by simpa using hu) λh' Dk sb=>?_;have I1:Inv X Ç f H {s with heap:=h'}:=I.turned (t':=s.toks) (λb o hb e=>(sb.2 b hb).trans e) f0 f1 f3 f4 f5;obtain⟨o,e,c,d⟩:=id Dk;exact⟨u,rfl,Bt (s:={s with heap:=h'}) e c d (by decide) ⟨x,H,I1,ru,⟨rfl,λys hy=>by rw[I.uK hy hq];exact hx⟩,Dk,λb hb=>(hf b hb).1⟩⟩
 done:=by intro X hP hw hK hc i Ç s f H E I hf st hg;subst hP hw hK;obtain⟨xs,hq,hx⟩:=hg;obtain⟨ď,rv,p,hz⟩:=I.tuple hq;obtain⟨f0,f1,f2,f3,f4,f5⟩:=hf it (by simp);have hl:=rv.length;exact wpAny_pyNext_tuple_end (I.ok.hd hc) st (show s.heap.IsTuple a ď.toArray from p) (by simp;lia) λh' eb=>⟨rfl,I.turned (t':=s.toks) (λb o hb e=>eb b o hb e) f0 f1 f3 f4 f5⟩
 self:=λ_ _ _ _ _ st h=>wpAny_pyIter_tupleiter st h
def zO{P:ë}{w:â}{K:Î}{tg:È}(it:À)(lo:Int)(n:Nat):AG P w K tg (O4 lo n) [it] it (λi h=>IsRangeIter h it (lo+(i:Nat)*1) ((n:Int)-(i:Nat)) 1) where
 mem:=by simp
 obj:=λi h st b hb=>by
  have e:b=it:=by simpa using hb
  subst e;exact⟨_,st,λv z=>by have z':wK _=nR v:=z;cases z'⟩
 keep:=λi h h' st k=>k it (by simp) _ st
 item:=by intro X hP hw hK hc i Ç s a H E I hf st hg;subst hP hw hK;obtain⟨f0,f1,f2,f3,f4,f5⟩:=hf it (by simp);have W:=Walks.range (prog:=X.prog) (w:=X.w) (I.ok.hd hc) it lo 1 n;refine W.item i s _ _ hg st λv h' tk hv Dk kk=>?_;obtain⟨t,rfl⟩:=hv;have I1:Inv X Ç a H {s with heap:=h',toks:=tk}:=I.turned (λb o hb e=>kk b o (by simpa using hb) e) f0 f1 f3 f4 f5;refine⟨_,rfl,Bt (s:={s with heap:=h',toks:=tk}) (n:="range_iterator") Dk rfl rfl (by decide) ⟨.int<|lo+i,H,I1,⟨t,?_⟩,⟨rfl,rfl⟩,Dk,λb hb=>(hf b hb).1⟩⟩;rw[vK]
 done:=by intro X hP hw hK hc i Ç s a H E I hf st hg;subst hP hw hK;obtain⟨f0,f1,f2,f3,f4,f5⟩:=hf it (by simp);exact wpAny_pyNext_range_end (I.ok.hd hc) st (by have:n<=i:=hg;lia) λh' eb=>⟨rfl,I.turned (t':=s.toks) (λb o hb e=>eb b o hb e) f0 f1 f3 f4 f5⟩
 self:=λ_ _ _ _ _ st h=>wpAny_pyIter_rangeiter st h
section
variable{X:Cx}{tg:È}
def DT{Ç:List (À×Obj)}{a:St}{H:Hp}{s:Ä}{R:It->Hp->Prop}{E:Á->Ä->Prop}{lo hi:Int}{t u v:Tok}{tk:Nat}(I:Inv X Ç a H s)(h1: -(2^62)<=lo)(h2:lo<2^62)(h3: -(2^62)<=hi)(h4:hi<2^62)
 (q:R (O4 lo (hi-lo).toNat) H):Ï (Ü X.prog X.w) X.A (gw<|.ref s.heap.objs.size) (QZ X Ç a tg R) E {s with heap:=s.heap.push {cls:=.type "range",data:=.fields #[.int lo t,.int hi u,.int 1 v]},toks:=tk}:=by
 refine wpAny_pyIter_range (IsRange.new ..) (small_one h1 h2 h3 h4) ?_;have I1:Inv X Ç a H {s with heap:=s.heap.push {cls:=.type "range",data:=.fields #[.int lo t,.int hi u,.int 1 v]},toks:=tk}:=I.kept λb o e=>ă _ e;refine⟨(s.heap.push {cls:=.type "range",data:=.fields #[.int lo t,.int hi u,.int 1 v]}).objs.size,[(s.heap.push {cls:=.type "range",data:=.fields #[.int lo t,.int hi u,.int 1 v]}).objs.size],_,_,H,rfl,
  I1.kept (t':=tk) λb o e=>ă _ e,zO _ lo (hi-lo).toNat,?_,λb hb=>?_,q⟩
 ·have e1:lo+((0:Nat):Int)*1=lo:=by simp
  have e2:(((hi-lo).toNat:Nat):Int)-((0:Nat):Int)=Builtin.Range.rangeSize lo hi 1:=by rw[rangeSize_one];split<;>lia
  show IsRangeIter _ _ (lo+((0:Nat):Int)*1) ((((hi-lo).toNat:Nat):Int)-((0:Nat):Int)) 1;rw[e1,e2];exact Į _ rfl
 ·have e:b=(s.heap.push {cls:=.type "range",data:=.fields #[.int lo t,.int hi u,.int 1 v]}).objs.size:=by simpa using hb
  subst e;exact I1.zM (ø _)<|I1.hok.fresh<|ø _
def L6(ta:TA):TI:=λa H R=>ta a H λvs H1=>∃j:Int,vs=[.int j]/\ -(2^62)<=j/\j<2^62/\R (O4 0 j.toNat) H1
def Cz{a:È}{ta:TA}{p pos:Pos}(hg:Gl X "range")(hm:X.mg "range"=none)(ha:PA X [a] ta)(hs:Ð [a] X.env=[(false,eval a X.env)]:=by rfl):PI X tg (.Call (.Name "range" p) [a] [] pos) (L6 ta):=by
 intro Ç s b H R I h;refine Call_<|mq I hg hm boot_range<|rh (ϙ (ha pos Ç s b H _ I h) λus s1 zz=>?_) hs rfl;obtain⟨vs,H1,I1,r1,q1⟩:=zz;obtain⟨j,e,q1,q2,q⟩:=q1;subst e;cases r1 with
 |cons r rr=>cases rr;obtain⟨t,rfl⟩:=r;exact call_range_1 (DT I1 (by lia) (by lia) q1 q2<|by simpa using q)
def Rm(wi:TI)(g:TG)(tb:TS):TS:=λD a H=>wi a H λJ H1=>∃W:Nat->Nat->St->Hp->Prop,(∃m,W 0 m a H1)/\∀i m a H,W i m a H->
 (J.stop i H/\D.nx a H)\/(J.go i H/\∃N:St->Hp->Prop,(∀b H',N b H'->∃m',m'<m/\W (i+1) m' b H')/\∀x H',J.L4 i H x H'->g x a H' λc H2=>tb {D with nx:=N,ct:=N,bk:=D.nx} c H2)
def sK(fp:List À)(h:Ñ):List (À×Obj):=fp.filterMap λb=>(h.get? b).map λo=>(b,o)
def jr{fp:List À}{h:Ñ}{b:À}{o:Obj}(hb:b∈fp)(e:h.get? b=some o):(b,o)∈sK fp h:=vS.mpr ⟨b,hb,by rw[e];rfl⟩
def CA{fp:List À}{h:Ñ}{p:À×Obj}(hp:p∈sK fp h):p.1∈fp/\h.get? p.1=some p.2:=by
 obtain⟨b,hb,e⟩:=vS.mp hp;cases q:h.get? b with
 |none=>rw[q]at e;cases e|some o=>rw[q]at e;have e':(b,o)=p:=š e;subst e';exact⟨hb,q⟩
def Inv.pinned{Ç:List (À×Obj)}{a:St}{H:Hp}{s:Ä}{fp:List À}(I:Inv X Ç a H s)(hf:∀b∈fp,my X Ç H b)(ho:∀b∈fp,∃o,s.heap.get? b=some o/\∀v,o.data≠.cell v):Inv X (Ç++sK fp s.heap) a H s:=
 I.Br fun p hp=>(aH.mp hp).elim (fun z=>I.pin p<|bo _ z) fun z=>by obtain⟨hb,e⟩:=CA z;obtain⟨f0,f1,f2,_⟩:=hf p.1 hb;obtain⟨o,e',d⟩:=ho p.1 hb;rw[e]at e';cases e';exact⟨e,f0,f1,f2,d⟩
def Inv.og{Ç pl:List (À×Obj)}{a:St}{H:Hp}{s:Ä}(I:Inv X (Ç++pl) a H s):Inv X Ç a H s:=I.Br λp hp=>I.pin p<|bo _<|kU _ hp
def DU{iter:È}{body:List ò}{wi:TI}{g:TG}{tb:TS}{pos:Pos}(hp:nK (Ü X.prog X.w) X.A X.env X.xe)(hc:X.calm=true)(hi:PI X tg iter wi)(hg:PG X tg g)(hb:dB X body tb)
 (hs:∀x,cR iter X.env x=ñ x:=by intro _;rfl):PS X (.For tg iter body [] pos) (Rm wi g tb):=by
 intro Ç s l H D I h;refine wpAny_For (ϙ (hi Ç s l H _ I h) λv s1 h1=>ϙ h1 λQqq4 s2 h2=>?_) hs;obtain⟨it,fp,tn,J,H2,e,I2,T,FX,f2,W,⟨m0,w0⟩,turn⟩:=h2;subst e;have stat:∀{H':Hp},(∀b∈fp,H' b=none)->∀b∈fp,my X Ç H' b:=λhn b hb=>⟨hn b hb,(f2 b hb).2⟩;refine codeAny_forLoop_any (λn s'=>∃i c H',Inv X Ç c H' s'/\tn i s'.heap/\(∀b∈fp,H' b=none)/\W i n c H') ?_ m0 ⟨0,l,H2,I2,FX,λb hb=>(f2 b hb).1,w0⟩;rintro n s3 ⟨i,j,H3,I3,Yf,VO,w3⟩;rcases turn i n j H3 w3 with⟨stop,qn⟩|⟨go,N,hN,step⟩
 ·refine jf hp<|ϙ (T.done X rfl rfl rfl hc i Ç s3 j H3 X.xe I3 (stat VO) Yf stop) λr s4 ⟨hr,I4⟩=>?_;subst hr;exact nH ⟨j,H3,I4,qn⟩
 ·refine jf hp<|ϙ (T.item X rfl rfl rfl hc i Ç s3 j H3 X.xe I3 (stat VO) Yf go) λr s4 ⟨u,hr,h4⟩=>?_;subst hr;refine jf hp<|ϙ h4 λ_ s5 zz=>?_;obtain⟨x,H5,I5,r5,y5,Li,O5⟩:=zz;have YK:=I5.pinned (stat O5)<|T.obj _ _ Li;refine jf hp<|ϙ (hg _ s5 j H5 x u _ YK r5<|step x H5 y5) λ_ s6 zz=>?_;obtain⟨k,H6,I6,q6⟩:=zz;refine jf hp<|ϙ (hb _ s6 k H6 _ I6 q6) λf s7 q7=>?_;have again:∀{a:St}{H7:Hp},Inv X (Ç++sK fp s5.heap) a H7 s7->N a H7->∃m,m<n/\∃i c H',Inv X Ç c H' s7/\tn i s7.heap/\(∀b∈fp,H' b=none)/\W i m c H':=fun{a H7} I7 n7=>by
   obtain⟨m',hm,w7⟩:=hN a H7 n7;refine⟨m',hm,i+1,a,H7,I7.og,T.keep _ _ _ Li λb hb o e=>(I7.pin (b,o)<|bo _<|bo _<|jr hb e).1,λb hb=>?_,w7⟩;obtain⟨o,e,d⟩:=T.obj _ _ Li b hb;exact(I7.pin (b,o)<|bo _<|bo _<|jr hb e).2.1
  cases f with
  |next=>obtain⟨a,H7,I7,n7⟩:=q7;exact again I7 n7|cont=>obtain⟨a,H7,I7,n7⟩:=q7;exact again I7 n7|brk=>obtain⟨a,H7,I7,q7⟩:=q7;exact⟨a,H7,I7.og,q7⟩|ret v=>obtain⟨x7,a,H7,I7,r7,q7⟩:=q7;exact⟨x7,a,H7,I7.og,r7,q7⟩
end
abbrev R2:=V->V->Hp->VK->Prop
def aA(X:Cx)(f:Á->Á->Sem Á)(r:R2):Prop:=
 ∀(Ç:List (À×Obj)) (s:Ä) (a:St) (H:Hp) (x y:V) (v u:Á) (Q:VK),Inv X Ç a H s->RelV x v->RelV y u->r x y H Q->
  Ï (Ü X.prog X.w) X.A (f v u) (EP X Ç a Q) X.xe s
def Gg(X:Cx)(f:Á->Sem Á)(r:V->Hp->VK->Prop):Prop:=
 ∀(Ç:List (À×Obj)) (s:Ä) (a:St) (H:Hp) (x:V) (v:Á) (Q:VK),Inv X Ç a H s->RelV x v->r x H Q->
  Ï (Ü X.prog X.w) X.A (f v) (EP X Ç a Q) X.xe s
def ő(X:Cx)(f:Á)(r:List V->Hp->VK->Prop):Prop:=
 ∀(Ç:List (À×Obj)) (s:Ä) (a:St) (H:Hp) (xs:List V) (us:List Á) (Q:VK),Inv X Ç a H s->ł xs us->r xs H Q->
  Ï (Ü X.prog X.w) X.A (call f us) (EP X Ç a Q) X.xe s
def Rn(X:Cx)(r:V->Hp->(Bool->Hp->Prop)->Prop):Prop:=
 ∀(Ç:List (À×Obj)) (s:Ä) (a:St) (H:Hp) (x:V) (v:Á) (Q:Bool->Hp->Prop),Inv X Ç a H s->RelV x v->r x H Q->
  Ï (Ü X.prog X.w) X.A (truthy v) (TP X Ç a Q) X.xe s
def HW(r:R2)(ta tb:TE):TE:=λa H Q=>ta a H λx H1=>tb a H1 λy H2=>r x y H2 Q
def VP(r:V->Hp->VK->Prop)(ta:TE):TE:=λa H Q=>ta a H λx H1=>r x H1 Q
def rI(C:Int->Int->Prop)(g:Int->Int->V):R2:=λx y H Q=>∃i j,x=.int i/\y=.int j/\C i j/\Q (g i j) H
def FM(g:Int->Int->V):R2:=λx y H Q=>∃i j,x=.int i/\y=.int j/\Q (g i j) H
def rU(g:Int->V):V->Hp->VK->Prop:=λx H Q=>∃i,x=.int i/\Q (g i) H
section
variable{X:Cx}{a b:È}{ta tb:TE}{pos:Pos}
def Jl(ha:PE X a ta)(hb:PE X b tb){Ç:List (À×Obj)}{s:Ä}{c:St}{H:Hp}{R:V->V->Hp->Prop}(I:Inv X Ç c H s)
 (h:ta c H λx H1=>tb c H1 λy H2=>R x y H2){Q:Á->Ä->Prop}{f:Á->Á->Sem Á}
 (hf:∀v u s2 x y H2,Inv X Ç c H2 s2->RelV x v->RelV y u->R x y H2->Ï (Ü X.prog X.w) X.A (f v u) Q X.xe s2):
 Ï (Ü X.prog X.w) X.A (eval a X.env) (λv s₁=>Ï (Ü X.prog X.w) X.A (eval b X.env) (λu s₂=>Ï (Ü X.prog X.w) X.A (f v u) Q X.xe s₂) X.xe s₁) X.xe s:=by
 refine ϙ (ha Ç s c H _ I h) λv s1 zz=>?_;obtain⟨x,H1,I1,r1,q1⟩:=zz;refine ϙ (hb Ç s1 c H1 _ I1 q1) λu s2 zz=>?_;obtain⟨y,H2,I2,r2,q2⟩:=zz;exact hf v u s2 x y H2 I2 r1 r2 q2
def HX{op:nI}{r:R2}(ho:aA X (ŀ op) r)(ha:PE X a ta)(hb:PE X b tb):PE X (.BinOp a op b pos) (HW r ta tb):=λÇ s c H Q I h=>wpAny_BinOp<|Jl ha hb I h λv u s2 x y H2 I2 rx ry q=>ho Ç s2 c H2 x y v u Q I2 rx ry q
def HY{op:UnaryOp}{r:V->Hp->VK->Prop}(ho:Gg X (unaryOp op) r)(ha:PE X a ta):PE X (.UnaryOp op a pos) (VP r ta):=λÇ s c H Q I h=>UnaryOp_<|ϙ (ha Ç s c H _ I h) λv s1 ⟨x,H1,I1,r1,q1⟩=>ho Ç s1 c H1 x v Q I1 r1 q1
def Bu{f:Á->Á->Sem Á}{C:Int->Int->Prop}{g:Int->Int->Int}
 (rule:∀(i j:Int) (t u:Tok) (s:Ä) (Q:Á->Ä->Prop) (E:Á->Ä->Prop),C i j->Q (.int (g i j) s.toks) {s with toks:=s.toks+1}->Ï (Ü X.prog X.w) X.A (f (.int i t)<|.int j u) Q E s):
 aA X f (rI C λi j=>.int<|g i j):=by
 intro Ç s c H x y v u Q I rx ry h;obtain⟨i,j,rfl,rfl,hc,q⟩:=h;obtain⟨t,rfl⟩:=rx;obtain⟨t',rfl⟩:=ry;exact rule i j t t' s _ _ hc ⟨.int<|g i j,H,I.tok _,⟨_,rfl⟩,q⟩
def yB{f:Á->Á->Sem Á}{g:Int->Int->Int}
 (rule:∀(i j:Int) (t u:Tok) (s:Ä) (Q:Á->Ä->Prop) (E:Á->Ä->Prop),Q (.int (g i j) s.toks) {s with toks:=s.toks+1}->Ï (Ü X.prog X.w) X.A (f (.int i t)<|.int j u) Q E s):
 aA X f (FM λi j=>.int<|g i j):=by
 intro Ç s c H x y v u Q I rx ry h;obtain⟨i,j,rfl,rfl,q⟩:=h;obtain⟨t,rfl⟩:=rx;obtain⟨t',rfl⟩:=ry;exact rule i j t t' s _ _ ⟨.int<|g i j,H,I.tok _,⟨_,rfl⟩,q⟩
def Gh{f:Á->Á->Sem Á}{g:Int->Int->Bool}
 (rule:∀(i j:Int) (t u:Tok) (s:Ä) (Q:Á->Ä->Prop) (E:Á->Ä->Prop),Q (.bool<|g i j) s->Ï (Ü X.prog X.w) X.A (f (.int i t)<|.int j u) Q E s):
 aA X f (FM λi j=>.bl<|g i j):=by
 intro Ç s c H x y v u Q I rx ry h;obtain⟨i,j,rfl,rfl,q⟩:=h;obtain⟨t,rfl⟩:=rx;obtain⟨t',rfl⟩:=ry;exact rule i j t t' s _ _ ⟨.bl<|g i j,H,I,rfl,q⟩
def L7(i j:Int):Prop:=0<j/\j<1073741824
def CB(i j:Int):Prop:=0<=j/\j<=1000000/\i.natAbs<2^64
def Jm(i j:Int):Prop:=(-(2^64)<i/\i<2^64)\/(-(2^64)<j/\j<2^64)
def Jm.ok{i j:Int}(h:Jm i j):IntMulOk i j:=by
 rcases h with⟨h1,h2⟩|⟨h1,h2⟩
 ·exact .of_left<|intBits_le_64 h1 h2
 ·exact .of_right<|intBits_le_64 h1 h2
def zP(k:Nat):(0:Int)<=2^k:=by rw[two_pow_cast];exact kT _
def Jn:aA X (ŀ .Add) (FM λi j=>.int<|i+j):=yB λ_ _ _ _ _ _ _ q=>add_int q
def Jo:aA X (ŀ .Sub) (FM λi j=>.int<|i-j):=yB λ_ _ _ _ _ _ _ q=>sub_int q
def Gj:aA X (ŀ .Mod) (rI (λ_ j=>j≠0) λi j=>.int<|i.fmod j):=Bu λ_ _ _ _ _ _ _ hc q=>mod_int' hc q
def Jp:aA X (ŀ .Pow) (rI CB λi j=>.int<|i^j.toNat):=Bu λ_ _ _ _ _ _ _ hc q=>pow_int_small hc.1 hc.2.1 hc.2.2 q
def Jq:aA X (ŀ .LShift) (rI CB λi j=>.int<|i*2^j.toNat):=Bu λ_ _ _ _ _ _ _ hc q=>lshift_int_small hc.1 hc.2.1 hc.2.2 q
def Jr:aA X (ŀ .RShift) (rI (λ_ j=>0<=j) λi j=>.int<|i/2^j.toNat):=Bu λi j _ _ _ _ _ hc q=>
 rshift_int hc (by rw[nc i<|zP _];exact q)
def Js:aA X (ŀ .BitAnd) (FM λi j=>.int<|gG i j):=yB λ_ _ _ _ _ _ _ q=>and_int q
def YL{f:Á->Sem Á}{g:Int->Int}
 (rule:∀(i:Int) (t:Tok) (s:Ä) (Q:Á->Ä->Prop) (E:Á->Ä->Prop),Q (.int (g i) s.toks) {s with toks:=s.toks+1}->Ï (Ü X.prog X.w) X.A (f<|.int i t) Q E s):
 Gg X f (rU λi=>.int<|g i):=by
 intro Ç s c H x v Q I rx h;obtain⟨i,rfl,q⟩:=h;obtain⟨t,rfl⟩:=rx;exact rule i t s _ _ ⟨.int<|g i,H,I.tok _,⟨_,rfl⟩,q⟩
def DW:Gg X (unaryOp .USub) (rU λi=>.int<|-i):=YL λ_ _ _ _ _ q=>neg_int q
end
section
variable{X:Cx}{a b:È}{ta tb:TE}{pos:Pos}
def DX{Ç:List (À×Obj)}{c:St}{H:Hp}{s:Ä}{Q:VK}{k k':Bool}(I:Inv X Ç c H s)(q:Q (.bl k) H)(e:k=k'):EP X Ç c Q (.bool k') s:=by subst e;exact⟨.bl k,H,I,rfl,q⟩
def L8:aA X (ī .Lt) (FM λi j=>.bl<|decide<|i<j):=Gh λ_ _ _ _ _ _ _ q=>lt_int q
def L9:aA X (ī .LtE) (FM λi j=>.bl<|decide<|i<=j):=Gh λ_ _ _ _ _ _ _ q=>le_int q
def Ma:aA X (ī .Gt) (FM λi j=>.bl<|decide<|j<i):=Gh λ_ _ _ _ _ _ _ q=>gt_int q
def Mb:aA X (ī .GtE) (FM λi j=>.bl<|decide<|j<=i):=Gh λ_ _ _ _ _ _ _ q=>ge_int q
def mz:aA X (ī .Is) (λx y H Q=>y=.non/\Q (.bl<|decide<|x=.non) H):=by
 intro Ç s c H x y v u Q I rx ry h;obtain⟨rfl,q⟩:=h;cases ry;refine is_none_gen<|DX I q ?_;cases x<;>first
  |(cases rx;rfl)
  |(obtain⟨t,rfl⟩:=rx;rfl)
def Gk:aA X (ī .IsNot) (λx y H Q=>y=.non/\Q (.bl<|!decide (x=.non)) H):=by
 intro Ç s c H x y v u Q I rx ry h;obtain⟨rfl,q⟩:=h;cases ry;refine isnot_none_gen<|DX I q ?_;cases x<;>first
  |(cases rx;rfl)
  |(obtain⟨t,rfl⟩:=rx;rfl)
def aA.or{f:Á->Á->Sem Á}{r r':R2}(h:aA X f r)(h':aA X f r'):aA X f (λx y H Q=>r x y H Q\/r' x y H Q):=by
 intro Ç s c H x y v u Q I rx ry q;rcases q with q|q
 ·exact h Ç s c H x y v u Q I rx ry q
 ·exact h' Ç s c H x y v u Q I rx ry q
def ĸ(b:È){op:fw}(h:op≠.In:=by decide)(h2:op≠.NotIn:=by decide):le op b=false:=by
 have e1:(op==CmpOp.In)=false:=by cases op<;>first|rfl|exact absurd rfl h
 have e2:(op==CmpOp.NotIn)=false:=by cases op<;>first|rfl|exact absurd rfl h2
 cases b<;>simp[le,e1,e2]
def Gm{op:fw}{r:R2}(ho:aA X (ī op) r)(ha:PE X a ta)(hb:PE X b tb)(hm:le op b=false):PE X (.Compare a [op] [b] pos) (HW r ta tb):=λÇ s c H Q I h=>wpAny_Compare1 (Jl ha hb I h λv u s2 x y H2 I2 rx ry q=>ho Ç s2 c H2 x y v u Q I2 rx ry q) hm
def Jt(K:Î)(x:V)(H:Hp)(k:Bool):Prop:=
 match x with
 |.non=>k=false|.bl b=>k=b|.int i=>k=(i !=0)|.str y=>y.length<=sizeLine/\k=((y.length:Int) !=0)|.HS y=>y.size<=sizeLine/\k=((y.size:Int) !=0)|.ref p=>(∃xs,ϱ K H p xs/\k=!xs.isEmpty)\/(∃xs,fL K H p xs/\k=!xs.isEmpty)\/∃am,H p=some (.dK am)/\k=!am.isEmpty|_=>False
def zQ{κ:Type}{am:List (κ×V)}{vs:List (κ×Á)}(r:KV am vs):(!vs.isEmpty)=!am.isEmpty:=by cases r<;>rfl
def sM{xs:List V}{ď:List Á}(r:ł xs ď):(!ď.toArray.isEmpty)=!xs.isEmpty:=by cases r<;>simp
def pi:(sizeLine:Nat)<2^63:=by rw[dW];decide
def Ju:Rn X (λx H Q=>∃k,Jt X.K x H k/\Q k H):=by
 intro Ç s c H x v Q I rx h;obtain⟨k,e,q⟩:=h;have hl:=pi;have hs:sizeLine=16777216:=dW;cases x with
 |non=>cases rx;have e':k=false:=e;subst e';exact truthy_none ⟨H,I,q⟩|bl b=>cases rx;have e':k=b:=e;subst e';exact fA ⟨H,I,q⟩|int i=>obtain⟨t,rfl⟩:=rx;have e':k=(i !=0):=e;subst e';exact PySem.P.truthy_int ⟨H,I,q⟩|str y=>obtain⟨t,rfl⟩:=rx;obtain⟨hy,e'⟩:y.length<=sizeLine/\k=((y.length:Int) !=0):=e;subst e';exact PySem.P.truthy_str (by lia) ⟨H,I.tok _,q⟩|HS y=>obtain⟨t,rfl⟩:=rx;obtain⟨hy,e'⟩:y.size<=sizeLine/\k=((y.size:Int) !=0):=e;subst e';exact PySem.W.truthy_bytes (by lia) ⟨H,I.tok _,q⟩|ref p=>
  cases rx;have e':(∃xs,ϱ X.K H p xs/\k=!xs.isEmpty)\/(∃xs,fL X.K H p xs/\k=!xs.isEmpty)\/∃am,H p=some (.dK am)/\k=!am.isEmpty:=e;rcases e' with⟨xs,hx,e'⟩|⟨xs,hx,e'⟩|⟨am,hx,e'⟩
  ·subst e';obtain⟨ď,r,pl,hz⟩:=I.list hx;have hlen:=r.length;exact wpAny_truthy_list pl.isList (by simp only[Ī];lia) ⟨H,I.tok _,by rw[sM r];exact q⟩
  ·subst e';obtain⟨ď,r,pl,hz⟩:=I.tuple hx;have hlen:=r.length;exact truthy_tuple pl (by simp only[Ī];lia) ⟨H,I.tok _,by rw[sM r];exact q⟩
  ·subst e';obtain⟨hz,hS,vs,r,m⟩:am.length<=sizeLine/\(p==nE)=false/\∃vs,KV am vs/\s.heap.DictOf (xf X.prog X.w) p vs:=I.hok p _ hx;have hlen:am.length=vs.length:=Paired.length r;exact wpAny_truthy_dict hS m (by lia) ⟨H,I.tok _,by rw[zQ r];exact q⟩
 |_=>exact(show False from e).elim
def DZ(ha:PE X a ta)(he:∀whole,isTrue a X.env whole=(do let v<-whole;gv a.pos;ca [v] (truthy v))):
 PT X a (λc H Q=>ta c H λx H'=>∃k,Jt X.K x H' k/\Q k H'):=by
 intro Ç s c H Q I h;exact isTrue_plain (ϙ (ha Ç s c H _ I h) λv s1 ⟨x,H1,I1,r1,q1⟩=>Ju Ç s1 c H1 x v Q I1 r1 q1)<|he _
def zR:aA X (ŀ .Add) (λx y H Q=>∃i j,x=.str i/\y=.str j/\i.length+j.length<=sizeLine/\Q (.str<|i++j) H):=by intro Ç s c H x y v u Q I rx ry h;obtain⟨i,j,rfl,rfl,hz,q⟩:=h;obtain⟨t,rfl⟩:=rx;obtain⟨t',rfl⟩:=ry;exact add_str (λt' tk=>⟨.str<|i++j,H,I.tok _,⟨_,rfl⟩,q⟩) hz
def vals1{x:V}{us:List Á}(r:ł [x] us):∃u,us=[u]/\RelV x u:=by
 cases r with
 |cons r1 r2=>cases r2;exact⟨_,rfl,r1⟩
def vals2{x y:V}{us:List Á}(r:ł [x,y] us):∃u w',us=[u,w']/\RelV x u/\RelV y w':=by
 cases r with
 |cons r1 r2=>
  cases r2 with
  |cons r3 r4=>cases r4;exact⟨_,_,rfl,r1,r3⟩
def D_:ő X (.builtin "abs") (λxs H Q=>∃i,xs=[.int i]/\Q (.int<|if i<0then -i else i) H):=by intro Ç s c H xs us Q I r h;obtain⟨i,rfl,q⟩:=h;obtain⟨u,rfl,t,rfl⟩:=vals1 r;exact call_abs_int λu tk=>⟨.int<|if i<0then -i else i,H,I.tok _,⟨_,rfl⟩,q⟩
def CC(hc:X.calm=true):ő X (.builtin "max") (λxs H Q=>∃i j,xs=[.int i,.int j]/\Q (.int<|if j>i then j else i) H):=by
 intro Ç s c H xs us Q I r h;obtain⟨i,j,rfl,q⟩:=h;obtain⟨u,w',rfl,⟨t,rfl⟩,⟨t',rfl⟩⟩:=vals2 r;refine max_two_ints (I.ok.hd hc) λh' tk k=>⟨_,H,I.kept k,?_,q⟩;by_cases hj:j>i
 ·rw[if_pos hj,if_pos hj];exact⟨_,rfl⟩
 ·rw[if_neg hj,if_neg hj];exact⟨_,rfl⟩
def CD(hc:X.calm=true):ő X (.builtin "min") (λxs H Q=>∃i j,xs=[.int i,.int j]/\Q (.int<|if j<i then j else i) H):=by
 intro Ç s c H xs us Q I r h;obtain⟨i,j,rfl,q⟩:=h;obtain⟨u,w',rfl,⟨t,rfl⟩,⟨t',rfl⟩⟩:=vals2 r;refine min_two_ints (I.ok.hd hc) λh' tk k=>⟨_,H,I.kept k,?_,q⟩;by_cases hj:j<i
 ·rw[if_pos hj,if_pos hj];exact⟨_,rfl⟩
 ·rw[if_neg hj,if_neg hj];exact⟨_,rfl⟩
def CG:ő X (.type "int") (λxs H Q=>(∃i,xs=[.int i]/\Q (.int i) H)\/∃k,xs=[.bl k]/\Q (.int<|if k then 1 else 0) H):=by
 intro Ç s c H xs us Q I r h;rcases h with⟨i,rfl,q⟩|⟨k,rfl,q⟩
 ·obtain⟨u,rfl,t,rfl⟩:=vals1 r;exact call_int_int ⟨.int i,H,I,⟨_,rfl⟩,q⟩
 ·obtain⟨u,rfl,r1⟩:=vals1 r;cases r1;exact call_int_bool ⟨.int<|if k then 1 else 0,H,I.tok _,⟨_,rfl⟩,q⟩
def xp:ő X (.type "str") (λxs H Q=>∃i,xs=[.int i]/\i.natAbs.log2<1920/\Q (.str<|fG i) H):=by intro Ç s c H xs us Q I r h;obtain⟨i,rfl,hz,q⟩:=h;obtain⟨u,rfl,t,rfl⟩:=vals1 r;exact PySem.P.str_of_int hz ⟨.str _,H,I.tok _,⟨_,rfl⟩,q⟩
def Ro(K:Î)(x:V)(H:Hp)(n:Nat):Prop:=
 match x with
 |.str y=>y.length<=sizeLine/\n=y.length|.HS y=>y.size<=sizeLine/\n=y.size|.ref p=>(∃xs,ϱ K H p xs/\n=xs.length)\/∃xs,fL K H p xs/\n=xs.length|_=>False
def D0:ő X (.builtin "len") (λxs H Q=>∃x n,xs=[x]/\Ro X.K x H n/\Q (.int n) H):=by
 intro Ç s c H xs us Q I r h;obtain⟨x,n,rfl,e,q⟩:=h;obtain⟨u,rfl,rx⟩:=vals1 r;have hl:=pi;have hs:sizeLine=16777216:=dW;cases x with
 |str y=>obtain⟨t,rfl⟩:=rx;obtain⟨hy,e'⟩:y.length<=sizeLine/\n=y.length:=e;subst e';exact len_str (by lia) ⟨.int _,H,I.tok _,⟨_,rfl⟩,q⟩|HS y=>obtain⟨t,rfl⟩:=rx;obtain⟨hy,e'⟩:y.size<=sizeLine/\n=y.size:=e;subst e';exact PySem.W.len_bytes (by lia) ⟨.int _,H,I.tok _,⟨_,rfl⟩,q⟩|ref p=>
  cases rx;have e':(∃xs,ϱ X.K H p xs/\n=xs.length)\/∃xs,fL X.K H p xs/\n=xs.length:=e;rcases e' with⟨xs,hx,e'⟩|⟨xs,hx,e'⟩
  ·subst e';obtain⟨ď,r',pl,hz⟩:=I.list hx;have hlen:=r'.length;exact Calls.call_len_list pl.isList (by simp only[Ī];lia) ⟨.int xs.length,H,I.tok _,⟨_,by simp only[Ī];rw[hlen]⟩,q⟩
  ·subst e';obtain⟨ď,r',pl,hz⟩:=I.tuple hx;have hlen:=r'.length;exact len_tuple pl (by simp only[Ī];lia) ⟨.int xs.length,H,I.tok _,⟨_,by simp only[Ī];rw[hlen]⟩,q⟩
 |_=>exact(show False from e).elim
def yC:ő X (.builtin "divmod") (λxs H Q=>∃i j,xs=[.int i,.int j]/\L7 i j/\∀p,H p=none->Q (.ref p) (upd H p<|.tup [.int<|i/j,.int<|i%j])):=by intro Ç s c H xs us Q I r h;obtain⟨i,j,rfl,⟨h1,h2⟩,q⟩:=h;obtain⟨u,w',rfl,⟨t,rfl⟩,⟨t',rfl⟩⟩:=vals2 r;refine divmod_int (by lia) ?_ (.inl<|PyProof.noPylong_small<|by lia);rw[nc i (by lia),vL i<|by lia];have hn:H s.heap.objs.size=none:=I.hok.fresh<|ø _;refine⟨.ref s.heap.objs.size,_,?_,rfl,q _ hn⟩;refine I.laid (λb o e=>ă _ e) (ø _) ⟨by simp only[Ę,List.length_nil];rw[dW];decide,[.int (i/j) s.toks,.int (i%j)<|s.toks+1],.cons ⟨_,rfl⟩<|.cons ⟨_,rfl⟩ .nil,?_⟩;exact⟨_,Į s.heap rfl,rfl,0,rfl⟩
end
structure zS(h:Ñ)(x dx C:À)(mA:Str->Option Á):Prop where
 obj:h.get? x=some (fF C dx)
 ns:h.Ns1 dx mA
 ne:dx≠x
def CH{h:Ñ}{dx:À}{mA:Str->Option Á}(n:h.Ns1 dx mA):∃od,h.get? dx=some od/\∀name,rX name od=some (mA name):=by
 obtain⟨o,es,ep,ho,hd,hk,_,hm⟩:=n;refine⟨o,ho,λname=>?_⟩;have e:=hm name;unfold nsFind findBy at e;rw[<-Array.find?_toList]at e;unfold rX;rw[hd];dsimp only;split
 ·rename_i y q;rw[q]at e;exact congrArg some e
 ·rename_i q;rw[q]at e;have a:es.toList.any (·.refKey)=false:=by
   rw[nj];intro y hy;obtain⟨z,t,Qqq5⟩:=hk y<|Array.mem_toList_iff.mp hy;simp[DictEntry.refKey,Qqq5]
  have a':¬es.toList.any (·.refKey)=true:=by rw[a];exact bZ
  rw[if_neg a'];exact congrArg some e
def zS.look{h:Ñ}{x dx C:À}{mA:Str->Option Á}(I:zS h x dx C mA):∃od,PySem.W.InstAt h x (fF C dx) C (some od)/\∀name,rX name od=some (mA name):=
 let ⟨od,ho,hl⟩:=CH I.ns
 ⟨od,⟨I.obj,rfl,rfl,ho⟩,hl⟩
section
variable{prog:ë}{w:â}{A:ì}{E:Á->Ä->Prop}{s:Ä}{K:Î}{x dx C f:À}{mA:Str->Option Á}{name:Str}{v:Á}
def HG{Qqq6:Bool}{Q:Á->Ä->Prop}(X:K.In s.heap)(I:zS s.heap x dx C mA)(hg:nW K C name=true)(hh:rY K C=true)
 (ha:Ż K (.ref C) name=some none)(hv:mA name=some v)(HH:Bk v=true)(h:Q v {s with toks:=s.toks+1}):
 Ï (Ü prog w) A (getAttr (.ref x) name Qqq6) Q E s:=by
 obtain⟨od,J,hl⟩:=I.look;exact PySem.W.get_value X J (wV hg).1 (PySem.W.findObj_own hh ha rfl<|by rw[hl,hv]) HH h
def D3{pl:Sem Bool}{Q:Á×List Á->Ä->Prop}(X:K.In s.heap)(I:zS s.heap x dx C mA)(hg:nW K C name=true)
 (hf:Ż K (.ref C) name=some (some<|.ref f))(ht:nX K (.ref f)=true)(hv:mA name=none)(h:Q (.ref f,[.ref x]) s):
 Ï (Ü prog w) A (lf (.ref x) name pl) Q E s:=by
 obtain⟨od,J,hl⟩:=I.look;exact PySem.W.method_fn X J (wV hg).1 (wV hg).2 hf (beq_iff_eq.mp ht) (by show(rX name od).map (·.isSome)=some false;rw[hl,hv];rfl) h
def Gn{ns:List Str}{Q:Unit->Ä->Prop}(X:K.In s.heap)(I:zS s.heap x dx C mA)
 (hs:Ż K (.ref C) "__setattr__"=some (some<|.builtin "object.__setattr__"))(hp:wW K C=true)(ht:wX K C name=some none)(hh:rY K C=true)
 (hw:ww mA ns)(ph:ns.length<=sizeLine)
 (h:∀h',zS h' x dx C (λy=>if y=name then some v else mA y)->Ţ dx s.heap h'->Q () {s with heap:=h',toks:=s.toks+2}):
 Ï (Ü prog w) A (setAttr (.ref x) name v) Q E s:=by
 obtain⟨od,J,hl⟩:=I.look;refine PySem.W.set_plain X J hs<|PySem.W.osa_open (s:={s with toks:=s.toks+1}) (r:=none) X J hp ht λb=>?_;obtain⟨cd,hc,Oo⟩:=PySem.W.any_some hh;have hx:s.heap.get? x=some ⟨.ref C,some dx,.plain,#[]⟩:=I.obj;refine Ò<|Č<|Ò<|Ò<|wpAny_loadPart hx<|Ò<|PySem.W.Looks.here (s:={s with toks:=s.toks+1}) (PySem.W.looks_clsIn X hc) ?_;rw[Oo];refine Č (a:=some dx)<|Ò<|Č<|Ò ?_;refine wpAny_nsSet1 (s:={s with toks:=s.toks+1}) I.ns λh' Q_ uq=>?_;obtain⟨oD,esD,epD,hoD,hdD,hcD⟩:=Q_.count<|PySem.Within.cons name v hw;refine Ò (wpAny_lookBehind hoD (by rw[hdD];exact pastItsLine_dict<|ř hcD (by rw[Ę];lia)) ?_);exact Č<|h _ ⟨(uq.2 _<|Ē I.ne).trans I.obj,Q_,I.ne⟩ uq
def D4{R:Result->Ä->Prop}{vs:List Á}{kw:List (Str×Á)}(X:K.In s.heap)(hm:wY K C=true)
 (hi:Ż K (.ref C) "__init__"=some (some<|.ref f))(hf:PySem.W.typeIn K (.ref f)=some (.type "function"))
 (h:fB (Ü prog w) (A.under<|.builtin "type.__call__" ⟨.ref C::vs,kw⟩) (.call (.ref f) ⟨.ref (s.heap.objs.size+1)::vs,kw⟩) (PySem.W.InitBack (s.heap.objs.size+1) R)
   {s with heap:=(s.heap.push ei).push (fF C s.heap.objs.size)}):
 fB (Ü prog w) A (.call (.ref C) ⟨vs,kw⟩) R s:=by
 obtain⟨hh,g,d,t,os⟩:=s;exact PySem.W.make_core (PySem.W.makes_of X hm) (PySem.W.looks_findIn X hi) (λself=>PySem.W.bind_fn X self hf) (.inl rfl) h
end
noncomputable def jt(f:Str)(v:V):List (Str×V)->List (Str×V)
 |[]=>[(f,v)]|(g,x)::r=>if g=f then(g,v)::r else(g,x)::jt f v r
theorem pP(f g:Str)(v:V):∀fs:List (Str×V),(jt f v fs).lookup g=if g=f then some v else fs.lookup g
 |[]=>by
   show fi g [(f,v)]=_;by_cases h:g=f
   ·have hb:(g==f)=true:=beq_iff_eq.mpr h;simp only[fi,hb,if_pos h]
   ·have hb:(g==f)=false:=beq_eq_false_iff_ne.mpr h;simp only[fi,hb,if_neg h]
 |(k,x)::r=>by
  have ih:=pP f g v r;rw[show jt f v ((k,x)::r)=(if k=f then(k,v)::r else(k,x)::jt f v r)from rfl];by_cases hk:k=f
  ·rw[if_pos hk];by_cases h:g=k
   ·have hb:(g==k)=true:=beq_iff_eq.mpr h;simp only[fi,hb,if_pos<|h.trans hk]
   ·have hb:(g==k)=false:=beq_eq_false_iff_ne.mpr h;simp only[fi,hb,if_neg (λe:g=f=>h<|e.trans hk.symm)]
  ·rw[if_neg hk];by_cases h:g=k
   ·have hb:(g==k)=true:=beq_iff_eq.mpr h;simp only[fi,hb,if_neg (λe:g=f=>hk<|h.symm.trans e)]
   ·have hb:(g==k)=false:=beq_eq_false_iff_ne.mpr h;simp only[fi,hb];exact ih
theorem pj(f:Str)(v:V):∀fs:List (Str×V),f∈(jt f v fs).map (·.1)/\∀g,g∈fs.map (·.1)->g∈(jt f v fs).map (·.1)
 |[]=>⟨by simp[jt],λg h=>by simp at h⟩
 |(k,x)::r=>by
  obtain⟨i1,i2⟩:=pj f v r;rw[show jt f v ((k,x)::r)=(if k=f then(k,v)::r else(k,x)::jt f v r)from rfl];by_cases hk:k=f
  ·rw[if_pos hk];subst hk;exact⟨by simp,λg h=>by simpa using h⟩
  ·rw[if_neg hk];refine⟨?_,λg h=>?_⟩
   ·rw[á];exact ð _ i1
   ·rw[á]at h⊢;rcases ö.mp h with e|e
    ·exact ö.mpr<|.inl e
    ·exact ð _<|i2 g e
theorem pQ(f:Str)(v:V):∀fs:List (Str×V),(jt f v fs).length<=fs.length+1
 |[]=>by simp[jt]|(k,x)::r=>by
  have ih:=pQ f v r;rw[show jt f v ((k,x)::r)=(if k=f then(k,v)::r else(k,x)::jt f v r)from rfl];by_cases hk:k=f
  ·rw[if_pos hk,Ę,Ę];lia
  ·rw[if_neg hk,Ę,Ę];lia
def ux.some_of{v:V}{o:Option Á}(r:ux (some v) o):∃u,o=some u/\RelV v u:=by
 cases o with
 |none=>exact(show False from r).elim|some u=>exact⟨u,rfl,r⟩
def ux.none_of{o:Option Á}(r:ux none o):o=none:=by
 cases o with
 |none=>rfl|some u=>exact(show False from r).elim
def CI{v:V}{u:Á}(r:RelV v u):Bk u=true:=by
 cases v with
 |non=>cases(show u=Value.none from r);rfl|bl b=>cases(show u=eh b from r);rfl|int i=>obtain⟨t,e⟩:=(show ∃t,u=nV i t from r);cases e;rfl|str x=>obtain⟨t,e⟩:=(show ∃t,u=ly x t from r);cases e;rfl|HS b=>obtain⟨t,e⟩:=(show ∃t,u=Value.bytes b t from r);cases e;rfl|flt b=>obtain⟨t,e⟩:=(show ∃t,u=wR b t from r);cases e;rfl|ref a=>cases(show u=ń a from r);rfl|ty n=>cases(show u=wS n from r);rfl
section
variable{P:ë}{w:â}{H:Hp}{h:Ñ}{a C dx:À}{fs:List (Str×V)}
def sf(hok:n_ P w H h)(e:H a=some (.ins C dx fs)):∃mA,zS h a dx C mA/\(∀f,ux (fs.lookup f)<|mA f)/\ww mA (fs.map (·.1))/\fs.length<=1000/\H dx=some (.own a):=by obtain⟨d,z,ne,ob,mA,n,r,q⟩:=(show cD P w H h a (.ins C dx fs)from hok a _ e);exact⟨mA,⟨ob,n,ne⟩,r,q,z,d⟩
end
structure zu(K:Î)(C:À):Prop where
 pg:nW K C Str.empty=true
 hd:rY K C=true
 po:wW K C=true
 sa:Ż K (.ref C) "__setattr__"=some (some<|.builtin "object.__setattr__")
def zu.get{K:Î}{C:À}(c:zu K C)(f:Str):nW K C f=true:=c.pg
def eU(K:Î)(C:À)(f:Str):Prop:=Ż K (.ref C) f=some none
def eU.taker{K:Î}{C:À}{f:Str}(n:eU K C f):wX K C f=some none:=by unfold wX;rw[show Ż K (.ref C) f=some none from n];rfl
structure Dl(K:Î)(C:À)(m:Str)(f:À):Prop where
 at_:Ż K (.ref C) m=some (some<|.ref f)
 fn:nX K (.ref f)=true
 kp:bC K (.ref f)=true
section
variable{X:Cx}{Ç:List (À×Obj)}{σ:St}{H:Hp}{s:Ä}{a C dx:À}{fs:List (Str×V)}{f:Str}{v:V}{A:ì}{E:Á->Ä->Prop}
def zT{b:Bool}{Q:Á->Ä->Prop}(I:Inv X Ç σ H s)(e:H a=some (.ins C dx fs))(c:zu X.K C)(n:eU X.K C f)(l:fs.lookup f=some v)
 (h:∀u s',Inv X Ç σ H s'->RelV v u->Q u s'):Ï (Ü X.prog X.w) A (getAttr (.ref a) f b) Q E s:=by
 obtain⟨mA,O,r,_,_,_⟩:=sf I.hok e;obtain⟨u,hu,ru⟩:=ux.some_of (v:=v) (o:=mA f) (by rw[<-l];exact r f);exact HG I.mj O (c.get f) c.hd n hu (CI ru)<|h u _ (I.tok _) ru
def sN{m:Str}{g:À}{pl:Sem Bool}{Q:Á×List Á->Ä->Prop}(I:Inv X Ç σ H s)(e:H a=some (.ins C dx fs))(c:zu X.K C)(k:Dl X.K C m g)(l:fs.lookup m=none)
 (h:Q (.ref g,[.ref a]) s):Ï (Ü X.prog X.w) A (lf (.ref a) m pl) Q E s:=by
 obtain⟨mA,O,r,_,_,_⟩:=sf I.hok e;have hn:mA m=none:=ux.none_of (by rw[<-l];exact r m);exact D3 I.mj O (c.get m) k.at_ k.fn hn h
def zU{y:V}{u:Á}{Q:Unit->Ä->Prop}(I:Inv X Ç σ H s)(e:H a=some (.ins C dx fs))(c:zu X.K C)(n:eU X.K C f)(hl:fs.length<1000)(ry:RelV y u)
 (h:∀s',Inv X Ç σ (upd H a<|.ins C dx<|jt f y fs) s'->Q () s'):Ï (Ü X.prog X.w) A (setAttr (.ref a) f u) Q E s:=by
 obtain⟨mA,O,r,wi,_,ho⟩:=sf I.hok e;have hz:(fs.map (·.1)).length<=sizeLine:=by rw[ħ,dW];lia
 refine Gn I.mj O c.sa c.po n.taker c.hd wi hz λh' O' sb=>h _ ?_;have hd:∃o,h'.get? dx=some o:=let ⟨o,_,_,e',_⟩:=O'.ns;⟨o,e'⟩;refine I.write (x:=a) (e:=dx) (by rw[e];exact True.intro) (.inr ho) (λb q hb z=>(sb.2 b hb).trans z) hd ?_;refine⟨by rw[õ O.ne];exact ho,?_,O.ne,O'.obj,_,O'.ns,λg=>?_,λg hg=>?_⟩
 ·have:=pQ f y fs;lia
 ·show ux ((jt f y fs).lookup g) (if g=f then some u else mA g);rw[pP];by_cases q:g=f
  ·rw[if_pos q,if_pos q];exact ry
  ·rw[if_neg q,if_neg q];exact r g
 ·by_cases q:g=f
  ·rw[q];exact(pj f y fs).1
  ·refine(pj f y fs).2 g (wi g λz=>hg ?_);show(if g=f then some u else mA g)=none;rw[if_neg q];exact z
def Inv.made(I:Inv X Ç σ H s):Inv X Ç σ (upd (upd H s.heap.objs.size<|.own<|s.heap.objs.size+1) (s.heap.objs.size+1)<|.ins C s.heap.objs.size [])
 {s with heap:=(s.heap.push ei).push (fF C s.heap.objs.size)}:=by
 have e1:(s.heap.push ei).get? s.heap.objs.size=some ei:=Į s.heap rfl;have e2:((s.heap.push ei).push (fF C s.heap.objs.size)).get? (s.heap.objs.size+1)=some (fF C s.heap.objs.size):=by
  have:=Į (s.heap.push ei) (o:=fF C s.heap.objs.size) rfl
  rwa [Ϧ]at this
 have e3:(s.heap.push ei).Ns s.heap.objs.size (λ_=>none):=⟨ei,#[],_,e1,rfl,(λe he=>absurd he<|by simp),λ_=>rfl⟩;have I1:=I.laid (a:=s.heap.objs.size) (o:=.own<|s.heap.objs.size+1) (h':=s.heap.push ei) (t':=s.toks) (λb u q=>ă _ q) (ø _) ⟨_,e1⟩;refine I1.laid (a:=s.heap.objs.size+1) (o:=.ins C s.heap.objs.size []) (t':=s.toks) (λb u q=>ă _ q) (qV<|Ϧ _ _) ?_;have ne:s.heap.objs.size≠s.heap.objs.size+1:=ŏ<|qW _;refine⟨by rw[õ ne,ą],dS _,ne,e2,λ_=>none,(Heap.Ns1.of_empty e3).at λo q=>ă _ q,λ_=>True.intro,λy hy=>absurd rfl hy⟩
def Go{prog:ë}{w:â}{env:Env}{e:È}{f:Str}{pos:Pos}{s:Ä}{Q:Á->Ä->Prop}(hb:cS e f env (eval e env)=eval e env)
 (h:Ï (Ü prog w) A (eval e env) (λo s₁=>Ï (Ü prog w) A (getAttr o f true) Q E s₁) E s):Ï (Ü prog w) A (eval (.Attribute e f pos) env) Q E s:=
 Attribute_any_ h (by rw[arm_eval_Attribute,hb])
end
def Rq(K:Î)(ta:TE)(f:Str):TE:=λb H Q=>ta b H λx H1=>∃a C dx fs v,x=.ref a/\H1 a=some (.ins C dx fs)/\zu K C/\eU K C f/\fs.lookup f=some v/\Q v H1
def Rr(K:Î)(ta tv:TE)(f:Str):TS:=λD b H=>tv b H λy H1=>ta b H1 λx H2=>∃a C dx fs,x=.ref a/\H2 a=some (.ins C dx fs)/\zu K C/\eU K C f/\fs.length<1000/\
 D.nx b (upd H2 a<|.ins C dx<|jt f y fs)
section
variable{X:Cx}{o e value:È}{f:Str}{pos cA:Pos}{ta tv:TE}
def Jv(he:PE X e ta)(hb:cS e f X.env (eval e X.env)=eval e X.env):PE X (.Attribute e f pos) (Rq X.K ta f):=by intro Ç s b H Q I h;refine Go hb<|ϙ (he Ç s b H _ I h) λu s1 zz=>?_;obtain⟨x,H1,I1,rx,a,C,dx,fs,v,ex,ea,c,n,l,q⟩:=zz;subst ex;obtain rfl:u=ń a:=rx;exact zT I1 ea c n l λu' s2 I2 ru=>⟨v,H1,I2,ru,q⟩
def Jw(ha:PE X o ta)(hv:PE X value tv)(hs:ū value (some<|.Attribute o f cA) pos.line X.env=ñ false):PS X (.Assign [.Attribute o f cA] value pos) (Rr X.K ta tv f):=by intro Ç s b H D I h;refine plainObj_wpAny_Assign_Attribute (ϙ (hv Ç s b H _ I h) λu s1 ⟨y,H1,I1,ry,q⟩=>ϙ (ha Ç s1 b H1 _ I1 q) λov s2 zz=>?_) hs;obtain⟨x,H2,I2,rx,a,C,dx,fs,ex,ea,c,n,l,q2⟩:=zz;subst ex;obtain rfl:ov=ń a:=rx;exact zU I2 ea c n l ry λs3 I3=>⟨b,_,I3,q2⟩
end
section
variable{X:Cx}{Ç:List (À×Obj)}{σ:St}{H:Hp}{s:Ä}{A:ì}{E:Á->Ä->Prop}{Q:Á->Ä->Prop}{c:Á}{b:Bool}
inductive pk(K:Î)(H:Hp):V->Á->Prop where
 |non:pk K H .non (.type "NoneType")
 |bl (x:Bool):pk K H (.bl x) (.type "bool")
 |int (i:Int):pk K H (.int i) (.type "int")
 |str (x:Str):pk K H (.str x) (.type "str")
 |flt (x:UInt64):pk K H (.flt x) (.type "float")
 |lst {a:À}{xs:List V} (e:H a=some (.lst xs)):pk K H (.ref a) (.type "list")
 |fP {a:À}{o:Obj}{xs:List V} (e:H a=some (.fP o<|.lst xs)):pk K H (.ref a) (.type "list")
 |tup {a:À}{xs:List V} (e:H a=some (.tup xs)):pk K H (.ref a) (.type "tuple")
 |dK {a:À}{am:List (Key×V)} (e:H a=some (.dK am)):pk K H (.ref a) (.type "dict")
 |dT {a:À}{am:List (List Key×V)} (e:H a=some (.dT am)):pk K H (.ref a) (.type "dict")
 |ins {a C dx:À}{fs:List (Str×V)} (e:H a=some (.ins C dx fs)) (cl:zu K C) (ha:Ż K (.ref C) "__class__"=some (some<|.builtin "object.__class__"))
   (hn:PySem.W.specialIn K (.builtin "object.__class__") "__get__"=some (some<|.builtin "getset_descriptor.__get__")) (Yg:PySem.W.takesIn K (.builtin "object.__class__")=some true)
   (hm:PySem.W.mroIn K C (.type "object")=some true):pk K H (.ref a) (.ref C)
def iq{x:V}{u t:Á}(I:Inv X Ç σ H s)(rx:RelV x u)(ty:pk X.K H x t)(e:nY X.K t c=some b)(h:∀tk,Q (.bool b) {s with toks:=tk}):
 Ï (Ü X.prog X.w) A (call (.builtin "isinstance") [u,c]) Q E s:=by
 cases ty with
 |non=>cases(show u=Value.none from rx);exact bE PySem.W.kitx_none I.mj True.intro e (λz=>nomatch z) h
 |bl y=>cases(show u=eh y from rx);exact bE PySem.W.kitx_bool I.mj True.intro e (λz=>nomatch z) h
 |int i=>obtain⟨t,q⟩:=(show ∃t,u=nV i t from rx);cases q;exact bE PySem.W.kitx_int I.mj True.intro e (λz=>nomatch z) h
 |str y=>obtain⟨t,q⟩:=(show ∃t,u=ly y t from rx);cases q;exact bE PySem.W.kitx_str I.mj True.intro e (λz=>nomatch z) h
 |flt y=>obtain⟨t,q⟩:=(show ∃t,u=wR y t from rx);cases q;exact bE PySem.W.kitx_float I.mj True.intro e (λz=>nomatch z) h
 |@lst a xs ea=>cases(show u=ń a from rx);obtain⟨_,_,n,_,h1⟩:=(show cD X.prog X.w H s.heap a (.lst xs)from I.hok a _ ea);exact bE wZ I.mj ⟨_,h1,rfl⟩ e (λz=>nomatch z) h
 |@fP a ob xs ea=>cases(show u=ń a from rx);obtain⟨_,_,_,n,_,h1⟩:=(show cD X.prog X.w H s.heap a (.fP ob<|.lst xs)from I.hok a _ ea);exact bE wZ I.mj ⟨_,h1,rfl⟩ e (λz=>nomatch z) h
 |@tup a xs ea=>cases(show u=ń a from rx);obtain⟨_,_,_,p⟩:=(show cD X.prog X.w H s.heap a (.tup xs)from I.hok a _ ea);obtain⟨o,h1,h2,_⟩:=p;exact bE Bl I.mj ⟨o,h1,h2⟩ e (λz=>nomatch z) h
 |@dK a am ea=>cases(show u=ń a from rx);obtain⟨_,_,vs,_,p⟩:=(show cD X.prog X.w H s.heap a (.dK am)from I.hok a _ ea);obtain⟨o,es,ep,h1,h2,_⟩:=p;exact bE Bm I.mj ⟨o,h1,h2.1⟩ e (λz=>nomatch z) h
 |@dT a am ea=>cases(show u=ń a from rx);obtain⟨_,_,xs,_,o,es,ep,h1,h2,_⟩:=(show cD X.prog X.w H s.heap a (.dT am)from I.hok a _ ea);exact bE Bm I.mj ⟨o,h1,h2.1⟩ e (λz=>nomatch z) h
 |@ins a C dx fs ea cl ha hn Yg hm=>cases(show u=ń a from rx);obtain⟨mA,O,_⟩:=sf I.hok ea;obtain⟨od,J,_⟩:=O.look;exact bE (PySem.W.kitx_own (cl.get _) cl.hd ha hn Yg hm) I.mj J e (λz=>nomatch z) h
end
structure ϛ(k:Nat)(A:ì):Prop where
 hd:A.handled=none
 dp:A.depth+3*k+5<recursionLimit
 un:A.units+16*k+200<Ź
def ϛ.mono{j k:Nat}{A:ì}(r:ϛ k A)(h:j<=k):ϛ j A:=⟨r.hd,by have:=r.dp;lia,by have:=r.un;lia⟩
theorem ϛ.deeper{k:Nat}{A:ì}(r:ϛ (k+1) A)(env:Env):ϛ k (A.deeper env):=
 ⟨r.hd,by have:=r.dp;show A.depth+1+3*k+5<_;lia,by have:=r.un;show A.units+3+16*k+200<_;lia⟩
def zW{A:ì}{C:À}{us:List Á}{kw:List (Str×Á)}:(A.under<|.builtin "type.__call__" ⟨.ref C::us,kw⟩).depth=A.depth+1:=by first|rfl|simp[wH,Code.weight,Code.isCreation,Code.isGuard,Code.isCaller,Code.frames,wJ,guardIds]
def zX{A:ì}{C:À}{us:List Á}{kw:List (Str×Á)}:(A.under<|.builtin "type.__call__" ⟨.ref C::us,kw⟩).units=A.units+1:=by first|rfl|simp[wH,Code.cUnits,Code.frames,wJ]
def ϛ.make{k:Nat}{A:ì}(r:ϛ (k+1) A)(C:À)(us:List Á)(kw:List (Str×Á)):ϛ k (A.under<|.builtin "type.__call__" ⟨.ref C::us,kw⟩):=
 ⟨r.hd,by have:=r.dp;rw[zW];lia,by have:=r.un;rw[zX];lia⟩
theorem ϛ.depth{k:Nat}{A:ì}(r:ϛ k A):A.depth<recursionLimit:=by have:=r.dp;lia
theorem ϛ.units{k:Nat}{A:ì}(r:ϛ k A):A.units+64<Ź:=by have:=r.un;lia
def D5:TA:=λ_ H Q=>Q [] H
def D6(ta:TE)(tr:TA):TA:=λa H Q=>ta a H λx H1=>tr a H1 λxs H2=>Q (x::xs) H2
section
variable{X:Cx}{e:È}{es:List È}{te:TE}{t:TA}{pos:Pos}
def cu:PA X [] D5:=λ_ _ _ _ H Q I h=>Calls.spliced_nil ⟨[],H,I,.nil,h⟩
def Ϩ(ha:PE X e te)(hr:PA X es t)(hs:Ð (e::es) X.env=(false,eval e X.env)::Ð es X.env:=by rfl):PA X (e::es) (D6 te t):=by intro pos Ç s a H Q I h;rw[hs];show Ï _ _ (spliced ((false,eval e X.env)::Ć pos (Ð es X.env))) _ _ s;refine Calls.spliced_cons<|ϙ (ha Ç s a H _ I h) λu s1 zz=>?_;obtain⟨x,H1,I1,r1,q1⟩:=zz;exact ϙ (hr pos Ç s1 a H1 _ I1 q1) λus s2 ⟨xs,H2,I2,r2,q2⟩=>⟨x::xs,H2,I2,.cons r1 r2,q2⟩
def Rt(t:TA):TE:=λa H Q=>t a H λxs H1=>xs.length<=sizeLine/\∀p,H1 p=none->Q (.ref p) (upd H1 p<|.tup xs)
def Jx(t:TA):TE:=λa H Q=>t a H λxs H1=>xs.length<=sizeLine/\∀p,H1 p=none->Q (.ref p) (upd H1 p<|.lst xs)
def D7{x1}(h:PA X es t):PE X (.Tuple es x1 pos) (Rt t):=by intro Ç s a H Q I hq;refine wpAny_Tuple_spliced (ϙ (h pos Ç s a H _ I hq) λus s1 ⟨xs,H1,I1,r,z,q⟩=>⟨by rw[<-r.length];exact z,?_⟩);have hf:H1 s1.heap.objs.size=none:=I1.hok.fresh<|ø _;refine⟨.ref s1.heap.objs.size,upd H1 s1.heap.objs.size<|.tup xs,I1.laid (t':=s1.toks) (λb u e=>ă _ e) (ø _) ?_,rfl,q _ hf⟩;exact⟨z,us,r,⟨_,Į _ rfl,rfl,_,rfl⟩⟩
def zY(h:PA X es t):PE X (.List es pos) (Jx t):=by intro Ç s a H Q I hq;refine wpAny_List_spliced (ϙ (h pos Ç s a H _ I hq) λus s1 ⟨xs,H1,I1,r,z,q⟩=>⟨by rw[<-r.length];exact z,?_⟩);have hf:H1 s1.heap.objs.size=none:=I1.hok.fresh<|ø _;refine⟨.ref s1.heap.objs.size,upd H1 s1.heap.objs.size<|.lst xs,I1.laid (t':=s1.toks) (λb u e=>ă _ e) (ø _) ?_,rfl,q _ hf⟩;exact⟨z,us,0,r,Į _ rfl⟩
end
abbrev Sp:=List V->Hp->VK->XK->Prop
abbrev gJ:=List Env->Hp->Ä->XK->Á->Ä->Prop
structure yD(P:ë)(w:â)(K:Î)(mg:Str->Option Á)(base:Ñ)(A:ì)(outer:List Env)(s:Ä)(H:Hp):Prop where
 frames:A.frames=some outer
 mod:Mod K mg base
 bs:∀b o,base.get? b=some o->s.heap.get? b=some o/\H b=none
 DJ:base.objs.size<=s.heap.objs.size
 oa:s.heap.FunFrames base outer
 Gd:∀b∈FC outer,H b=none
 hok:n_ P w H s.heap
 bare:fq s.gens
 tb:yk K mg base H
def CE(outer:List Env)(P:ë)(w:â)(H:Hp)(s:Ä)(Q:VK)(u:Á)(s':Ä):Prop:=
 ∃v H',s'.os=s.os/\fq s'.gens/\Un (FC outer) [] H H' s.heap s'.heap/\n_ P w H' s'.heap/\RelV v u/\Q v H'
def CR(CX:gJ)(outer:List Env)(P:ë)(w:â)(H:Hp)(s:Ä)(Q:VK)(E:XK)(r:Result)(s':Ä):Prop:=
 match r with
 |.ok (.ret u)=>CE outer P w H s Q u s'|.ok _=>False|.error e=>CX outer H s E e s'
structure bO(P:ë)(w:â)(K:Î)(mg:Str->Option Á)(base:Ñ)(CX:gJ)(k:Nat)(f:À)(fd:ĉ)(ps:List Str)(sp:Sp):Prop where
 len:∀vs H Q E,sp vs H Q E->vs.length=ps.length
 run:∀(A:ì) (outer:List Env) (s:Ä) (H:Hp) (args:Args) (us:List Á) (vs:List V) (Q:VK) (E:XK),ϛ k A->yD P w K mg base A outer s H->fC s fd args (ps.zip us)->ł vs us->sp vs H Q E->
  fB (Ü P w) A (.call (.ref f) args) (CR CX outer P w H s Q E) s
theorem bO.mono{P:ë}{w:â}{K:Î}{mg:Str->Option Á}{base:Ñ}{CX:gJ}{j k:Nat}{f:À}{fd:ĉ}{ps:List Str}{sp:Sp}(F:bO P w K mg base CX j f fd ps sp)(h:j<=k):
 bO P w K mg base CX k f fd ps sp:=⟨F.len,λA outer s H args us vs Q E hr=>F.run A outer s H args us vs Q E<|hr.mono h⟩
def bO.imp{P:ë}{w:â}{K:Î}{mg:Str->Option Á}{base:Ñ}{CX:gJ}{k:Nat}{f:À}{fd:ĉ}{ps:List Str}{sp VQ:Sp}(F:bO P w K mg base CX k f fd ps sp)
 (h:∀vs H Q E,VQ vs H Q E->sp vs H Q E):bO P w K mg base CX k f fd ps VQ:=
 ⟨λvs H Q E q=>F.len vs H Q E<|h _ _ _ _ q,λA outer s H args us vs Q E hr he hb hv hs=>F.run A outer s H args us vs Q E hr he hb hv<|h _ _ _ _ hs⟩
def yD.make{P:ë}{w:â}{K:Î}{mg:Str->Option Á}{base:Ñ}{A:ì}{outer:List Env}{s:Ä}{H:Hp}(e:yD P w K mg base A outer s H)(C:À)(us:List Á)(kw:List (Str×Á)):
 yD P w K mg base (A.under<|.builtin "type.__call__" ⟨.ref C::us,kw⟩) outer s H:=⟨by first|exact e.frames|(simpa[wH,Code.envs,wJ,pushEnvs]using e.frames),e.mod,e.bs,e.DJ,e.oa,e.Gd,e.hok,e.bare,e.tb⟩
section
variable{X:Cx}{Ç:List (À×Obj)}{σ:St}{H:Hp}{s s':Ä}
def Inv.env0(I:Inv X Ç σ H s):yD X.prog X.w X.K X.mg X.base X.A X.stack s H:=
 ⟨I.ok.frames,I.ok.mod,I.bs,ř I.ok.DJ I.sz,I.stack,I.Bq,I.hok,I.bare,I.tb⟩
def Inv.after{Q:VK}{u:Á}(I:Inv X Ç σ H s)(h:CE X.stack X.prog X.w H s Q u s'):EP X Ç σ Q u s':=by obtain⟨v,H',os,bare,un,hok,r,q⟩:=h;obtain⟨hh,g,d,t,os'⟩:=s';obtain rfl:os'=s.os:=os;exact⟨v,H',I.call (h':=hh) (g':=g) (d':=d) (t':=t) (ch:=[]) un hok bare (λb z=>absurd z<|by simp),r,q⟩
end
def Binds(K:Î)(fd:ĉ)(ps:List Str)(ds:List Á):Prop:=
 ∀(s:Ä) (us:List Á),K.In s.heap->(us++ds).length=ps.length->fC s fd ⟨us,[]⟩ (ps.zip<|us++ds)
def Binds.all{K:Î}{fd:ĉ}{ps:List Str}(h:∀us:List Á,us.length=ps.length->nL fd ⟨us,[]⟩=ñ (ps.zip us)):Binds K fd ps []:=λs us _ hl=>by rw[kW]at hl⊢;exact .of_eq<|h us hl
section
variable{f C:À}
structure Mk(K:Î)(C f:À):Prop where
 makes:wY K C=true
 init:Ż K (.ref C) "__init__"=some (some<|.ref f)
 fn:nX K (.ref f)=true
 kp:bC K (.ref C)=true
end
structure ż(N P:List Str)(sc:ý):Prop where
 kind:sc.kind=.function
 co:sc.isCoroutine=false
 gen:sc.isGenerator=false
 nd:N.Nodup
 pre:N.take P.length=P
 par:∀x∈P,sc.names.lookup x=some .local\/sc.names.lookup x=some .cell
 Jy:∀y∈sc.names,y.2≠.free
theorem uM{kindOf:Str->Option cb}{x:Str}:∀{binds:List (Str×Á)}{m:Str->Option Á},(∀v,(x,v)∉binds)->bindL kindOf binds m x=m x
 |[],_,_=>rfl|(n,v)::r,m,h=>by
  unfold bindL;rw[uM λw hw=>h w<|ð _ hw];split
  ·have:x≠n:=by rintro rfl;exact h v ϝ
   simp[this]
  ·rfl
theorem uN{kindOf:Str->Option cb}{x:Str}:∀{binds:List (Str×Á)}{m:Str->Option Á},(∀v,(x,v)∉binds)->bindC kindOf binds m x=m x
 |[],_,_=>rfl|(n,v)::r,m,h=>by
  unfold bindC;rw[uN λw hw=>h w<|ð _ hw];split
  ·rfl
  ·have:x≠n:=by rintro rfl;exact h v ϝ
   simp[this]
theorem uO{kindOf:Str->Option cb}{x:Str}{v:Á}:∀{P:List Str}{vs:List Á}{i:Nat}{m:Str->Option Á},P.Nodup->P[i]?=some x->vs[i]?=some v->kindOf x=some .local->
 bindL kindOf (P.zip vs) m x=some v
 |[],_,_,_,_,h,_,_=>by simp at h|_::_,[],_,_,_,_,h,_=>by simp at h|p::P,w::vs,0,m,nd,h1,h2,hk=>by simp at h1 h2;subst h1;subst h2;show bindL kindOf ((p,w)::P.zip vs) m p=_;unfold bindL;rw[uM λv hv=>(b_.mp nd).1 (nk hv).1,if_pos hk];simp
 |p::P,w::vs,i+1,m,nd,h1,h2,hk=>by show bindL kindOf ((p,w)::P.zip vs) m x=_;unfold bindL;exact uO (i:=i) (b_.mp nd).2 (by simpa using h1) (by simpa using h2) hk
theorem uP{kindOf:Str->Option cb}{x:Str}{v:Á}:∀{P:List Str}{vs:List Á}{i:Nat}{m:Str->Option Á},P.Nodup->P[i]?=some x->vs[i]?=some v->kindOf x≠some .local->
 bindC kindOf (P.zip vs) m x=some v
 |[],_,_,_,_,h,_,_=>by simp at h|_::_,[],_,_,_,_,h,_=>by simp at h|p::P,w::vs,0,m,nd,h1,h2,hk=>by simp at h1 h2;subst h1;subst h2;show bindC kindOf ((p,w)::P.zip vs) m p=_;unfold bindC;rw[uN λv hv=>(b_.mp nd).1 (nk hv).1,if_neg hk];simp
 |p::P,w::vs,i+1,m,nd,h1,h2,hk=>by show bindC kindOf ((p,w)::P.zip vs) m x=_;unfold bindC;exact uP (i:=i) (b_.mp nd).2 (by simpa using h1) (by simpa using h2) hk
def start(N:List Str)(vs:List V):St:=vs.map some++Ù (N.length-vs.length) none
noncomputable def sO(CX:gJ)(P:ë)(w:â)(K:Î)(mg:Str->Option Á)(base:Ñ)(N:List Str)(ō:Str)(scope:ý)(f:À)(cd:Á)(A:ì)(outer:List Env)(s:Ä)(H:Hp)(E:XK):Cx where
 prog:=P
 w:=w
 K:=K
 mg:=mg
 base:=base
 A:=A.deeper (Ϗ ō scope s.heap.objs.size f cd)
 N:=N
 s₀:=s
 H₀:=H
 env:=Ϗ ō scope s.heap.objs.size f cd
 outer:=outer
 stack:=Ϗ ō scope s.heap.objs.size f cd::outer
 ex:=[]
 calm:=true
 fn:=λ_=>true
 pn:=[]
 xe:=λe s'=>Ï (Ü P w) (A.deeper<|Ϗ ō scope s.heap.objs.size f cd) (leaving (Ϗ ō scope s.heap.objs.size f cd) e) (λ_ Qqq7=>CX outer H s E e Qqq7) (λe' Qqq7=>CX outer H s E e' Qqq7) s'
def oh{sc:ý}{n:Nat}{x:Str}(h:sc.names.lookup x=some .cell):∃c,(Ś n sc.names []).lookup x=some c:=by have q:=Bn sc.names n [] (.inl h);exact Option.isSome_iff_exists.mp q
def CJ{CX:gJ}{P:ë}{w:â}{K:Î}{mg:Str->Option Á}{base:Ñ}{N ps:List Str}{ō:Str}{scope:ý}{f:À}{cd:Á}{A:ì}{outer:List Env}{s s1:Ä}{H:Hp}{E:XK}{us:List Á}{vs:List V}
 (S:ż N ps scope)(hd:A.handled=none)(e0:yD P w K mg base A outer s H)(hl:vs.length=ps.length)(r:ł vs us)
 (x:InCallC s s.heap.objs.size (bindL (Ϗ ō scope s.heap.objs.size f cd).kindOf (ps.zip us) λ_=>none) (Ś (s.heap.objs.size+1) scope.names []) (bindC (Ϗ ō scope s.heap.objs.size f cd).kindOf (ps.zip us) λ_=>none) s1):
 Inv (sO CX P w K mg base N ō scope f cd A outer s H E) [] (start N vs) H s1:=by
 have hpl:ps.length<=N.length:=by have:=congrArg cJ S.pre;rw[qH]at this;lia
 obtain⟨h1,tk,rfl,hk⟩:=x.done;have Mc:∀b:À,b∉(sO CX P w K mg base N ō scope f cd A outer s H E).ex:=λb z=>absurd (show b∈([]:List À)from z) (by simp);refine⟨⟨e0.mod,S.kind,rfl,rfl,ø _,λy z c h1 h2=>?_,λy hy=>?_,λy c _ h=>?_,λ_=>hd,Around.frames_deeper e0.frames,.inr ⟨rfl,rfl⟩,λb z=>absurd z<|Mc b,e0.bs,e0.DJ,λb _ _=>Mc b,λb z=>absurd z<|Mc b,e0.oa,e0.Gd,e0.tb⟩,
  rfl,e0.bare,Un.kept hk,⟨_,x.toInCall.ns,λi y v h1 h2 h3=>?_⟩,λy c h=>⟨_,x.cell y c h⟩,e0.hok.fresh<|ø _,λy c h=>?_,λp hp=>absurd (show p∈([]:List (À×Obj))from hp) (by simp),e0.hok.kept hk,?_⟩
 ·exact name_of_addr x.apart (nM h1)<|nM h2
 ·have hy:scope.names.lookup y=some .cell\/scope.names.lookup y=some .free:=hy;rcases hy with hy|hy
  ·exact oh hy
  ·exact absurd rfl<|S.Jy _<|nM hy
 ·exact nA<|x.above y c<|nM h
 ·have hi:i<vs.length:=by
   unfold start at h2;by_cases hi:i<vs.length
   ·exact hi
   ·rw[kX<|by simpa using hi]at h2;rw[gt]at h2;split at h2<;>cases h2
  have ha:vs[i]?=some v:=by
   unfold start at h2;rw[fj (by simpa using hi),ŗ]at h2;cases e:vs[i]?with
   |none=>rw[e]at h2;cases h2|some a=>rw[e]at h2;cases h2;rfl
  obtain⟨u,hu,rv⟩:=r.get ha;have hp:ps[i]?=some y:=by rw[<-S.pre,List.getElem?_take_of_lt<|by lia];exact h1
  have VS:ps.Nodup:=by rw[<-S.pre];exact S.nd.sublist<|List.take_sublist _ _
  refine⟨u,rv,?_⟩;rcases S.par y (AT hp)with k|k
  ·exact .inl ⟨k,uO VS hp hu k⟩
  ·obtain⟨c,e⟩:=oh (n:=s.heap.objs.size+1) k;refine .inr ⟨.inl k,c,e,?_⟩;have q:=x.cell y c e;rw[uP VS hp hu (by show scope.names.lookup y≠_;rw[k];decide)]at q;exact q
 ·exact e0.hok.fresh<|nA<|x.above y c<|nM h
 ·unfold start;show _=N.length;rw[Ϟ,ħ,vT];lia
def D8{CX:gJ}{P:ë}{w:â}{K:Î}{mg:Str->Option Á}{base:Ñ}{k:Nat}{f:À}{name ō:Str}{params:gx}{body:List ò}{scope:ý}{dV kV doc pm cdv ct oc:Á}{an od:Option À}
 {FY:Array (Option Á)}{N ps:List Str}{sp:Sp}(lk:K.lookup f=some ⟨oc,od,.func<|aK name ō params body scope dV kV doc pm an cdv ct,FY⟩)(Dj:lz K cdv ō=true)(S:ż N ps scope)
 (len:∀vs H Q E,sp vs H Q E->vs.length=ps.length)
 (iU:∀(A:ì) (outer:List Env) (s:Ä) (H:Hp) (vs:List V) (Q:VK) (E:XK),ϛ k (A.deeper<|Ϗ ō scope s.heap.objs.size f cdv)→sp vs H Q E→
   ∃t,dB (sO CX P w K mg base N ō scope f cdv A outer s H E) body t/\t {nx:=λ_ H'=>Q .non H',rt:=Q} (start N vs) H):
 bO P w K mg base CX (k+1) f (aK name ō params body scope dV kV doc pm an cdv ct) ps sp:=by
 refine⟨len,λA outer s H args us vs Q E hr e0 hb r DF=>?_⟩;have hl:=len _ _ _ _ DF;have KX:K.In s.heap:=e0.mod.HU.keeps λb o e=>(e0.bs b o e).1;have lim:s.heap.NoLimit:=e0.mod.nolimit.keeps λb o e=>(e0.bs b o e).1;have Ot:∀y∈ps.zip us,scope.names.lookup y.1=some .local\/(scope.names.lookup y.1=some .cell/\((Ś (s.heap.objs.size+1) scope.names []).lookup y.1).isSome=true):=by
  rintro ⟨n,v⟩ hy;rcases S.par n (nk hy).1 with q|q
  ·exact .inl q
  ·exact .inr ⟨q,Bn _ _ _<|.inl q⟩
 refine codeAny_call_function hr.depth (KX _ _ lk) rfl S.co S.gen rfl (PySem.W.codeRec_of KX Dj)<|hb _ _ _ _ ?_;refine wpAny_newFunctionEnv_cells S.kind Ot λenv he s1 x=>?_;subst he;refine⟨lim.keeps x.toInCall.keep,codeAny_func ?_⟩;obtain⟨t,ht,hq⟩:=iU A outer s H vs Q E (hr.deeper _) DF;have I:Inv (sO CX P w K mg base N ō scope f cdv A outer s H E) [] (start N vs) H s1:=CJ S hr.hd e0 hl r x;refine bu (ht [] s1 (start N vs) H _ I hq) (λfl s' hs=>?_) λe s' hs=>hs;have mV:∀{a:St}{H':Hp}{v:V}{u:Á},Inv (sO CX P w K mg base N ō scope f cdv A outer s H E) [] a H' s'->RelV v u->Q v H'->CE outer P w H s Q u s':=
  fun{a H' v u} J rv q=>⟨v,H',J.os,J.bare,J.base,J.hok,rv,q⟩
 cases fl with
 |ret u=>obtain⟨v,a,H',J,rv,q⟩:=hs;exact mV J rv q|next=>obtain⟨a,H',J,q⟩:=hs;exact mV (v:=V.non) (u:=Value.none) J rfl q|brk=>obtain⟨_,_,_,q⟩:=hs;exact aG q|cont=>obtain⟨_,_,_,q⟩:=hs;exact aG q
section
variable{X:Cx}{x:Str}{p pos:Pos}{e:È}{es:List È}{t:TA}{id T:String}{r:List V->Hp->VK->Prop}
def O6(r:List V->Hp->VK->Prop)(t:TA):TE:=λa H Q=>t a H λvs H1=>r vs H1 Q
def sP(hc:ő X (.builtin id) r)(hg:Gl X x)(hm:X.mg x=none)(hv:fu x=some (.builtin id))(ha:PA X (e::es) t)(hn:x≠"__name__":=by decide)(pN:(x==("__debug__":Str))=false:=by kernel_rfl)
 (he:Ð (e::es) X.env=(false,eval e X.env)::Ð es X.env:=by rfl)(hpl:(Ć pos<|Ð es X.env).any (·.1)=false:=by kernel_rfl):PE X (.Call (.Name x p) (e::es) [] pos) (O6 r t):=by
 intro Ç s a H Q I h;refine lg<|mq I hg hm hv ?_ hn pN;exact PyProof.Rows.callWith_builtin1 (ϙ (ha pos Ç s a H _ I h) λus s1 ⟨vs,H1,I1,r1,q1⟩=>hc Ç s1 a H1 vs us Q I1 r1 q1) he hpl
def uQ(hc:ő X (.type T) r)(hg:Gl X x)(hm:X.mg x=none)(hv:fu x=some (.type T))(ha:PA X (e::es) t)(hn:x≠"__name__":=by decide)(pN:(x==("__debug__":Str))=false:=by kernel_rfl)
 (he:Ð (e::es) X.env=(false,eval e X.env)::Ð es X.env:=by rfl)(hpl:(Ć pos<|Ð es X.env).any (·.1)=false:=by kernel_rfl):PE X (.Call (.Name x p) (e::es) [] pos) (O6 r t):=by
 intro Ç s a H Q I h;refine lg<|mq I hg hm hv ?_ hn pN;exact rh (ϙ (ha pos Ç s a H _ I h) λus s1 ⟨vs,H1,I1,r1,q1⟩=>hc Ç s1 a H1 vs us Q I1 r1 q1) he hpl
end
end L2
namespace HT
open PySem PyProof.Rows
section
open PySem.SeqAt
open PySem.AutoSeq1 (wpAny_loadPart')
open PySem.MeetsSeq PySem.MeetsSeq2 PySem.MeetsSeq3
end
noncomputable def lC(n d:Nat):Option Int->Nat
 |none=>d|some v=>if v<0then(v+(n:Int)).toNat else min v.toNat n
def D9(n d:Nat):lC n d none=d:=rfl
def xq(n d k:Nat):lC n d (some (k:Int))=min k n:=by show(if(k:Int)<0then((k:Int)+(n:Int)).toNat else min (k:Int).toNat n)=min k n;rw[if_neg (by lia),vM]
def Ea(n d:Nat)(hd:d<=n)(o:Option Int):lC n d o<=n:=by
 cases o with
 |none=>exact hd|some v=>
  show(if v<0then(v+(n:Int)).toNat else min v.toNat n)<=n;by_cases hv:v<0
  ·rw[if_pos hv];lia
  ·rw[if_neg hv];exact Nat.min_le_right _ _
end HT
namespace L2
open PySem PySem.Spec PyProof.Rows
abbrev TO:=St->Hp->(Option Int->Hp->Prop)->Prop
def PO(X:Cx)(e:Option È)(t:TO):Prop:=
 ∀(Ç:List (À×Obj)) (s:Ä) (a:St) (H:Hp) (Q:Option Int->Hp->Prop),Inv X Ç a H s->t a H Q->
  Ï (Ü X.prog X.w) X.A (evalPart e X.env) (λu s'=>∃o H',Inv X Ç a H' s'/\IsPart u o/\Q o H') X.xe s
def Gp:TO:=λ_ H Q=>Q none H
section
variable{X:Cx}{e:È}{te:TE}{lo hi:Option È}{tl th:TO}{pos p2:Pos}
def Gq:PO X none Gp:=by intro Ç s a H Q I h;rw[evalPart_none];exact Č ⟨none,H,I,.none,h⟩
def Bv(X:Cx)(r:V->Option Int->Option Int->Hp->VK->Prop):Prop:=
 ∀(Ç:List (À×Obj)) (s:Ä) (a:St) (H:Hp) (x:V) (v vl vu:Á) (lo hi:Option Int) (sl:À) (Q:VK),Inv X Ç a H s->RelV x v->s.heap.IsSliceOf sl vl vu .none->IsPart vl lo->IsPart vu hi->r x lo hi H Q->
  ∃T id,typeLookup (.type T) "__getitem__"=ñ (some<|.builtin id)/\s.TypeIs v T/\Ï (Ü X.prog X.w) X.A (getItem v<|.ref sl) (EP X Ç a Q) X.xe s
def Bv.or{r r':V->Option Int->Option Int->Hp->VK->Prop}(h:Bv X r)(h':Bv X r'):Bv X (λx lo hi H Q=>r x lo hi H Q\/r' x lo hi H Q):=by
 intro Ç s a H x v vl vu lo hi sl Q I rx hs pl pu q;rcases q with q|q
 ·exact h Ç s a H x v vl vu lo hi sl Q I rx hs pl pu q
 ·exact h' Ç s a H x v vl vu lo hi sl Q I rx hs pl pu q
def YM(r:V->Option Int->Option Int->Hp->VK->Prop)(te:TE)(tl th:TO):TE:=λa H Q=>te a H λx H1=>tl a H1 λl H2=>th a H2 λu H3=>r x l u H3 Q
def Eb{r:V->Option Int->Option Int->Hp->VK->Prop}(hr:Bv X r)(he:PE X e te)(hl:PO X lo tl)(hu:PO X hi th):PE X (.Subscript e (.Slice lo hi none p2) pos) (YM r te tl th):=by intro Ç s a H Q I h;refine Subscript_<|ϙ (he Ç s a H _ I h) λv s1 zz=>?_;obtain⟨x,H1,I1,r1,q1⟩:=zz;refine wpAny_Slice<|ϙ (hl Ç s1 a H1 _ I1 q1) λvl s2 ⟨l,H2,I2,pl,q2⟩=>ϙ (hu Ç s2 a H2 _ I2 q2) λvu s3 zz=>?_;obtain⟨u,H3,I3,pu,q3⟩:=zz;rw[evalPart_none];refine Č ?_;have I4:Inv X Ç a H3 {s3 with heap:=s3.heap.push {cls:=.type "slice",data:=.fields #[vl,vu,.none]}}:=I3.kept (t':=s3.toks) λb ob q=>ă _ q;obtain⟨T,id,hT,ht,hg⟩:=hr Ç {s3 with heap:=s3.heap.push {cls:=.type "slice",data:=.fields #[vl,vu,.none]}} a H3 x v vl vu l u s3.heap.objs.size Q I4 r1 (Heap.IsSliceOf.new ..) pl pu q3;show Ï (Ü X.prog X.w) X.A (subscriptTail e (.Slice lo hi none p2) v<|.ref s3.heap.objs.size) (EP X Ç a Q) X.xe {s3 with heap:=s3.heap.push {cls:=.type "slice",data:=.fields #[vl,vu,.none]}};exact tail_any (ops:=[.ref s3.heap.objs.size,v]) ht hT hg (by with_unfolding_all rfl)
def yE(xs:List V)(lo hi:Option Int):List V:=(xs.drop<|HT.lC xs.length 0 lo).take (HT.lC xs.length xs.length hi-HT.lC xs.length 0 lo)
def yF(xs:List V)(lo hi:Option Int):(yE xs lo hi).length<=xs.length:=by unfold yE;rw[qH,List.length_drop];lia
end
noncomputable def CK(n:Nat)(i:Int):Option Nat:=if 0<=i then(if i<n then some i.toNat else none)else if -(n:Int)<=i then some (i+n).toNat else none
def pc{α:Type}(xs:List α)(i:Int):Option α:=(CK xs.length i).bind λj=>xs[j]?
def Bw{n:Nat}{i:Int}{j:Nat}(h:CK n i=some j):seqIndex? i n=some j/\j<n/\ -(n:Int)<=i/\i<n:=by
 unfold CK at h;by_cases h0:0<=i
 ·rw[if_pos h0]at h;by_cases h1:i<n
  ·rw[if_pos h1]at h;have e:i.toNat=j:=š h;exact⟨by rw[seqIndex_of h0 h1,e],by lia,by lia,h1⟩
  ·rw[if_neg h1]at h;cases h
 ·rw[if_neg h0]at h;by_cases h1: -(n:Int)<=i
  ·rw[if_pos h1]at h;have e:(i+n).toNat=j:=š h;exact⟨by rw[seqIndex_neg (by lia) h1,e],by lia,h1,by lia⟩
  ·rw[if_neg h1]at h;cases h
def xr{α:Type}{xs:List α}{i:Int}{v:α}(h:pc xs i=some v):∃j,seqIndex? i xs.length=some j/\xs[j]?=some v/\j<xs.length/\ -(xs.length:Int)<=i/\i<xs.length:=by
 unfold pc at h;cases e:CK xs.length i with
 |none=>rw[e]at h;cases h|some j=>rw[e]at h;obtain⟨h1,h2,h3,h4⟩:=Bw e;exact⟨j,h1,h,h2,h3,h4⟩
def si(b:È):Prop:=∀o i,subscripted b false o i=operate [o,i] (getItem o i)
def zA(X:Cx)(r:R2):Prop:=
 ∀(value slice:È) (Ç:List (À×Obj)) (s:Ä) (a:St) (H:Hp) (x y:V) (v u:Á) (Q:VK),Inv X Ç a H s->RelV x v->RelV y u->r x y H Q->
  subscripted slice false v u=operate [v,u] (getItem v u)->Ï (Ü X.prog X.w) X.A (subscriptTail value slice v u) (EP X Ç a Q) X.xe s
def H_(X:Cx)(id:String)(r:V->List V->Hp->VK->Prop):Prop:=
 ∀(Ç:List (À×Obj)) (s:Ä) (a:St) (H:Hp) (x:V) (xs:List V) (v:Á) (us:List Á) (Q:VK),Inv X Ç a H s->RelV x v->ł xs us->r x xs H Q->
  Ï (Ü X.prog X.w) X.A (call (.builtin id) (v::us)) (EP X Ç a Q) X.xe s
section
variable{X:Cx}{a b:È}{ta tb:TE}{pos:Pos}
def zA.or{r r':R2}(h:zA X r)(h':zA X r'):zA X (λx y H Q=>r x y H Q\/r' x y H Q):=by
 intro value slice Ç s c H x y v u Q I rx ry q hs;rcases q with q|q
 ·exact h value slice Ç s c H x y v u Q I rx ry q hs
 ·exact h' value slice Ç s c H x y v u Q I rx ry q hs
def Ec{r:R2}(hr:zA X r)(ha:PE X a ta)(hb:PE X b tb)(hs:si b):PE X (.Subscript a b pos) (HW r ta tb):=λÇ s c H Q I h=>Subscript_<|Jl ha hb I h λv u s2 x y H2 I2 rx ry q=>hr a b Ç s2 c H2 x y v u Q I2 rx ry q<|hs _ _
def Md(K:Î):R2:=λx y H Q=>∃p xs i v,x=.ref p/\y=.int i/\ϱ K H p xs/\pc xs i=some v/\Q v H
def Me(K:Î):R2:=λx y H Q=>∃p xs i v,x=.ref p/\y=.int i/\fL K H p xs/\pc xs i=some v/\Q v H
def Mf:R2:=λx y H Q=>∃z i c,x=.str z/\y=.int i/\z.length<=sizeLine/\pc z.cps.toList i=some c/\Q (.str ⟨#[c]⟩) H
def Gu:zA X (Md X.K):=by
 intro value slice Ç s c H x y v u Q I rx ry h hs;obtain⟨p,xs,i,z,rfl,rfl,hq,he,q⟩:=h;cases rx;obtain⟨t,rfl⟩:=ry;obtain⟨ď,r,pl,hz⟩:=I.list hq;obtain⟨j,h1,h2,h3,h4,h5⟩:=xr he;obtain⟨w,ew,Ru⟩:=r.get h2;have hl:=r.length;have hn:=pi;have mV:EP X Ç c Q w s:=⟨z,H,I,Ru,q⟩;by_cases h0:0<=i
 ·have hj:i.toNat=j:=by
   rw[seqIndex_of h0 h5]at h1;exact š h1
  exact item_listR pl.isList h0 (by lia) (by rw[hj];simpa using ew) mV hs
 ·have hj:(i+(ď.toArray.size:Int)).toNat=j:=by
   rw[seqIndex_neg (by lia) h4]at h1;rw[Ī,<-hl];exact š h1
  exact subscriptTail_builtinR (x:=w) pl.isList.typeIs slot_list_getitem.lookup
   (wpAny_getItem_list_neg (Q:=λr s'=>r=w/\EP X Ç c Q r s') pl.isList (by lia) (by rw[Ī]<;>lia) (by lia) (by rw[hj];simpa using ew) ⟨rfl,mV⟩) hs
def Jz:zA X (Me X.K):=by
 intro value slice Ç s c H x y v u Q I rx ry h hs;obtain⟨p,xs,i,z,rfl,rfl,hq,he,q⟩:=h;cases rx;obtain⟨t,rfl⟩:=ry;obtain⟨ď,r,pl,hz⟩:=I.tuple hq;obtain⟨j,h1,h2,h3,h4,h5⟩:=xr he;obtain⟨w,ew,Ru⟩:=r.get h2;have hl:=r.length;have hn:=pi;have mV:EP X Ç c Q w s:=⟨z,H,I,Ru,q⟩;exact subscriptTail_builtinR (x:=w) pl.typeIs slot_tuple_getitem.lookup
  (getItem_tuple (j:=j) (Q:=λr s'=>r=w/\EP X Ç c Q r s') pl (by lia) (by lia) (by rw[Ī,<-hl];exact h1) (by simpa using ew) ⟨rfl,mV⟩) hs
def JA:zA X Mf:=by
 intro value slice Ç s d H x y v u Q I rx ry h hs;obtain⟨z,i,c,rfl,rfl,hz,he,q⟩:=h;obtain⟨t,rfl⟩:=rx;obtain⟨t',rfl⟩:=ry;obtain⟨j,h1,h2,h3,h4,h5⟩:=xr he;have hl:z.cps.toList.length=z.length:=by simp[cj]
 rw[hl]at h1 h4 h5;have hn:=pi;exact tail_any (lh s z t) slot_str_getitem.lookup (getItem_str (c:=c) (by
  have e1:decide (i< -(2^63:Int))=false:=decide_eq_false (by lia);have e2:decide (i>=2^63)=false:=decide_eq_false (by lia);rw[e1,e2,vI]) (by rw[h1];simpa using h2) ⟨.str ⟨#[c]⟩,H,I.tok _,⟨_,rfl⟩,q⟩) hs
def Rv(K:Î):R2:=λx y H Q=>Md K x y H Q\/Me K x y H Q\/Mf x y H Q
def zZ:zA X (Rv X.K):=Gu.or<|Jz.or JA
def z_(ď:List Á)(n j:Nat)(u:Á):nS (·.setIfInBounds j u) {cls:=.type "list",data:=.seq ď.toArray n}={cls:=.type "list",data:=.seq (ď.set j u).toArray n}:=by simp[nS]
theorem Inv.lst{Ç:List (À×Obj)}{c:St}{H:Hp}{s:Ä}{p:À}{xs:List V}(I:Inv X Ç c H s)(h:H p=some (.lst xs)):
 ∃(ď:List Á) (n:Nat),ł xs ď/\s.heap.get? p=some {cls:=.type "list",data:=.seq ď.toArray n}/\xs.length<=sizeLine:=by
 obtain⟨z,ď,n,r,e⟩:=I.hok p _ h;exact⟨ď,n,r,e,z⟩
def Inv.JB{Ç:List (À×Obj)}{c:St}{H:Hp}{s:Ä}{p:À}{xs ys:List V}{ď its':List Á}{n n':Nat}{f:Obj->Obj}(I:Inv X Ç c H s)(h:H p=some (.lst xs))
 (ho:s.heap.get? p=some {cls:=.type "list",data:=.seq ď.toArray n})(hf:f {cls:=.type "list",data:=.seq ď.toArray n}={cls:=.type "list",data:=.seq its'.toArray n'})(r:ł ys its')(hz:ys.length<=sizeLine)(t:Nat):
 Inv X Ç c (upd H p<|.lst ys) {s with heap:=s.heap.update p f,toks:=t}:=by
 have e:(s.heap.update p f).get? p=some {cls:=.type "list",data:=.seq its'.toArray n'}:=by rw[Bg f ho (by rw[hf]<;>rfl),hf]
 refine I.write (x:=p) (e:=p) (by rw[h];trivial) (.inl rfl) (λb u hb q=>(Bh _ _<|Ē hb).trans q) ⟨_,e⟩ ?_;exact⟨hz,its',n',r,e⟩
def Mg:V->V->V->Hp->(Hp->Prop)->Prop:=λo i v H Q=>∃p xs k j,o=.ref p/\i=.int k/\H p=some (.lst xs)/\CK xs.length k=some j/\Q (upd H p<|.lst<|xs.set j v)
def FE:L0 X Mg:=by
 intro Ç s c H o i v ov iv u Q I ro ri rv h;obtain⟨p,xs,k,j,rfl,rfl,hp,hj,q⟩:=h;cases ro;obtain⟨t,rfl⟩:=ri;obtain⟨ď,n,r,ho,hz⟩:=I.lst hp;obtain⟨h1,h2,h3,h4⟩:=Bw hj;have hl:=r.length;have hn:=pi;have I':Inv X Ç c (upd H p<|.lst<|xs.set j v) {s with heap:=s.heap.update p (nS (·.setIfInBounds j u))}:=
  I.JB hp ho (z_ ď n j u) (r.set rv j) (by rw[List.length_set];exact hz) s.toks
 by_cases h0:0<=k
 ·have hk:k.toNat=j:=by
   rw[seqIndex_of h0 h4]at h1;exact š h1
  exact PySem.W.ki_setAt ho h0 (by lia) (by rw[Ī,<-hl];exact h4) (by rw[hk];exact⟨_,I',q⟩)
 ·have hk:(k+(ď.toArray.size:Int)).toNat=j:=by
   rw[seqIndex_neg (by lia) h3]at h1;rw[Ī,<-hl];exact š h1
  exact PySem.W.ki_setBack ho (by lia) (by rw[Ī,<-hl];exact h3) (by lia) (by rw[hk];exact⟨_,I',q⟩)
def xt(lo hi:Option Int)(n:Nat):(jg lo hi none n).1=((HT.lC n 0 lo:Nat):Int)/\(jg lo hi none n).2.1=((HT.lC n n hi:Nat):Int)/\(jg lo hi none n).2.2=1:=by
 refine⟨?_,?_,rfl⟩
 ·cases lo with
  |none=>simp[jg,HT.lC]|some i=>
   simp only[jg,HT.lC,Option.getD_none,show(1:Int)>0 by decide,if_true];by_cases h:i<0
   ·simp only[h,if_true]<;>lia
   ·simp only[h,if_false]<;>lia
 ·cases hi with
  |none=>simp[jg,HT.lC]|some i=>
   simp only[jg,HT.lC,Option.getD_none,show(1:Int)>0 by decide,if_true];by_cases h:i<0
   ·simp only[h,if_true]<;>lia
   ·simp only[h,if_false]<;>lia
def uA(ď:List Á)(lo hi:Option Int):slicePick ď.toArray lo hi none=((ď.drop<|HT.lC ď.length 0 lo).take (HT.lC ď.length ď.length hi-HT.lC ď.length 0 lo)).toArray:=by obtain⟨h1,h2,h3⟩:=xt lo hi ď.toArray.size;unfold slicePick;rw[h1,h2,h3];simp only[sliceRange_one,pick_run,Ī]<;>rfl
def Rx(K:Î):V->Option Int->Option Int->Hp->VK->Prop:=λx lo hi H Q=>∃a xs,x=.ref a/\ϱ K H a xs/\∀p,H p=none->Q (.ref p) (upd H p<|.lst<|yE xs lo hi)
def Gv:Bv X (Rx X.K):=by intro Ç s c H x v vl vu lo hi sl Q I rx hs pl pu h;obtain⟨a,xs,rfl,hx,q⟩:=h;cases rx;obtain⟨ď,r,ht,hz⟩:=I.list hx;have hlen:=r.length;refine⟨"list",_,slot_list_getitem.lookup,ht.isList.typeIs,?_⟩;refine wpAny_getItem_list_slice ht.isList hs pl pu .none (by simp) ?_ (by rw[Ī]<;>lia);rw[uA,<-hlen];refine⟨.ref s.heap.objs.size,_,I.laid (t':=s.toks) (o:=.lst<|yE xs lo hi) (λb ob q=>ă _ q) (ø _) ?_,rfl,q _<|I.hok.fresh<|ø _⟩;exact⟨ř (yF xs lo hi) hz,_,0,(r.drop<|HT.lC xs.length 0 lo).take (HT.lC xs.length xs.length hi-HT.lC xs.length 0 lo),Į _ rfl⟩
def xu:ő X (.type "list") (λxs H Q=>∃p ys,xs=[.ref p]/\(ϱ X.K H p ys\/fL X.K H p ys)/\∀l,H l=none->Q (.ref l) (upd H l<|.lst ys)):=by
 intro Ç s c H xs us Q I r h;obtain⟨p,ys,rfl,hq,q⟩:=h;obtain⟨u,rfl,rx⟩:=vals1 r;cases rx;have mV:∀(ď:List Á),ł ys ď->ys.length<=sizeLine->∀(h':Ñ) (c':Nat),(∀b o',s.heap.get? b=some o'->h'.get? b=some o')->
  h'.get? s.heap.objs.size=some {cls:=.type "list",dict:=none,data:=.seq ď.toArray c',slots:=#[]}->EP X Ç c Q (.ref s.heap.objs.size) {s with heap:=h'}:=λď r' hz h' c' kp e=>
  ⟨.ref s.heap.objs.size,_,I.laid (t':=s.toks) kp (ø _)<|show cD X.prog X.w _ h' _ (.lst ys)from⟨hz,ď,c',r',e⟩,rfl,q _<|I.hok.fresh<|ø _⟩
 rcases hq with hq|hq
 ·obtain⟨ď,r',pl,hz⟩:=I.list hq;have hlen:=r'.length;obtain⟨o,ho,hc,n,hd⟩:=pl.isList;exact call_list_seq p (.inl rfl) ho hc hd (λh' c' kp e=>mV ď r' hz h' c' kp e) (by simp only[Ī]<;>lia)
 ·obtain⟨ď,r',pl,hz⟩:=I.tuple hq;have hlen:=r'.length;obtain⟨o,ho,hc,n,hd⟩:=pl;exact call_list_seq p (.inr rfl) ho hc hd (λh' c' kp e=>mV ď r' hz h' c' kp e) (by simp only[Ī]<;>lia)
def uB:ő X (.type "tuple") (λxs H Q=>∃p ys,xs=[.ref p]/\((ϱ X.K H p ys/\∀l,H l=none->Q (.ref l) (upd H l<|.tup ys))\/(fL X.K H p ys/\Q (.ref p) H))):=by
 intro Ç s c H xs us Q I r h;obtain⟨p,ys,rfl,h⟩:=h;obtain⟨u,rfl,rx⟩:=vals1 r;cases rx;rcases h with⟨hq,q⟩|⟨hq,q⟩
 ·obtain⟨ď,r',pl,hz⟩:=I.list hq;have hlen:=r'.length;refine call_tuple_list pl.isList (λh' kp=>?_) (by simp only[Ī]<;>lia);have I1:Inv X Ç c H {s with heap:=h'}:=I.kept (t':=s.toks) kp;have I2:Inv X Ç c (upd H h'.objs.size<|.tup ys) {s with heap:=h'.push {cls:=.type "tuple",data:=.seq ď.toArray}}:=
   I1.laid (t':=s.toks) (λb o e=>ă _ e) (ø _) (show cD X.prog X.w _ _ _ (.tup ys)from⟨hz,ď,r',IsTup.new _ _⟩)
  exact⟨.ref h'.objs.size,_,I2,rfl,q _<|I1.hok.fresh<|ø _⟩
 ·obtain⟨ď,r',pl,hz⟩:=I.tuple hq;exact call_tuple_same pl ⟨.ref p,H,I,rfl,q⟩
def VT(K:Î)(T:String)(x:V)(H:Hp):Prop:=match x with
 |.str _=>T="str"|.int _=>T="int"|.ref p=>(T="list"∧∃xs,ϱ K H p xs)∨(T="tuple"∧∃o,K.lookup p=some o∧o.cls=.type "tuple"∧o.dict=none)∨
     (T="dict"/\((∃am,H p=some (.dK am))\/∃am,H p=some (.dT am)))\/(T="set"/\∃S n,H p=some (.set S n))
 |_=>False
def JC{Ç:List (À×Obj)}{d:St}{H:Hp}{s:Ä}{T:String}{x:V}{v:Á}(I:Inv X Ç d H s)(r:RelV x v)(ty:VT X.K T x H):
 s.TypeIs v T/\∀a,v=.ref a->∃ob,s.heap.get? a=some ob/\ob.dict=none:=by
 cases x with
 |str z=>obtain⟨t,rfl⟩:=r;cases(show T="str"from ty);exact⟨lh s z t,λ_ e=>nomatch e⟩
 |int i=>obtain⟨t,rfl⟩:=r;cases(show T="int"from ty);exact⟨typeIs_int s i t,λ_ e=>nomatch e⟩
 |ref p=>
  cases r;rcases ty with⟨rfl,xs,hq⟩|⟨rfl,o,hk,hc,hd⟩|⟨rfl,hk⟩|⟨rfl,S,n,hk⟩
  ·obtain⟨ď,_,pl,_⟩:=I.list hq;refine⟨pl.isList.typeIs,λa e=>?_⟩;cases e;obtain⟨o,n,e,c,hd,_⟩:=pl;exact⟨o,e,hd⟩
  ·refine⟨⟨o,I.mj p o hk,hc⟩,λa e=>?_⟩;cases e;exact⟨o,I.mj _ o hk,hd⟩
  ·have z:∃o,s.heap.get? p=some o∧o.ExactDict:=by
    rcases hk with⟨am,hk⟩|⟨am,hk⟩
    ·obtain⟨_,_,_,_,o,_,_,e,ex,_⟩:=I.hok p _ hk;exact⟨o,e,ex⟩
    ·obtain⟨_,_,_,_,o,_,_,e,ex,_⟩:=I.hok p _ hk;exact⟨o,e,ex⟩
   obtain⟨o,e,ex⟩:=z;refine⟨⟨o,e,ex.1⟩,λa e2=>?_⟩;cases e2;exact⟨o,e,ex.2.1⟩
  ·obtain⟨o,_,_,_,e,ex,_⟩:=I.hok p _ hk;refine⟨⟨o,e,ex.1⟩,λa e2=>?_⟩;cases e2;exact⟨o,e,ex.2.1⟩
 |_=>exact aG ty
def Lj(K:Î)(T:String)(r:V->List V->Hp->VK->Prop)(to:TE)(t:TA):TE:=λc H Q=>to c H λx H1=>VT K T x H1/\t c H1 λxs H2=>r x xs H2 Q
variable{o e:È}{es:List È}{to:TE}{t:TA}{name:Str}{cB dq:Pos}{T id:String}{r:V->List V->Hp->VK->Prop}
def fQ(pa:rn T)(slot:Slot T name id)(ke:typeOf (.builtin id)=ñ (.type "method_descriptor"))(hm:H_ X id r)(ho:PE X o to)(ha:PA X (e::es) t)
 (iV:cS o name X.env (eval o X.env)=eval o X.env:=by kernel_rfl)
 (pO:((Ć dq<|Ð (e::es) X.env).all (fun x=>!x.1)&&(bv dq<|bz [] X.env).all (fun x=>x.1.isSome)
   &&decide ((e::es).length+([]:List ϣ).length+(if([]:List ϣ).isEmpty then 0 else 1)<30))=true:=by rfl)
 (iW:(cB.endLine==dq.line)=true:=by rfl)(hs:Ð (e::es) X.env=(false,eval e X.env)::Ð es X.env:=by rfl)(jQ:(Ć dq<|Ð es X.env).any (·.1)=false:=by kernel_rfl):
 PE X (.Call (.Attribute o name cB) (e::es) [] dq) (Lj X.K T r to t):=by
 intro Ç s c H Q I h;refine wpAny_Call_method_late iV pO iW rfl<|ϙ (ho Ç s c H _ I h) λv s1 zz=>?_;obtain⟨x,H1,I1,r1,ty,q1⟩:=zz;obtain⟨h1,h2⟩:=JC I1 r1 ty;refine⟨T,id,pa,slot,ke,h1,h2,?_⟩;have hA:=ha dq Ç s1 c H1 _ I1 q1;rw[hs]at hA⊢;refine Calls.callWith_builtin (by show(false||(Ć dq<|Ð es X.env).any (·.1))=false;rw[jQ]<;>rfl)<|Calls.evalArgs_plain ?_;exact ϙ hA λus s2 ⟨vs,H2,I2,r2,q2⟩=>hm Ç s2 c H2 x vs v us Q I2 r1 r2 q2
end
def VU(X:Cx)(id:String)(r:V->List V->Hp->VK->Prop):Prop:=
 ∀(Ç:List (À×Obj)) (s:Ä) (a:St) (H:Hp) (x:V) (xs:List V) (v:Á) (us:List Á) (Q:VK),Inv X Ç a H s->RelV x v->ł xs us->r x xs H Q->
  Ï (Ü X.prog X.w) X.A (call (.builtin id) (v::us)) (EP X Ç a Q) X.xe s
def ł.one:∀{x:V}{us:List Á},ł [x] us->∃u,us=[u]/\RelV x u:=by
 intro x us h;cases h with
 |cons r t=>cases t;exact⟨_,rfl,r⟩
section
variable{X:Cx}{Ç:List (À×Obj)}{σ:St}{H:Hp}{s:Ä}{l:À}{xs ys:List V}
def Inv.Mh{ď its':List Á}{n:Nat}{f:Array Á->Array Á}{t':Nat}(I:Inv X Ç σ H s)(hH:H l=some (.lst xs))
 (e:s.heap.get? l=some {cls:=.type "list",data:=.seq ď.toArray n})(hf:f ď.toArray=its'.toArray)(hv:ł ys its')(hz:ys.length<=sizeLine):
 Inv X Ç σ (upd H l<|.lst ys) {s with heap:=s.heap.update l<|nS f,toks:=t'}:=by
 have q:=PySem.IsL.update e f;rw[hf]at q;refine I.write (x:=l) (e:=l) (by rw[hH];exact trivial) (.inl rfl) (λb' u hb hu=>(Bh s.heap (nS f)<|Ē hb).trans hu) ⟨_,q⟩ ?_;exact⟨hz,its',_,hv,q⟩
def Inv.Ry{ď:List Á}{t':Nat}(I:Inv X Ç σ H s)(hv:ł ys ď)(hz:ys.length<=sizeLine):
 Inv X Ç σ (upd H s.heap.objs.size<|.lst ys) {s with heap:=s.heap.push {cls:=.type "list",data:=.seq ď.toArray},toks:=t'}:=
 I.laid (λ_ _ q=>ă _ q) (ø _) ⟨hz,ď,0,hv,Į _ rfl⟩
theorem Inv.fresh(I:Inv X Ç σ H s):H s.heap.objs.size=none:=I.hok.fresh<|ø _
def Inv.JD(I:Inv X Ç σ H s)(hH:H l=some (.lst xs)):xs.length<=sizeLine/\∃(ď:List Á) (n:Nat),ł xs ď/\xs.length=ď.length/\s.heap.get? l=some {cls:=.type "list",data:=.seq ď.toArray n}:=by obtain⟨z,ď,n,r,e⟩:=I.hok l _ hH;exact⟨z,ď,n,r,r.length,e⟩
def Ed{n:Nat}(h:n<=sizeLine):wI n=false:=by unfold wI;exact decide_eq_false (by lia)
end
section
variable{X:Cx}
def oi:V->List V->Hp->VK->Prop:=λx vs H Q=>∃l xs y,x=.ref l/\vs=[y]/\H l=some (.lst xs)/\xs.length<sizeLine/\Q .non (upd H l<|.lst<|xs++[y])
def ϩ:VU X "list.append" oi:=by intro Ç s a H x vs v us Q I rx rv h;obtain⟨l,xs,y,rfl,rfl,hH,hz,q⟩:=h;cases rx;obtain⟨u,rfl,ru⟩:=rv.one;obtain⟨z,ď,n,r,hl,e⟩:=I.JD hH;refine li cV ⟨_,e,rfl⟩ F.entry_list_append (F.args_list_append_2 _ _) (PySem.list_append l ď.toArray n u (by rw[Ī];lia)) ⟨e,?_⟩;refine⟨.non,_,I.Mh (its':=ď++[u]) hH e (by simp) (r.append<|.cons ru .nil) ?_,rfl,q⟩;rw[Ϟ,List.length_singleton];lia
def Bx:V->List V->Hp->VK->Prop:=λx vs H Q=>∃l b xs zs,x=.ref l/\vs=[.ref b]/\H l=some (.lst xs)/\H b=some (.lst zs)/\xs.length+zs.length<=sizeLine/\Q .non (upd H l<|.lst<|xs++zs)
def uR:VU X "list.extend" Bx:=by
 intro Ç s a H x vs v us Q I rx rv h;obtain⟨l,b,xs,zs,rfl,rfl,hH,hB,hz,q⟩:=h;cases rx;obtain⟨u,rfl,ru⟩:=rv.one;cases ru;obtain⟨z,ď,n,r,hl,e⟩:=I.JD hH;obtain⟨z2,gn,n2,r2,zI,e2⟩:=I.JD hB;have ph:ď.toArray.size+gn.toArray.size<=sizeLine:=by rw[Ī,Ī];lia
 have Mi:¬(!ď.toArray.isEmpty&&wI (ď.toArray.size+gn.toArray.size))=true:=by rw[Ed ph,Bool.and_false];exact bZ
 refine li wL ⟨_,e,rfl⟩ F.entry_list_extend (F.args_list_extend_2 _ _)
  (AutoSeq1.list_extend_list_list_0 l ď.toArray n b gn.toArray n2 Mi (by rw[Ī];lia)<|by lia) ⟨e,e2,?_⟩
 refine⟨.non,_,I.Mh (its':=ď++gn) hH e (by simp) (r.append r2) ?_,rfl,q⟩;rw[Ϟ];lia
end
end L2
namespace O7
open PySem PySem.W PySem.Calls PyProof.Rows
def qj{P:gy}{h:Ñ}:∀(ns:List Int) (vs:List Á),WellAll P h vs (ns.map WData.int)->k_ vs ns:=by
 intro ns
 induction ns with
 |nil=>intro vs w;rw[ϟ]at w;cases w;exact .nil|cons n ns ih=>
  intro vs w;rw[á]at w;cases w with
  |cons a b=>cases a;exact .cons _ _<|ih _ b
def CL{l:lA}{n:Nat}(hn:l.most=some n){P:gy}{h:Ñ}{args:List WData}{K_:List Á}
 (HI:l.row.toRowW.claim.pre args=true)(Qqq8:WellAll P h K_ args):
 ∃a vs ns,K_=[ń a]/\args=[WData.list<|ns.map WData.int]/\h.get? a=some {cls:=.type "list",data:=.seq vs.toArray}/\k_ vs ns/\ns.length<=n:=by
 have Q0:WShape.hasAll [] args [.list .int]=true:=(pre_splitW HI).1;have hc:l.pre.holds [] {args:=args}=true:=(pre_splitW HI).2;obtain⟨d,r,rfl,h1,h2⟩:=hasAllW_cons Q0;obtain rfl:=hasAllW_nil h2;obtain⟨xs,rfl,h3⟩:=hasW_list h1;obtain⟨ns,rfl⟩:=items_int h3;have hlen:ns.length<=n:=by
  unfold OpenLaw.pre at hc;have h4:(WTm.not<|.lt (.lit<|.int (n:Int))<|.len<|.arg 0).holds [] {args:=[.list<|ns.map .int]}=true:=by have h4:=(holds_andW hc).1;rw[hn]at h4;exact h4
  have h5:=condW_of h4<|w_not<|w_lt w_lit<|w_len_list<|w_arg rfl;rw[ħ]at h5;refine Nat.le_of_not_lt λq=>?_;have q':(n:Int)<((ns.length:Nat):Int):=by lia
  first
   |(rw[decide_eq_true q']at h5;exact absurd h5<|by decide)
   |(simp at h5;lia)
 cases Qqq8 with
 |cons w1 w2=>
  cases w2;cases w1 with
  |list ho hall=>exact⟨_,_,ns,rfl,rfl,ho,qj ns _ hall,hlen⟩
def CM(l:lA)(args:List WData):l.row.toRowW.claim.post args (.bool true) args=true:=
 postW_of (r:=l.row.toRowW) (X:=(true==true))
  (show WShape.has [] (.bool true) .bool=true by first|rfl|decide|simp[WShape.has,WShape.arms,WShape.armsAll])
  (show(WTm.eq .res<|.lit<|.bool true).value [] {args:=args,res:=some<|.bool true,after:=args}=some (.bool<|true==true)from w_eq_bool (w_res rfl) w_lit) rfl
def yG{l:lA}{n:Nat}{q:ë}{l_:List Str}{XP:(Str->Option Á)->Ñ->Prop}{YP:â->Ñ->Prop}{d:DefRec}
 (hn:l.most=some n)(FZ:d.params.defaults=[])
 (call:∀(w:â) (s₀ s₁:Ä) (mg mb:Str→Option Á) (fa:À) (o:Obj) (pm cd doc:Á) (a:À) (vs:List Á) (ns:List Int),
   Ground q l_ [] XP w s₀ mg mb s₁.heap->YP w s₁.heap->
   s₁.heap.get? fa=some o->o.data=.func (docDef d.name d.params d.body d.scope pm cd doc)->s₁.heap.CodeRec cd d.name->mg d.name=some (.ref fa)->
   s₁.heap.get? a=some {cls:=.type "list",data:=.seq vs.toArray}->k_ vs ns->ns.length<=n->s₁.gens= #[]->
   fB (Ü l.prog w) gA (.call (.ref fa) ⟨[.ref a],[]⟩) (λr s'=>r=.ok (.ret<|.bool true)/\OldK s₁.heap s'.heap/\s'.os=s₁.os/\fq s'.gens) s₁):
 rZ q l_ XP YP l.row.toRowW d [] (λf vs=>rz f vs):=by
 intro w s₀ s₁ mg mb G Y fa o pm cd doc dV kV ho hd Dj hD Ou hg args K_ as HI Zab hrd Qqq8 hlo;obtain rfl:dV=.none:=Dflts.none hD FZ;obtain rfl:kV=.none:=Dflts.noKw hD;obtain⟨a,vs,ns,rfl,rfl,K0,FF,hlen⟩:=CL hn HI Qqq8;refine enter_call<|lj (call w s₀ s₁ mg mb fa o pm cd doc a vs ns G Y ho (fd_plain hd) Dj Ou K0 FF hlen hg) λr s' hq=>?_;obtain⟨rfl,h2,h3,h4⟩:=hq;exact⟨.inl ⟨.bool true,.bool true,[],rfl,λ_=>rfl,.bool true,CM l _,λ_=>⟨A1,λ_ hm=>(nomatch hm)⟩⟩,h2,h3,h4⟩
end O7
namespace L2
open PySem PySem.Spec PyProof.Rows
theorem cE:∀{vs:List Á}{ns:List Int},k_ vs ns->ł (ns.map V.int) vs
 |_,_,.nil=>.nil|_,_,.cons n t h=>.cons ⟨t,rfl⟩<|cE h
def K1(H:Hp):Prop:=∀b,H b=none\/(∃o xs,H b=some (.fP o<|.lst xs))\/∃q,H b=some (.aj q)
noncomputable def kg(K:Î):List Str->Hp
 |[]=>λ_=>none
 |y::r=>λb=>match ck K y with
  |some (_,P)=>if b=P then some (.aj<|xg y)else kg K r b|none=>kg K r b
theorem gK{K:Î}:∀{l:List Str}{b:À}{u:HO},kg K l b=some u->∃y c,y∈l/\ck K y=some (c,b)/\u=.aj (xg y)
 |[],_,_,h=>by cases(show(none:Option HO)=some _ from h)|y::r,b,u,h=>by
  have h':(match ck K y with
   |some (_,P)=>if b=P then some (.aj<|xg y)else kg K r b|none=>kg K r b)=some u:=h
  have rc:kg K r b=some u->∃z c,z∈y::r/\ck K z=some (c,b)/\u=.aj (xg z):=λq=>
   let ⟨z,c,h1,h2,h3⟩:=gK q
   ⟨z,c,ð _ h1,h2,h3⟩
  cases e:ck K y with
  |none=>rw[e]at h';exact rc h'|some p=>
   obtain⟨c,P⟩:=p;rw[e]at h';have h2:(if b=P then some (HO.aj<|xg y)else kg K r b)=some u:=h';by_cases hb:b=P
   ·rw[if_pos hb]at h2;cases h2;exact⟨y,c,ϝ,by rw[hb];exact e,rfl⟩
   ·rw[if_neg hb]at h2;exact rc h2
theorem By{K:Î}{y:Str}{c P:À}(e:ck K y=some (c,P)):∀{l:List Str},(∀z∈l,z=y)->y∈l->kg K l P=some (.aj<|xg y)
 |[],_,h=>by cases h|z::r,h1,_=>by
  have hz:=h1 z ϝ;subst hz;show(match ck K z with
   |some (_,Q)=>if P=Q then some (HO.aj<|xg z)else kg K r P|none=>kg K r P)=_
  rw[e];exact if_pos rfl
def Ee{P:ë}{w:â}{K:Î}{mg mb:Str->Option Á}{CX:gJ}{k:Nat}{fa a:À}{fd:ĉ}{x:Str}{sp:Sp}{s₁:Ä}{vs:List Á}{ns:List Int}
 (KX:K.In s₁.heap)(zw:s₁.heap.Ns ġ mg)(hb:s₁.heap.Ns builtinsNs mb)(hbb:∀x:Str,x≠"__name__" ->mb x=fu x)(Qqq9:s₁.heap.NoLimit)(hg:s₁.gens= #[])
 (ha:s₁.heap.get? a=some {cls:=.type "list",data:=.seq vs.toArray})(hi:k_ vs ns)(hl:ns.length<=sizeLine)(hr:ϛ k gA)
 (F:∀base:Ñ,K.In base->base.Ns ġ mg->bO P w K mg base CX k fa fd [x] sp)(Ov:∀(s:Ä) (u:Á),fC s fd ⟨[u],[]⟩ [(x,u)])
 (DF:∀H:Hp,K1 H->ϱ K H a (ns.map V.int)->sp [.ref a] H (λv _=>v=.bl true) λ_ _ _=>False)
 (Mj:∀H e s',CX [] H s₁ (λ_ _ _=>False) e s'->False)
 (Ow:eS≠[]->w_ K=true)(yl:∀y z,y∈eS->z∈eS->y=z)(F_:∀y c Pt,y∈eS->ck K y=some (c,Pt)->wU s₁.heap c Pt/\s₁.heap.get? Pt=some (PySem.W.tabObj #[])/\s₁.heap.BuiltinsAt mg Pt):
 fB (Ü P w) gA (.call (.ref fa) ⟨[.ref a],[]⟩) (λr s'=>r=.ok (.ret<|.bool true)/\OldK s₁.heap s'.heap/\s'.os=s₁.os/\fq s'.gens) s₁:=by
 have rv:=cE hi;have Va:=hi.length;have Ox:∀H:Hp,K1 H->ϱ K H a (ns.map V.int)->n_ P w H s₁.heap->(∀b,H b≠none->b=a\/∃y c,y∈eS/\ck K y=some (c,b))->(H a≠none->K.lookup a=none)->(∀y c Pt,y∈eS->ck K y=some (c,Pt)->H Pt=some (.aj<|xg y))->
  fB (Ü P w) gA (.call (.ref fa) ⟨[.ref a],[]⟩) (λr s'=>r=.ok (.ret<|.bool true)/\OldK s₁.heap s'.heap/\s'.os=s₁.os/\fq s'.gens) s₁:=by
  intro H hO hS hok hA hK hT;have sj:∀{b:À}{o:Obj},s₁.heap.get? b=some o->H b=none->(uz s₁.heap H).get? b=some o:=λe n=>DI e n;have Mc:∀{b:À}{o:Obj}{es:Array gB}{ep:Nat},s₁.heap.get? b=some o->o.data=.dict es ep->H b=none:=fun{b o es ep} e d=>by
   cases q:H b with
   |none=>rfl|some u=>
    rcases hA b (by rw[q];simp)with e'|⟨y,c,hy,ke⟩
    ·subst e';rw[ha]at e;cases e;have d':Data.seq vs.toArray _=Data.dict es ep:=d;cases d'
    ·have e2:=(F_ y c b hy ke).2.1;rw[e]at e2;cases e2;cases d
  have O8:∀{b:À}{m:Str->Option Á},s₁.heap.Ns b m->(uz s₁.heap H).Ns b m:=fun{b m} ⟨o,es,ep,e,d,r⟩=>⟨o,es,ep,sj e<|Mc e d,d,r⟩;have VV:K.In (uz s₁.heap H):=λb o e=>sj (KX b o e) (by
   cases q:H b with
   |none=>rfl|some u=>
    rcases hA b (by rw[q];simp)with e'|⟨y,c,hy,ke⟩
    ·subst e';rw[hK (by rw[q];simp)]at e;cases e
    ·have e2:=(F_ y c b hy ke).2.1;rw[KX b o e]at e2;cases e2;have h2:=bp.mp (Ow (λz=>by rw[z]at hy;cases hy)) (b,_)<|PySem.W.mem_of_lookupK e;exact absurd (show false=true from h2) bZ)
  have hM:Mod K mg (uz s₁.heap H):=⟨VV,O8 zw,⟨mb,O8 hb,hbb⟩,let ⟨mc,h1,h2⟩:=Qqq9;⟨mc,O8 h1,h2⟩⟩;have YN:yk K mg (uz s₁.heap H) H:=λy c Pt hy ke=>by
   obtain⟨⟨o,us,file,tf,IJ,tg,Yh,text,tt,e1,r1,r2⟩,_,bm,ob,b1,b2,b3,b4,b5,b6,b7⟩:=F_ y c Pt hy ke;refine⟨⟨o,us,file,tf,IJ,tg,Yh,text,tt,sj e1 ?_,r1,r2⟩,hT y c Pt hy ke,bm,ob,b1,b2,b3,b4,sj b5 ?_,b6,b7⟩
   rotate_left
   ·cases q:H bm with
    |none=>rfl|some u=>
     rcases hA bm (by rw[q];simp)with e'|⟨z,c2,hz,Rz⟩
     ·rw[e',ha]at b5;cases b5;exact absurd (Bj b6) (by decide)
     ·have e2:=(F_ z c2 bm hz Rz).2.1;rw[b5]at e2;cases e2;cases b6
   cases q:H c with
   |none=>rfl|some u=>
    rcases hA c (by rw[q];simp)with e'|⟨z,c2,hz,Rz⟩
    ·rw[e',ha]at e1;cases e1;exact absurd (Bj r1) (by decide)
    ·have e2:=(F_ z c2 c hz Rz).2.1;rw[e1]at e2;cases e2;cases r1
  have e0:yD P w K mg (uz s₁.heap H) gA [] s₁ H:=⟨rfl,hM,λb o e=>Ga e,qV<|Ct _ _,trivial,λb hb=>absurd (show b∈([]:List À)from hb) (by simp),hok,.of_eq hg,YN⟩;refine lj ((F _ VV<|O8 zw).run gA [] s₁ H ⟨[.ref a],[]⟩ [.ref a] [.ref a] _ _ hr e0 (Ov s₁<|.ref a) (.cons rfl .nil) (DF H hO hS)) λr s' h=>?_;cases r with
  |error e=>exact(Mj H e s' h).elim|ok fl=>
   cases fl with
   |next=>exact aG h|brk=>exact aG h|cont=>exact aG h|ret u=>
    obtain⟨v,H',os,bare,un,K2,r',q⟩:=h;have q':v=.bl true:=q;subst q';obtain rfl:u=eh true:=r';have qw:∀b o,s₁.heap.get? b=some o->(∀t,H b≠some (.aj t))->s'.heap.get? b=some o:=?_
    ·refine⟨rfl,⟨λb o e=>?_,λb o e=>?_⟩,os,bare⟩
     ·by_cases ht:∃t,H b=some (.aj t)
      ·obtain⟨t,ht⟩:=ht;obtain⟨ps,e1,_⟩:=K2 b _<|un.qi b t ht;rcases hA b (by rw[ht];simp)with e'|⟨y,c,hy,ke⟩
       ·subst e';obtain⟨ps2,e3,_⟩:=hok b _ ht;rw[ha]at e3;cases e3
       ·obtain⟨⟨o2,us,file,tf,IJ,tg,Yh,text,tt,f1,f2,f3,f4,_⟩,e2,_⟩:=F_ y c b hy ke;rw[e]at e2;cases e2;exact .inr (.inl ⟨⟨c,o2,us,f1,f2,f3,f4⟩,rfl,#[],ps,rfl,by rw[e1];simp⟩)
      ·exact .inl<|qw b o e λt z=>ht ⟨t,z⟩
     ·by_cases ht:∃t,H b=some (.aj t)
      ·obtain⟨t,ht⟩:=ht;obtain⟨ps,e1,_⟩:=K2 b _<|un.qi b t ht;exact⟨_,e1⟩
      ·exact⟨o,qw b o e λt z=>ht ⟨t,z⟩⟩
    intro b o e nt;cases q:H b with
    |none=>exact un.keep b o e q (by intro z;exact absurd (show b∈([]:List À)from z)<|by simp) (by simp)|some u=>
     rcases hO b with z|⟨ob,xs,z⟩|⟨t,z⟩
     ·rw[q]at z;cases z
     rotate_left
     ·exact absurd z<|nt t
     ·have z2:=un.uy b ob _ z;obtain⟨e1,_⟩:=hok b _ z;obtain⟨e2,_⟩:=K2 b _ z2;rw[e]at e1;cases e1;exact e2
 cases hk:K.lookup a with
 |some o=>
  have e:=KX a o hk;rw[ha]at e;cases e;refine Ox (kg K eS) (λb=>?_) (.inr ⟨_,vs.toArray,_,hk,rfl,rfl,rfl,by rw[Ī,Va];exact hl,by simpa using rv⟩) (λb u z=>?_) (λb z=>?_) (λz=>?_) λy c Pt hy ke=>By ke (λz hz=>yl z y hz hy) hy
  ·cases q:kg K eS b with
   |none=>exact .inl rfl|some u=>obtain⟨y,c,_,_,rfl⟩:=gK q;exact .inr<|.inr ⟨_,rfl⟩
  ·obtain⟨y,c,hy,ke,rfl⟩:=gK z;exact⟨#[],(F_ y c b hy ke).2.1,trivial,λpos cv z=>by cases z⟩
  ·cases q:kg K eS b with
   |none=>exact absurd q z|some u=>obtain⟨y,c,hy,ke,_⟩:=gK q;exact .inr ⟨y,c,hy,ke⟩
  ·cases q:kg K eS a with
   |none=>exact absurd q z|some u=>obtain⟨y,c,hy,ke,_⟩:=gK q;have e2:=(F_ y c a hy ke).2.1;rw[ha]at e2;cases e2
 |none=>
  refine Ox (λb=>if b=a then some (.fP {cls:=.type "list",data:=.seq vs.toArray} (.lst<|ns.map V.int))else kg K eS b) (λb=>?_) (.inl<|.inr ⟨{cls:=.type "list",data:=.seq vs.toArray},if_pos rfl⟩) (λb u z=>?_) (λb z=>?_) (λ_=>hk) λy c Pt hy ke=>?_
  ·by_cases hb:b=a
   ·exact .inr<|.inl ⟨_,_,if_pos hb⟩
   ·cases q:kg K eS b with
    |none=>exact .inl<|(if_neg hb).trans q|some u=>obtain⟨y,c,_,_,rfl⟩:=gK q;exact .inr<|.inr ⟨_,(if_neg hb).trans q⟩
  ·by_cases hb:b=a
   ·have z':=(if_pos hb).symm.trans z;cases z';subst hb;exact⟨ha,by rw[ħ];exact hl,vs,_,rv,ha⟩
   ·have z':=(if_neg hb).symm.trans z;obtain⟨y,c,hy,ke,rfl⟩:=gK z';exact⟨#[],(F_ y c b hy ke).2.1,trivial,λpos cv z=>by cases z⟩
  ·by_cases hb:b=a
   ·exact .inl hb
   ·cases q:kg K eS b with
    |none=>exact absurd ((if_neg hb).trans q) z|some u=>obtain⟨y,c,hy,ke,_⟩:=gK q;exact .inr ⟨y,c,hy,ke⟩
  ·have ne:Pt≠a:=fun z=>by
    subst z;have e2:=(F_ y c _ hy ke).2.1;rw[ha]at e2;cases e2
   exact(if_neg ne).trans (By ke (λz hz=>yl z y hz hy) hy)
def Gw{p:ë}{l_:List Str}{Vb:ExcName->Option Á}{mg mb:Str->Option Á}{h:Ñ}{K:Î}{d:DefRec}{x:Str}{c P:À}(T:Top p l_ Vb mg mb h)(X:K.In h)(hr:(recsOf p).find? (λe=>e.name==x)=some d)(ht:ck K x=some (c,P)):
 wU h c P/\h.get? P=some (PySem.W.tabObj #[])/\h.BuiltinsAt mg P:=by
 obtain⟨h1,h2⟩:=PySem.W.tab_of T X hr ht;obtain⟨bm,ob,b1,b2,b3,b4,b5,b6⟩:=T.bmain;have hbP:bm≠P:=λq=>by rw[q,h2]at b3;cases b3;cases b4
 have hbG:bm≠ġ:=λq=>by obtain⟨o,es,ep,e,hd,_⟩:=T.g;rw[q,e]at b3;cases b3;rw[hd]at b6;cases b6
 exact⟨h1,h2,bm,ob,b1,b2,hbG,hbP,b3,b4,b5,b6⟩
def Gx{l:lA}{n k:Nat}{q:ë}{l_:List Str}{XP:(Str->Option Á)->Ñ->Prop}{YP:â->Ñ->Prop}{d:DefRec}{K:gy->Î}{CX:â->gJ}{sp:â->Sp}{x:Str}
 (hn:l.most=some n)(Q_:n<=sizeLine)(FZ:d.params.defaults=[])(hr:ϛ k gA)
 (hY:∀(w:â) (h:Ñ),YP w h->(K w.params).In h)
 (F:∀(w:â) (mg:Str→Option Á) (fa:À) (h:Ñ),(K w.params).In h→h.Ns ġ mg→mg d.name=some (.ref fa)→
   ∃fd:ĉ,(∀(s:Ä) (u:Á),fC s fd ⟨[u],[]⟩ [(x,u)])/\
    ∀base:Ñ,(K w.params).In base->base.Ns ġ mg->bO l.prog w (K w.params) mg base (CX w) k fa fd [x] (sp w))
 (DF:∀(w:â) (H:Hp) (a:À) (ns:List Int),ns.length<=n->K1 H->ϱ (K w.params) H a (ns.map V.int)->sp w [.ref a] H (λv _=>v=.bl true) λ_ _ _=>False)
 (Mj:∀(w:â) (H:Hp) (s:Ä) (e:Á) (s':Ä),CX w [] H s (λ_ _ _=>False) e s'->False)
 (Ow:eS≠[]->∀w:â,w_ (K w.params)=true:=by intro z;exact absurd rfl z)(yl:∀y z,y∈eS->z∈eS->y=z:=by simp[eS])(K3:∀y,y∈eS->∃d,(recsOf q).find? (λe=>e.name==y)=some d:=by simp[eS]):
 rZ q l_ XP YP l.row.toRowW d [] (λf vs=>rz f vs):=by
 refine O7.yG hn FZ λw s₀ s₁ mg mb fa o pm cd doc a vs ns G Y ho hd Dj Ou K0 FF hlen hg=>?_;have KX:=hY w _ Y;obtain⟨fd,hb,hF⟩:=F w mg fa _ KX G.T.g Ou;exact Ee KX G.T.g G.T.b G.T.builtins G.T.nolimit hg K0 FF (ř hlen Q_) hr hF hb (λH hO hS=>DF w H a ns hlen hO hS) (λH e s'=>Mj w H s₁ e s') (λz=>Ow z w) yl λy c Pt hy ke=>let ⟨_,hr'⟩:=K3 y hy;Gw G.T KX hr' ke
def ai(s:ò)(j:Nat):ò:=match s with
 |.ClassDef _ _ _ body _ _ _ _ _ _ _=>body.getD j<|.Pass ⟨0,0,0,0⟩|_=>.Pass ⟨0,0,0,0⟩
def bF(s:ò):gx:=match s with
 |.FunctionDef _ a _ _ _ _ _ _ _ _=>a|_=>{posonlyargs:=[],args:=[],vararg:=none,kwonlyargs:=[],kw_defaults:=[],kwarg:=none,defaults:=[]}
def Ž(s:ò):List ò:=match s with
 |.FunctionDef _ _ b _ _ _ _ _ _ _=>b|_=>[]
noncomputable def Ā(s:ò):ý:=match s with
 |.FunctionDef _ _ _ _ _ _ sc _ _ _=>sc|_=>{kind:=.function,names:=[],isGenerator:=false,isCoroutine:=false}
abbrev CN:gJ:=λ_ _ _ _ _ _=>False
structure FN(K:Î)(x ō:Str)(st:ò)(f:À)(fd:ĉ):Prop where
 ex:∃(oc:Á) (od:Option À) (kV doc pm:Á) (an:Option À) (cdv ct:Á) (FY:Array (Option Á)),
   fd=aK x ō (bF st) (Ž st) (Ā st) .none kV doc pm an cdv ct/\K.lookup f=some ⟨oc,od,.func fd,FY⟩/\lz K cdv ō=true
 kp:bC K (.ref f)=true
section
variable{K:Î}
def FN.binds{x ō:Str}{st:ò}{f:À}{fd:ĉ}{ps:List Str}(F:FN K x ō st f fd)
 (h:∀(kV doc pm:Á) (an:Option À) (cdv ct:Á) (us:List Á),us.length=ps.length->nL (aK x ō (bF st) (Ž st) (Ā st) .none kV doc pm an cdv ct) ⟨us,[]⟩=ñ (ps.zip us)):Binds K fd ps []:=by
 obtain⟨oc,od,kV,doc,pm,an,cdv,ct,FY,rfl,lk,Dj⟩:=F.ex;exact .all<|h kV doc pm an cdv ct
def Ef{x ō:Str}{st:ò}{f:À}{oc:Á}{od an:Option À}{FY:Array (Option Á)}{kV doc pm cdv ct:Á}(l:K.lookup f=some ⟨oc,od,.func<|aK x ō (bF st) (Ž st) (Ā st) .none kV doc pm an cdv ct,FY⟩)
 (c:lz K cdv ō=true)(k:bC K (.ref f)=true):FN K x ō st f (aK x ō (bF st) (Ž st) (Ā st) .none kV doc pm an cdv ct):=⟨⟨oc,od,kV,doc,pm,an,cdv,ct,FY,rfl,l,c⟩,k⟩
end
section
variable{X:Cx}
def pv(i:Nat){x:Str}{pos:Pos}(hk:Cw X i x=true:=by kernel_rfl):PE X (.Name x pos) (jm i):=lM hk
end
def Þ(H H':Hp):Prop:=∀b o,H b=some o->H' b=some o
def Þ.refl(H:Hp):Þ H H:=λ_ _ h=>h
def č{H:Hp}:Þ H H:=Þ.refl H
def Þ.trans{H H1 H2:Hp}(a:Þ H H1)(b:Þ H1 H2):Þ H H2:=λc o h=>b c o<|a c o h
def Þ.free{H H':Hp}(e:Þ H H'){l:À}(h:H' l=Option.none):H l=Option.none:=by
 cases q:H l with
 |none=>rfl|some o=>rw[e l o q]at h;cases h
def Þ.seq{K:Î}{H H':Hp}{a:À}{xs:List V}(e:Þ H H')(h:ϱ K H a xs):ϱ K H' a xs:=by
 rcases h with(h|⟨o,h⟩)|h
 ·exact .inl<|.inl<|e _ _ h
 ·exact .inl<|.inr ⟨o,e _ _ h⟩
 ·exact .inr h
end L2
namespace M2
open PySem PySem.Spec PyProof.Rows L2
section
variable{X:Cx}{a b c e:È}{ta tb tc te:TE}{pos:Pos}
def PE.wk{t t':TE}(h:PE X e t)(i:∀d H Q,t' d H Q->t d H Q):PE X e t':=λÇ s d H Q I q=>h Ç s d H Q I<|i d H Q q
def PS.wk{st:ò}{t t':TS}(h:PS X st t)(i:∀D d H,t' D d H->t D d H):PS X st t':=λÇ s d H D I q=>h Ç s d H D I<|i D d H q
def aA.wk{f:Á->Á->Sem Á}{r r':R2}(h:aA X f r)(i:∀x y H Q,r' x y H Q->r x y H Q):aA X f r':=λÇ s d H x y v u Q I rx ry q=>h Ç s d H x y v u Q I rx ry<|i x y H Q q
def Gg.wk{f:Á->Sem Á}{r r':V->Hp->VK->Prop}(h:Gg X f r)(i:∀x H Q,r' x H Q->r x H Q):Gg X f r':=λÇ s d H x v Q I rx q=>h Ç s d H x v Q I rx<|i x H Q q
def ő.wk{f:Á}{r r':List V->Hp->VK->Prop}(h:ő X f r)(i:∀xs H Q,r' xs H Q->r xs H Q):ő X f r':=λÇ s d H xs us Q I r q=>h Ç s d H xs us Q I r<|i xs H Q q
def zA.wk{r r':R2}(h:zA X r)(i:∀x y H Q,r' x y H Q->r x y H Q):zA X r':=λva sl Ç s d H x y v u Q I rx ry q=>h va sl Ç s d H x y v u Q I rx ry<|i x y H Q q
def Bv.wk{r r':V->Option Int->Option Int->Hp->VK->Prop}(h:Bv X r)(i:∀x lo hi H Q,r' x lo hi H Q->r x lo hi H Q):Bv X r':=λÇ s d H x v vl vu lo hi sl Q I rx hs pl pu q=>h Ç s d H x v vl vu lo hi sl Q I rx hs pl pu<|i x lo hi H Q q
def JE(i:Nat):TE:=λd H Q=>match d[i]?with
 |some (some v)=>Q v H|_=>False
def Gy{i:Nat}{d:Ċ}{H:Hp}{Q:VK}(h:JE i d H Q):jm i d H Q:=by
 unfold JE at h;split at h
 ·exact⟨_,by assumption,h⟩
 ·exact h.elim
def mv(i:Nat){x:Str}{pos:Pos}(hk:Cw X i x=true:=by kernel_rfl):PE X (.Name x pos) (JE i):=PE.wk (lM hk) λ_ _ _ h=>Gy h
def Lk(x:V)(k:Bool->Prop):Prop:=match x with
 |.bl c=>k c|_=>False
def mB{x:V}{k:Bool->Prop}(h:Lk x k):∃c,x=.bl c/\k c:=by
 cases x with
 |bl c=>exact⟨c,rfl,h⟩|_=>exact h.elim
def Eg(t:TE):TT:=λd H Q=>t d H λx H1=>Lk x λc=>Q c H1
def JF{op:fw}{r:R2}(ho:aA X (ī op) r)(ha:PE X a ta)(hb:PE X b tb)(hm:le op b=false):PT X (.Compare a [op] [b] pos) (Eg<|HW r ta tb):=by
 intro Ç s d H Q I h;refine wpAny_isTrue_Compare1 (ϙ (ha Ç s d H _ I h) λv s1 ⟨x,H1,I1,r1,q1⟩=>ϙ (hb Ç s1 d H1 _ I1 q1) λu s2 ⟨y,H2,I2,r2,q2⟩=>
  ϙ (ho Ç s2 d H2 x y v u _ I2 r1 r2 q2) λc s3 ⟨z,H3,I3,r3,q3⟩=>?_) hm
 obtain⟨k,e,q3⟩:=mB q3;subst e;cases r3;exact fA ⟨H3,I3,q3⟩
def Aa(r r':R2)(ta tb tc:TE):TE:=λd H Q=>ta d H λx H1=>tb d H1 λy H2=>r x y H2 λz H3=>Lk z λk=>
 (if k=true then tc d H3 λw' H4=>r' y w' H4 Q else Q (.bl false) H3)
def Eh{op AH:fw}{r r':R2}(ho:aA X (ī op) r)(AF:aA X (ī AH) r')(ha:PE X a ta)(hb:PE X b tb)(hc:PE X c tc)
 (hm:lastMarks [op,AH] [b,c]=false:=by with_unfolding_all rfl):PE X (.Compare a [op,AH] [b,c] pos) (Aa r r' ta tb tc):=by
 intro Ç s f H Q I h;refine Compare_chain (ϙ (ha Ç s f H _ I h) λv s1 ⟨x,H1,I1,r1,q1⟩=>chain_link (ϙ (hb Ç s1 f H1 _ I1 q1) λu s2 ⟨y,H2,I2,r2,q2⟩=>
  ϙ (ho Ç s2 f H2 x y v u _ I2 r1 r2 q2) λd s3 ⟨z,H3,I3,r3,q3⟩=>?_)) hm
 obtain⟨k,e,q3⟩:=mB q3;subst e;cases r3;refine fA ?_;cases k with
 |false=>exact ite_ff ⟨.bl false,H3,I3,rfl,q3⟩|true=>exact ite_tt<|chain_last<|ϙ (hc Ç s3 f H3 _ I3 q3) λw' s4 ⟨z',H4,I4,r4,q4⟩=>AF Ç s4 f H4 y z' u w' Q I4 r2 r4 q4
def Ei{op AH:fw}{r r':R2}(ho:aA X (ī op) r)(AF:aA X (ī AH) r')(ha:PE X a ta)(hb:PE X b tb)(hc:PE X c tc)
 (hm:lastMarks [op,AH] [b,c]=false:=by with_unfolding_all rfl):PT X (.Compare a [op,AH] [b,c] pos) (Eg<|Aa r r' ta tb tc):=by
 intro Ç s f H Q I h;refine isTrue_chain (ϙ (ha Ç s f H _ I h) λv s1 ⟨x,H1,I1,r1,q1⟩=>test_link (ϙ (hb Ç s1 f H1 _ I1 q1) λu s2 ⟨y,H2,I2,r2,q2⟩=>
  ϙ (ho Ç s2 f H2 x y v u _ I2 r1 r2 q2) λd s3 ⟨z,H3,I3,r3,q3⟩=>?_)) hm
 obtain⟨k,e,q3⟩:=mB q3;subst e;cases r3;refine fA ?_;cases k with
 |false=>exact ite_ff ⟨H3,I3,q3⟩|true=>refine ite_tt<|test_last<|ϙ (hc Ç s3 f H3 _ I3 q3) λw' s4 ⟨z',H4,I4,r4,q4⟩=>ϙ (AF Ç s4 f H4 y z' u w' _ I4 r2 r4 q4) λd' s5 zz=>?_;obtain⟨z2,H5,I5,r5,q5⟩:=zz;obtain⟨k2,e2,q5⟩:=mB q5;subst e2;cases r5;exact fA ⟨H5,I5,q5⟩
def Ml(ta tb:TE):TE:=λd H Q=>ta d H λx H1=>Lk x λc=>if c=true then tb d H1 Q else Q (.bl false) H1
def RA(ta tb:TE):TE:=λd H Q=>ta d H λx H1=>Lk x λc=>if c=true then Q (.bl true) H1 else tb d H1 Q
def Mm(ta:TE):TE:=λd H Q=>ta d H λx H1=>Lk x λc=>Q (.bl<|!c) H1
variable{rest:List È}
def JG(ha:PE X a ta)(hb:PE X (.BoolOp .And (b::rest) pos) tb):PE X (.BoolOp .And (a::b::rest) pos) (Ml ta tb):=by
 intro Ç s d H Q I h;refine BoolOp_and<|ϙ (ha Ç s d H _ I h) λv s1 zz=>?_;obtain⟨x,H1,I1,r1,q1⟩:=zz;obtain⟨c,rfl,q1⟩:=mB q1;cases r1;refine fA ?_;cases c with
 |true=>exact hb Ç s1 d H1 Q I1 q1|false=>exact⟨.bl false,H1,I1,rfl,q1⟩
def Mn(ha:PE X a ta)(hb:PE X (.BoolOp .Or (b::rest) pos) tb):PE X (.BoolOp .Or (a::b::rest) pos) (RA ta tb):=by
 intro Ç s d H Q I h;refine BoolOp_or<|ϙ (ha Ç s d H _ I h) λv s1 zz=>?_;obtain⟨x,H1,I1,r1,q1⟩:=zz;obtain⟨c,rfl,q1⟩:=mB q1;cases r1;refine fA ?_;cases c with
 |false=>exact hb Ç s1 d H1 Q I1 q1|true=>exact⟨.bl true,H1,I1,rfl,q1⟩
def JH(ha:PE X a ta):PE X (.UnaryOp .Not a pos) (Mm ta):=by intro Ç s d H Q I h;refine UnaryOp_<|ϙ (ha Ç s d H _ I h) λv s1 zz=>?_;obtain⟨x,H1,I1,r1,q1⟩:=zz;obtain⟨c,rfl,q1⟩:=mB q1;cases r1;exact not_of<|fA ⟨.bl<|!c,H1,I1,rfl,q1⟩
def mI(C:Int->Int->Prop)(g:Int->Int->V):R2:=λx y H Q=>match x,y with
 |.int i,.int j=>C i j/\Q (g i j) H|_,_=>False
def Ab(g:Int->Int->V):R2:=λx y H Q=>match x,y with
 |.int i,.int j=>Q (g i j) H|_,_=>False
def uS{C:Int->Int->Prop}{g:Int->Int->V}(x y:V)(H:Hp)(Q:VK)(h:mI C g x y H Q):rI C g x y H Q:=by
 cases x with
 |int i=>
  cases y with
  |int j=>exact⟨i,j,rfl,rfl,h.1,h.2⟩|_=>exact h.elim
 |_=>exact h.elim
def pq{g:Int->Int->V}(x y:V)(H:Hp)(Q:VK)(h:Ab g x y H Q):FM g x y H Q:=by
 cases x with
 |int i=>
  cases y with
  |int j=>exact⟨i,j,rfl,rfl,h⟩|_=>exact h.elim
 |_=>exact h.elim
def Mo:R2:=λx y H Q=>match x,y with
 |.int i,.int j=>Q (.int<|i+j) H|.str i,.str j=>i.length+j.length<=sizeLine/\Q (.str<|i++j) H|_,_=>False
def JI:aA X (ŀ .Add) Mo:=aA.wk (Jn.or zR) λx y H Q h=>by
 cases x with
 |int i=>
  cases y with
  |int j=>exact .inl ⟨i,j,rfl,rfl,h⟩|_=>exact h.elim
 |str i=>
  cases y with
  |str j=>exact .inr ⟨i,j,rfl,rfl,h.1,h.2⟩|_=>exact h.elim
 |_=>exact h.elim
def JJ:aA X (ŀ .Sub) (Ab λi j=>.int<|i-j):=aA.wk Jo pq
def uT(i j:Int):Prop:=Jm i j\/(rJ i<=1048576/\rJ j<=1048576)
theorem uT.ok{i j:Int}(h:uT i j):IntMulOk i j:=by
 rcases h with h|⟨h1,h2⟩
 ·exact h.ok
 ·exact IntMulOk.of_le h1 h2 (by decide)
def JK:aA X (ŀ .Mult) (mI uT λi j=>.int<|i*j):=aA.wk (Bu (C:=uT) (g:=λi j=>i*j) λ_ _ _ _ _ _ _ hc q=>mul_int q hc.ok) uS
def CO(_ j:Int):Prop:=j≠0/\rJ j<=8000
def CO.py{i j:Int}(h:CO i j):Builtin.divisionGoesByPylong i j=false:=by
 refine PyProof.noPylong_of_log2 ?_;have hb:=intBits_le_iff.mp h.2;have h0:j.natAbs≠0:=by have:=h.1;lia
 exact Š ((Nat.log2_lt h0).mpr hb) (by decide)
def GA:aA X (ŀ .FloorDiv) (mI CO λi j=>.int<|i.fdiv j):=aA.wk (Bu (C:=CO) (g:=λi j=>i.fdiv j) λ_ _ _ _ _ _ _ hc q=>floordiv_int hc.1 q<|.inl hc.py) uS
def JM:aA X (ŀ .Mod) (mI (λ_ j=>j≠0) λi j=>.int<|i.fmod j):=aA.wk Gj uS
def Ej:aA X (ŀ .Pow) (mI CB λi j=>.int<|i^j.toNat):=aA.wk Jp uS
def fR:aA X (ī .Lt) (Ab λi j=>.bl<|decide<|i<j):=aA.wk L8 pq
def aS:aA X (ī .LtE) (Ab λi j=>.bl<|decide<|i<=j):=aA.wk L9 pq
def Bz:aA X (ī .Gt) (Ab λi j=>.bl<|decide<|j<i):=aA.wk Ma pq
def Mp:aA X (ī .GtE) (Ab λi j=>.bl<|decide<|j<=i):=aA.wk Mb pq
def mU(g:Int->V):V->Hp->VK->Prop:=λx H Q=>match x with
 |.int i=>Q (g i) H|_=>False
def kh:Gg X (unaryOp .USub) (mU λi=>.int<|-i):=Gg.wk DW λx H Q h=>by
 cases x with
 |int i=>exact⟨i,rfl,h⟩|_=>exact h.elim
def K4:List V->Hp->VK->Prop:=λxs H Q=>match xs with
 |[.int i]=>Q (.int<|if i<0then -i else i) H|_=>False
def xv:ő X (.builtin "abs") K4:=ő.wk D_ λxs H Q h=>by
 unfold K4 at h;split at h
 ·exact⟨_,rfl,h⟩
 ·exact h.elim
def Ek:List V->Hp->VK->Prop:=λxs H Q=>match xs with
 |[.int i,.int j]=>Q (.int<|if j<i then j else i) H|_=>False
def GB(hc:X.calm=true):ő X (.builtin "min") Ek:=ő.wk (CD hc) λxs H Q h=>by
 unfold Ek at h;split at h
 ·exact⟨_,_,rfl,h⟩
 ·exact h.elim
def El:List V->Hp->VK->Prop:=λxs H Q=>match xs with
 |[.int i,.int j]=>Q (.int<|if j>i then j else i) H|_=>False
def GC(hc:X.calm=true):ő X (.builtin "max") El:=ő.wk (CC hc) λxs H Q h=>by
 unfold El at h;split at h
 ·exact⟨_,_,rfl,h⟩
 ·exact h.elim
def JN(K:Î):List V->Hp->VK->Prop:=λxs H Q=>match xs with
 |[.str y]=>y.length<=sizeLine/\Q (.int (y.length:Int)) H|[.ref p]=>∃ys,(ϱ K H p ys\/fL K H p ys)/\Q (.int (ys.length:Int)) H|_=>False
def ļ:ő X (.builtin "len") (JN X.K):=ő.wk D0 λxs H Q h=>by
 unfold JN at h;split at h
 ·exact⟨_,_,rfl,⟨h.1,rfl⟩,h.2⟩
 ·obtain⟨ys,h1,h2⟩:=h;refine⟨_,ys.length,rfl,?_,h2⟩;rcases h1 with h1|h1
  ·exact .inl ⟨ys,h1,rfl⟩
  ·exact .inr ⟨ys,h1,rfl⟩
 ·exact h.elim
def VW(K:Î):R2:=λx y H Q=>match x,y with
 |.ref p,.int i=>∃xs v,(ϱ K H p xs\/fL K H p xs)/\pc xs i=some v/\Q v H|.str z,.int i=>∃c,z.length<=sizeLine/\pc z.cps.toList i=some c/\Q (.str ⟨#[c]⟩) H|_,_=>False
def Mq:zA X (VW X.K):=zA.wk zZ λx y H Q h=>by
 cases x with
 |ref p=>
  cases y with
  |int i=>
   obtain⟨xs,v,h1,h2,h3⟩:=h;rcases h1 with h1|h1
   ·exact .inl ⟨p,xs,i,v,rfl,rfl,h1,h2,h3⟩
   ·exact .inr<|.inl ⟨p,xs,i,v,rfl,rfl,h1,h2,h3⟩
  |_=>exact h.elim
 |str z=>
  cases y with
  |int i=>obtain⟨c,h1,h2,h3⟩:=h;exact .inr<|.inr ⟨z,i,c,rfl,rfl,h1,h2,h3⟩|_=>exact h.elim
 |_=>exact h.elim
def YO(x:V)(k:Int->Prop):Prop:=match x with
 |.int i=>k i|_=>False
def Mr(t:TE):TO:=λd H Q=>t d H λx H1=>YO x λi=>Q (some i) H1
def Em(h:PE X e te):PO X (some e) (Mr te):=by
 intro Ç s d H Q I hw;rw[evalPart_some];refine ϙ (h Ç s d H _ I hw) λu s1 zz=>?_;obtain⟨x,H1,I1,r1,q1⟩:=zz;cases x with
 |int i=>obtain⟨t,rfl⟩:=r1;exact⟨some i,H1,I1,.int i t,q1⟩|_=>exact q1.elim
def RC(K:Î):V->Option Int->Option Int->Hp->VK->Prop:=λx lo hi H Q=>match x with
 |.ref a=>∃xs,ϱ K H a xs/\∀p,H p=none->Q (.ref p) (upd H p<|.lst<|yE xs lo hi)|_=>False
def En:Bv X (RC X.K):=Bv.wk Gv λx lo hi H Q h=>by
 cases x with
 |ref a=>obtain⟨xs,h1,h2⟩:=h;exact⟨a,xs,rfl,h1,h2⟩|_=>exact h.elim
end
mutual
def Rp(K:Î)(H:Hp):Ϥ->V->Prop
 |.none,v=>v=.non|.bool b,v=>v=.bl b|.int i,v=>v=.int i|.str x,v=>v=.str x|.tuple ds,v=>∃a xs,v=.ref a/\fL K H a xs/\lN K H ds xs|.list ds,v=>∃a xs,v=.ref a/\ϱ K H a xs/\lN K H ds xs|.dict _,_=>False
def lN(K:Î)(H:Hp):List Ϥ->List V->Prop
 |[],xs=>xs=[]|d::ds,xs=>∃x r,xs=x::r/\Rp K H d x/\lN K H ds r
end
def Þ.tup{K:Î}{H H':Hp}{a:À}{xs:List V}(e:Þ H H')(h:fL K H a xs):fL K H' a xs:=by
 rcases h with(h|⟨o,h⟩)|h
 ·exact .inl<|.inl<|e _ _ h
 ·exact .inl<|.inr ⟨o,e _ _ h⟩
 ·exact .inr h
theorem Þ.upd{H:Hp}{p:À}{o:HO}(h:H p=none):Þ H (upd H p o):=λb u e=>by rw[õ<|Ņ e h];exact e
mutual
theorem Rp.same{K:Î}{H H':Hp}(e:Þ H H'):∀(d:Ϥ) (v:V),Rp K H d v->Rp K H' d v
 |.none,_,h=>by unfold Rp at h⊢;exact h|.bool _,_,h=>by unfold Rp at h⊢;exact h|.int _,_,h=>by unfold Rp at h⊢;exact h|.str _,_,h=>by unfold Rp at h⊢;exact h|.tuple ds,_,h=>by unfold Rp at h⊢;obtain⟨a,xs,h1,h2,h3⟩:=h;exact⟨a,xs,h1,Þ.tup e h2,lN.same e ds xs h3⟩|.list ds,_,h=>by unfold Rp at h⊢;obtain⟨a,xs,h1,h2,h3⟩:=h;exact⟨a,xs,h1,e.seq h2,lN.same e ds xs h3⟩|.dict _,_,h=>by unfold Rp at h;exact h.elim
theorem lN.same{K:Î}{H H':Hp}(e:Þ H H'):∀(ds:List Ϥ) (xs:List V),lN K H ds xs->lN K H' ds xs
 |[],_,h=>by unfold lN at h⊢;exact h|d::ds,_,h=>by unfold lN at h⊢;obtain⟨x,r,h1,h2,h3⟩:=h;exact⟨x,r,h1,Rp.same e d x h2,lN.same e ds r h3⟩
end
section
variable{X:Cx}{Ç:List (À×Obj)}{σ:Ċ}{H:Hp}{s:Ä}
mutual
theorem Rp.reads(I:Inv X Ç σ H s):∀(d:Ϥ) (v:V) (u:Á),Rp X.K H d v->RelV v u->∃as,Reads s.heap u d as
 |.none,v,u,h,r=>by unfold Rp at h;subst h;cases r;exact⟨_,.none⟩|.bool b,v,u,h,r=>by unfold Rp at h;subst h;cases r;exact⟨_,.bool b⟩|.int i,v,u,h,r=>by unfold Rp at h;subst h;obtain⟨t,rfl⟩:=r;exact⟨_,.int i t⟩|.str x,v,u,h,r=>by unfold Rp at h;subst h;obtain⟨t,rfl⟩:=r;exact⟨_,.str x t⟩|.tuple ds,v,u,h,r=>by unfold Rp at h;obtain⟨a,xs,h1,h2,h3⟩:=h;subst h1;cases r;obtain⟨ď,rv,⟨o,e,hc,n,hd⟩,hz⟩:=I.tuple h2;obtain⟨as,ra⟩:=lN.reads I ds xs ď h3 rv;exact⟨_,.tuple e hc hd<|by simpa using ra⟩|.list ds,v,u,h,r=>by unfold Rp at h;obtain⟨a,xs,h1,h2,h3⟩:=h;subst h1;cases r;obtain⟨ď,rv,⟨o,n,e,hc,hdd,hd⟩,hz⟩:=I.list h2;obtain⟨as,ra⟩:=lN.reads I ds xs ď h3 rv;exact⟨_,.list e hc hd<|by simpa using ra⟩|.dict _,_,_,h,_=>by unfold Rp at h;exact h.elim
theorem lN.reads(I:Inv X Ç σ H s):∀(ds:List Ϥ) (xs:List V) (us:List Á),lN X.K H ds xs->ł xs us->∃as,ReadsAll s.heap us ds as
 |[],xs,us,h,r=>by unfold lN at h;subst h;cases r;exact⟨_,.nil⟩|d::ds,xs,us,h,r=>by
  unfold lN at h;obtain⟨x,q,h1,h2,h3⟩:=h;subst h1;cases r with
  |cons r1 r2=>obtain⟨as,ra⟩:=Rp.reads I d x _ h2 r1;obtain⟨bs,rb⟩:=lN.reads I ds q _ h3 r2;exact⟨_,.cons ra rb⟩
end
end
def GD(K:Î)(HJ:Bool):R2:=λx y H Q=>∃d e,Rp K H d x/\Rp K H e y/\d.canLay0=true/\e.canLay0=true/\min d.depth e.depth<=60/\Q (.bl<|if HJ then !PyData.eqv d e else Ĭ d e) H
section
variable{X:Cx}
def Eo(hu:X.A.units+64<Ź):aA X (ī .Eq) (GD X.K false):=by intro Ç s a H x y v u Q I rx ry h;obtain⟨d,e,h1,h2,h3,h4,h5,q⟩:=h;obtain⟨as,ra⟩:=Rp.reads I d x v h1 rx;obtain⟨bs,rb⟩:=Rp.reads I e y u h2 ry;exact SeqAt.compareEq_reads ra rb h3 h4 (by lia) ⟨.bl _,H,I,rfl,q⟩
def Ac(hu:X.A.units+64<Ź):aA X (ī .NotEq) (GD X.K true):=by intro Ç s a H x y v u Q I rx ry h;obtain⟨d,e,h1,h2,h3,h4,h5,q⟩:=h;obtain⟨as,ra⟩:=Rp.reads I d x v h1 rx;obtain⟨bs,rb⟩:=Rp.reads I e y u h2 ry;exact SeqAt.compareNe_reads ra rb h3 h4 (by lia) ⟨.bl _,H,I,rfl,q⟩
end
end M2
namespace M3
open PySem PySem.Spec PyProof.Rows L2 M2
def BA{h':Ñ}(x:n_ P w H h)(hC:H C=none)(k:∀b u,b≠C->h.get? b=some u->h'.get? b=some u):n_ P w H h':=λa o e=>
 (x a o e).stay (fun b u hb q=>k b u (by
   rcases hb with hb|hb
   ·rw[hb];exact Ņ e hC
   ·exact Ņ hb hC) q) (λ_ q=>q) λ_ _ q=>q
theorem mD{env:Env}:∀(ns:List (Str×cb)) (cs:List (Str×À)),(∀y∈ns,y.2=.free->∃c,env.cells.lookup y.1=some c)->(∀x c,cs.lookup x=some c->env.cells.lookup x=some c)->
 ∃cl,(forIn ns cs (λ(x:Str×cb) r=>if(x.2==.free)=true then(do let c<-cellOf env x.1;ñ (gq ((x.1,c)::r)))else ñ (gq r)):Sem (List<|Str×À))=ñ cl/\
  (∀x c,cl.lookup x=some c->env.cells.lookup x=some c)/\(∀x,(∃c,cs.lookup x=some c)->∃c,cl.lookup x=some c)/\∀y∈ns,y.2=.free->∃c,cl.lookup y.1=some c
 |[],cs,_,h2=>⟨cs,rfl,h2,λ_ z=>z,λ_ z=>nomatch z⟩
 |(n,k)::ns,cs,h1,h2=>by
  by_cases hk:k=.free
  ·subst hk;obtain⟨c,hc⟩:=h1 (n,.free) ϝ rfl;have e:cellOf env n=ñ c:=by unfold cellOf;rw[hc]
   have K5:∀x d,((n,c)::cs).lookup x=some d->env.cells.lookup x=some d:=λx d q=>by
    rw[Ř]at q;cases hx:x==n with
    |true=>rw[hx]at q;have:x=n:=eq_of_beq hx;subst this;cases q;exact hc|false=>rw[hx]at q;exact h2 x d q
   obtain⟨cl,q1,q2,q3,q4⟩:=mD ns ((n,c)::cs) (λy hy=>h1 y<|ð _ hy) K5;refine⟨cl,?_,q2,λx ⟨d,hd⟩=>q3 x ?_,λy hy hf=>?_⟩
   ·rw[nn];simp only[beq_self_eq_true,if_true,e,pure_bind];exact q1
   ·rw[Ř];cases hx:x==n with
    |true=>exact⟨c,rfl⟩|false=>exact⟨d,hd⟩
   ·rcases ö.mp hy with rfl|hy
    ·exact q3 n ⟨c,by rw[Ř,beq_self_eq_true]⟩
    ·exact q4 y hy hf
  ·have hb:(k==ci)=false:=by simpa using hk
   obtain⟨cl,q1,q2,q3,q4⟩:=mD ns cs (λy hy=>h1 y<|ð _ hy) h2;refine⟨cl,?_,q2,q3,λy hy hf=>?_⟩
   ·rw[nn];simp only[hb,qz,if_false,pure_bind];exact q1
   ·rcases ö.mp hy with rfl|hy
    ·exact absurd hf hk
    ·exact q4 y hy hf
def xw{scope:ý}{env:Env}(h:∀y∈scope.names,y.2=.free->∃c,env.cells.lookup y.1=some c):
 ∃cl,closureFor scope env=ñ cl/\(∀x c,cl.lookup x=some c->env.cells.lookup x=some c)/\∀y∈scope.names,y.2=.free->∃c,cl.lookup y.1=some c:=by
 obtain⟨cl,q1,q2,_,q4⟩:=mD (env:=env) scope.names [] h (λx c z=>by simp at z);refine⟨cl,?_,q2,q4⟩;unfold closureFor;have e:(forIn scope.names [] (λ(x:Str×cb) (r:List (Str×À))=>match x with
  |(name,kind)=>if(kind==.free)=true then(do let a<-cellOf env name;ñ (gq ((name,a)::r)))else ñ (gq r)):Sem (List<|Str×À))=ñ cl:=q1
 first
  |(simp only[bind_pure];exact q1)
  |(rw[show ∀(t:Sem (List<|Str×À)),(do let r<-t;ñ r)=t from λt=>by simp];exact q1)|(simp only[q1,pure_bind])
noncomputable def im(X:Cx)(N':List Str)(scope:ý)(cl:List (Str×À))(C:À)(s:Ä)(H:Hp)(fp:List À):Cx where
 prog:=X.prog
 w:=X.w
 K:=X.K
 mg:=X.mg
 base:=X.base
 A:=X.A
 N:=N'
 s₀:=s
 H₀:=H
 env:=compEnvC scope cl C X.env
 outer:=X.stack
 stack:=X.stack
 ex:=fp
 fn:=λx=>scope.names.lookup x==some .cell
 calm:=X.calm
 pn:=[]
 xe:=λ_ _=>False
def ki(X:Cx)(sc scope:ý):List Str->List Nat->Prop
 |x::xs,j::js=>X.N[j]?=some x/\(scope.names.lookup x=some .free/\(sc.names.lookup x=some .cell\/sc.names.lookup x=some .free))/\ki X sc scope xs js|_,[]=>True|[],_::_=>False
def kj(js:List Nat)(nl:Nat)(a:Ċ):Ċ:=js.map (λj:Nat=>(a[j]?).getD none)++Ù nl none
theorem uU:∀{N':List Str}{js:List Nat}{i:Nat}{x:Str}{v:V},ki X sc scope N' js->N'[i]?=some x->(kj js nl a)[i]?=some (some v)->
 ∃j:Nat,X.N[j]?=some x/\a[j]?=some (some v)/\scope.names.lookup x=some .free/\(sc.names.lookup x=some .cell\/sc.names.lookup x=some .free)
 |N',[],i,x,v,_,_,h=>by unfold kj at h;rw[ϟ,bq,gt]at h;split at h<;>cases h|[],_::_,_,_,_,c,_,_=>c.elim|y::N',j::js,0,x,v,c,h1,h2=>by
  obtain⟨c1,c2,_⟩:=c;simp at h1;subst h1;have e:(a[j]?).getD none=some v:=by simpa[kj]using h2
  refine⟨j,c1,?_,c2⟩;cases q:a[j]?with
  |none=>rw[q]at e;cases e|some o=>rw[q]at e;exact congrArg some e
 |y::N',j::js,i+1,x,v,c,h1,h2=>by exact uU (N':=N') (js:=js) (i:=i) c.2.2 (by simpa using h1) (by simpa[kj]using h2)
theorem xy{R:Result->Ä->Prop}{iter:È}{acc:Á}(I:Nat->Ä->Prop)(turn:∀n s,I n s->Ï (Ü prog w) A (cP it) (λr s₁=>match r with
 |none=>R (.ok .next) s₁|some v=>Ï (Ü prog w) A (rm target it v) (fun _ Yi=>Ï (Ü prog w) A (cO target env v) (fun _ s₂=>
   Ï (Ü prog w) A (forIn ifs true λc r=>if r=true then do let ok<-isTrue c env (eval c env);ñ (gq ok)else ñ (gq r)) (λok s₃=>
    if ok=true then Ï (Ü prog w) A (eval elt env) (λx s₄=>
     Ï (Ü prog w) A (call (.builtin "list.append") [acc,x]) (λ_ s₅=>∃m,m<n/\I m s₅) (λ_ _=>False) s₄) (λ_ _=>False) s₃
    else ∃m,m<n/\I m s₃) (λ_ _=>False) s₂) (λ_ _=>False) Yi) (λ_ _=>False) s₁) (λ_ _=>False) s)(n:Nat)(h:I n s):
 fB (Ü prog w) A (.compLoop (.ListComp elt [⟨target,iter,ifs,0⟩] scope pos) 0 it acc env) R s:=by
 refine codeAny_loop rfl I (λn s hI=>?_) n h;show Ï _ A ((compTurn (.ListComp elt [⟨target,iter,ifs,0⟩] scope pos) 0 it acc env).onRaise (λx=>do noteFrame x env;theTreesLotGoes x)) _ _ s;refine wpAny_noted<|wpAny_noRaise ?_;rw[compTurn_list];refine Ò<|nJ<|Ò<|bu (turn n s hI) (λr s₁ h₁=>?_) λ_ _ h'=>h';cases r with
 |none=>exact Č h₁|some v=>
  refine Ò<|bu h₁ (λ_ Yi Zac=>?_) λ_ _ h'=>h';refine Ò<|bu Zac (λ_ s₂ h₂=>Ò<|bu h₂ (λok s₃ h₃=>?_) λ_ _ h'=>h') λ_ _ h'=>h';cases ok with
  |false=>exact Č ⟨rfl,h₃⟩|true=>exact Ò<|Ò<|bu h₃ (λx s₄ h₄=>Ò<|bu h₄ (λ_ s₅ h₅=>Č<|Č ⟨rfl,h₅⟩) λ_ _ h'=>h') λ_ _ h'=>h'
def Du(X:Cx)(ifs:List È)(t:TT):Prop:=
 ∀(Ç:List (À×Obj)) (s:Ä) (a:Ċ) (H:Hp) (Q:Bool->Hp->Prop),Inv X Ç a H s->t a H Q->
  Ï (Ü X.prog X.w) X.A (forIn ifs true λc r=>if r=true then do let ok<-isTrue c X.env (eval c X.env);ñ (gq ok)else ñ (gq r)) (TP X Ç a Q) X.xe s
def RE:TT:=λ_ H Q=>Q true H
def GF:Du X [] RE:=λ_ _ _ H _ I h=>wpAny_tests_nil ⟨H,I,h⟩
def uV(js:List Nat)(nl:Nat)(wi:TI)(g:TG)(tt:TT)(te:TE):TE:=λd H Q=>wi d H λJ H1=>∀D,H1 D=none->
 ∃W:Nat->Nat->Ċ->Hp->Prop,(∃m,W 0 m (kj js nl d)<|upd H1 D<|.lst [])/\∀i m b H',W i m b H'->
  (J.stop i H'∧Q (.ref D) H')∨(J.go i H'∧∃N:Ċ→Hp→Prop,(∀a H2,N a H2→∃m',m'<m∧W (i+1) m' a H2)∧∀x H2,J.L4 i H' x H2→g x b H2 fun a H3=>tt a H3 fun c H4=>
    if c=true then te a H4 λy H5=>∃ys,H5 D=some (.lst ys)/\ys.length<sizeLine/\N a (upd H5 D<|.lst<|ys++[y])else N a H4)
theorem ju{env:Env}:∀{names:List (Str×cb)}{x:Str}{k:cb},(k=.cell\/k=.free)->
 (names.map λ(n,k)=>if(k==ci&&env.scope.kind==.function&&env.kindOf n==some .cell)then(n,gI)else(n,k)).lookup x=some k->(x,ci)∈names\/(x,gI)∈names
 |[],x,k,_,h=>by simp at h|(n,q)::r,x,k,hk,h=>by
  have ih:=@ju env r x k hk;rw[á]at h;by_cases hx:x=n
  ·subst hx;by_cases hf:q=.free
   ·subst hf;exact .inl ϝ
   ·have hb:(q==ci)=false:=by simpa using hf
    have e:(if(q==ci&&env.scope.kind==.function&&env.kindOf x==some .cell)=true then(x,gI)else(x,q))=(x,q):=by rw[hb];rfl
    have h2:=h;simp only[e,Ř,beq_self_eq_true]at h2;have:q=k:=š h2;rcases hk with hk|hk
    ·rw[this,hk];exact .inr ϝ
    ·exact absurd (this.trans hk) hf
  ·have hn:(x==n)=false:=by simpa using hx
   have h3:(x,ci)∈r\/(x,gI)∈r:=ih (by
    by_cases c:(q==ci&&env.scope.kind==.function&&env.kindOf n==some .cell)=true
    ·simp only[c,if_true,Ř,hn]at h;exact h
    ·simp only[c,if_false,qz,Ř,hn]at h;exact h)
   rcases h3 with h3|h3
   ·exact .inl<|ð _ h3
   ·exact .inr<|ð _ h3
theorem au:∀(names:List (Str×cb)) (n:Nat) (acc:List (Str×À)),Ś n names acc=Ś n names []++acc
 |[],_,_=>rfl|(x,k)::r,n,acc=>by
  unfold Ś;split
  ·rw[au r (n+1) ((x,n)::acc),au r (n+1) [(x,n)],qI];rfl
  ·exact au r n acc
theorem jv:∀(names:List (Str×cb)) (n:Nat) {x:Str}{c:À},(x,c)∈Ś n names []->(x,gI)∈names
 |[],_,_,_,h=>by simp[Ś]at h|(y,k)::r,n,x,c,h=>by
  unfold Ś at h;split at h
  ·rename_i hk;rw[au r (n+1) [(y,n)]]at h;rcases aH.mp h with h|h
   ·exact ð _<|jv r _ h
   ·have e:(x,c)=(y,n):=by simpa using h
    cases e;rw[beq_iff_eq.mp hk];exact ϝ
  ·exact ð _<|jv r _ h
structure Yj(X:Cx)(scope:ý)(n:Nat)(h:Ñ)(cl:List (Str×À)):Prop where
 at_:∀x c,cl.lookup x=some c->(X.env.cells.lookup x=some c/\scope.names.lookup x≠some .cell)\/(n<c/\h.IsCell c none/\scope.names.lookup x=some .cell)
 inj:∀x y c,cl.lookup x=some c->cl.lookup y=some c->n<c->x=y
 has:∀x,((x,ci)∈scope.names\/(x,gI)∈scope.names)->∃c,cl.lookup x=some c
def JO{X:Cx}{scope:ý}{n:Nat}{cl:List (Str×À)}(hcell:∀y∈scope.names,y.2=.cell->scope.names.lookup y.1=some .cell)(h1:∀x c,cl.lookup x=some c->X.env.cells.lookup x=some c)(h2:∀y∈scope.names,y.2=.free->∃c,cl.lookup y.1=some c)(mW:∀x c,X.env.cells.lookup x=some c->c<n)(ok:CellsOk h (n+1) (Ś (n+1) scope.names [])):Yj X scope n h (Ś (n+1) scope.names cl):=by
 have sp:∀x c,(Ś (n+1) scope.names cl).lookup x=some c->(cl.lookup x=some c/\(Ś (n+1) scope.names []).lookup x=none)\/(Ś (n+1) scope.names []).lookup x=some c:=λx c e=>by
  rw[au,List.lookup_append]at e;cases q:(Ś (n+1) scope.names []).lookup x with
  |none=>rw[q]at e;exact .inl ⟨by simpa using e,rfl⟩|some d=>rw[q]at e;exact .inr (by simpa using e)
 refine⟨λx c e=>?_,λx y c e1 e2 hc=>?_,λx hx=>?_⟩
 ·rcases sp x c e with⟨e,q⟩|e
  ·refine .inl ⟨h1 x c e,λz=>?_⟩;obtain⟨d,hd⟩:=oh (sc:=scope) (n:=n+1) z;rw[hd]at q;cases q
  ·have m:=mem_of_lookup e;exact .inr ⟨(ok.empty x c m).2,(ok.empty x c m).1,hcell _ (jv _ _ m) rfl⟩
 ·have nw:∀z,(Ś (n+1) scope.names cl).lookup z=some c→(Ś (n+1) scope.names []).lookup z=some c:=fun z e=>by
   rcases sp z c e with⟨e,q⟩|e
   ·exact absurd (mW z c<|h1 z c e)<|Nat.lt_asymm hc
   ·exact e
  exact name_of_addr ok.apart (mem_of_lookup<|nw x e1)<|mem_of_lookup<|nw y e2
 ·rw[au,List.lookup_append];rcases hx with hx|hx
  ·obtain⟨c,hc⟩:=h2 _ hx rfl;cases q:(Ś (n+1) scope.names []).lookup x with
   |none=>exact⟨c,by simpa using hc⟩|some d=>exact⟨d,rfl⟩
  ·obtain⟨d,hd⟩:=oh (sc:=scope) (n:=n+1)<|hcell _ hx rfl;rw[hd];exact⟨d,rfl⟩
def uC{M:fv}{A:ì}{E:Á->Ä->Prop}{s:Ä}{scope:ý}{globals:À}{Co:List (Str×À)}{ō:Str}{func:Option À}{code:Á}{env0:Env}{builtins:À}{Q:Env->Ä->Prop}(hQ:∀h',h'.Ns s.heap.objs.size (λ_=>none)->(∀b o,s.heap.get? b=some o->h'.get? b=some o)->CellsOk h' (s.heap.objs.size+1) (Ś (s.heap.objs.size+1) scope.names [])->
 Q (newEnv scope s.heap.objs.size globals (Ś (s.heap.objs.size+1) scope.names Co) ō func code (some env0) builtins) {s with heap:=h'}):
 Ï M A (newFunctionEnv scope globals Co [] ō func code (some env0) builtins) Q E s:=by
 simp only[newFunctionEnv,Option.isSome_some,if_true];refine Ò<|wpAny_alloc ?_;refine Ò (wpAny_layCells _ (λname kind cells=>by cases hkc:kind==gI<;>simp[hkc]) _ _ _ _ ?_);have ok:=cellsFrom_ok scope.names (s.heap.push {cls:=.type "dict",data:=.dict #[]}) (s.heap.objs.size+1) [] ⟨λ_ _ hm=>(nomatch hm),A1⟩ (by rw[Ϧ];exact ø _);rw[Ϧ]at ok;rw[show({s with heap:=s.heap.push {cls:=.type "dict",data:=.dict #[]}}:Ä).heap.objs.size=s.heap.objs.size+1from Ϧ ..];refine Ò ?_;rw[vU];exact Č<|Č<|hQ _ ((Heap.Ns.new s.heap<|.type "dict").keeps (pushCells_keeps _ _)) (λb o e=>pushCells_keeps _ _ b o<|ă _ e) ok
theorem oj{env:Env}:∀{names:List (Str×cb)}{x:Str},names.lookup x=some .free->
 ¬(names.map λ(n,k)=>if(k==ci&&env.scope.kind==.function&&env.kindOf n==some .cell)then(n,gI)else(n,k)).lookup x=some .local
 |[],x,h=>by simp at h|(n,q)::r,x,h=>by
  intro h2;rw[á]at h2;rw[Ř]at h;cases hx:x==n with
  |true=>
   rw[hx]at h;cases h;by_cases c:(ci==ci&&env.scope.kind==.function&&env.kindOf n==some .cell)=true
   ·simp only[c,if_true,Ř,hx]at h2;cases h2
   ·simp only[c,if_false,qz,Ř,hx]at h2;cases h2
  |false=>
   rw[hx]at h;have ih:=oj (env:=env) h;by_cases c:(q==ci&&env.scope.kind==.function&&env.kindOf n==some .cell)=true
   ·simp only[c,if_true,Ř,hx]at h2;exact ih h2
   ·simp only[c,if_false,qz,Ř,hx]at h2;exact ih h2
def CP{X:Cx}{scope:ý}{s:Ä}{nl:Nat}{sc:ý}{fp:List À}{tk:Nat}(AI:X.env.scope=sc)(hk:scope.kind=.function)(hcap:ki X sc scope N' js)(hlen:js.length+nl=N'.length)(B:Yj X scope s.heap.objs.size h' cl)(I:Inv X Ç a H s)(hf:∀b∈fp,my X Ç H b)(mW:∀b∈fp,b<s.heap.objs.size)(hn:h'.Ns s.heap.objs.size (λ_=>none))(kp:∀b o,s.heap.get? b=some o->h'.get? b=some o):
 Inv (im X N' scope cl s.heap.objs.size s H fp) [] (kj js nl a) H {s with heap:=h',toks:=tk}:=by
 have Ep:∀x,((im X N' scope cl s.heap.objs.size s H fp).env.kindOf x=some .cell\/(im X N' scope cl s.heap.objs.size s H fp).env.kindOf x=some .free)->∃c,cl.lookup x=some c:=λx hx=>by
  rcases hx with hx|hx
  ·exact B.has x<|ju (.inl rfl) hx
  ·exact B.has x<|ju (.inr rfl) hx
 have lt:∀x c,X.env.cells.lookup x=some c->c<s.heap.objs.size:=λx c e=>by obtain⟨v,o,ho,_⟩:=I.cell x c e;exact ā ho
 have inj:∀x y c,cl.lookup x=some c->cl.lookup y=some c->x=y:=λx y c e1 e2=>by
  rcases B.at_ x c e1 with⟨q1,_⟩|⟨q1,_⟩
  ·rcases B.at_ y c e2 with⟨q2,_⟩|⟨q2,_⟩
   ·exact I.ok.inj x y c q1 q2
   ·exact absurd (lt x c q1)<|Nat.lt_asymm q2
  ·exact B.inj x y c e1 e2 q1
 refine⟨⟨I.ok.mod,hk,I.ok.glob,I.ok.blt,ø _,inj,Ep,λx c z e=>by
  rcases B.at_ x c e with⟨_,q⟩|⟨q,_⟩
  ·exact absurd (beq_iff_eq.mp z) q
  ·exact nA q,I.ok.hd,I.ok.frames,.inl rfl,λb hb=>⟨ŏ<|mW b hb,λx c e=>by
  rcases B.at_ x c e with⟨q,_⟩|⟨q,_⟩
  ·exact(hf b hb).2.2.2.2.1 x c q
  ·exact cL<|Nat.lt_trans (mW b hb) q⟩,
  I.bs,ř I.ok.DJ I.sz,fun b o e hb=>?_,fun b hb hz=>?_,I.stack,I.Bq,I.tb⟩,rfl,I.bare,Un.kept kp,⟨_,hn,fun i x v e1 e2 e3=>?_⟩,fun x c e=>?_,I.hok.fresh<|ø _,fun x c e=>by
    rcases B.at_ x c e with⟨q,_⟩|⟨q,_⟩
    ·exact I.jT x c q
    ·exact I.hok.fresh<|nA q,λp hp=>?_,I.hok.kept kp,?_⟩
 ·rcases(hf b hb).2.2.2.1 with z|z
  ·exact I.ok.yz b o e z
  ·exact absurd (Š (ā e)<|ř I.ok.DJ z)<|dR _
 ·rcases ö.mp (I.xi b hz)with z|z
  ·exact(hf b hb).2.1 z
  ·exact(hf b hb).2.2.1 z
 ·obtain⟨j,q1,q2,q0,q3⟩:=uU hcap e1 e2;obtain⟨m,hm,hl⟩:=I.loc;have RF:Lg X.env.scope x:=by
   rw[AI];rcases q3 with q3|q3
   ·exact .inr<|.inl q3
   ·exact .inr<|.inr q3
  obtain⟨u,ru,lk⟩:=hl j x v q1 q2 RF;refine⟨u,ru,?_⟩;rcases lk with⟨k1,_⟩|⟨k1,c,hc,ic⟩
  ·exfalso;have k1':sc.names.lookup x=some .local:=by rw[<-AI];exact k1
   rcases q3 with q3|q3<;>(rw[k1']at q3;cases q3)
  ·have e3':(im X N' scope cl s.heap.objs.size s H fp).env.kindOf x=some .local\/(im X N' scope cl s.heap.objs.size s H fp).env.kindOf x=some .cell\/(im X N' scope cl s.heap.objs.size s H fp).env.kindOf x=some .free:=e3;rcases e3' with z|z
   ·exact absurd z<|oj (env:=X.env) q0
   ·obtain⟨d,hd⟩:=Ep x z;have:d=c:=by
     rcases B.at_ x d hd with⟨q,_⟩|⟨_,_,q⟩
     ·rw[hc]at q;exact(š q).symm
     ·rw[q0]at q;cases q
    subst this;exact .inr ⟨z,d,hd,by
     obtain⟨o,ho,Oo⟩:=ic;exact⟨o,kp _ _ ho,Oo⟩⟩
 ·rcases B.at_ x c e with⟨q,_⟩|⟨_,q,_⟩
  ·obtain⟨v,o,ho,hd⟩:=I.cell x c q;exact⟨v,o,kp _ _ ho,hd⟩
  ·exact⟨none,q⟩
 ·exact absurd hp (by simp[im])
 ·show _=N'.length;rw[<-hlen];simp[kj]
def Ad{fp:List À}{h':Ñ}(I:Inv X Ç a H s)(hf:∀b∈fp,my X Ç H b)(J:Inv (im X N' scope cl s.heap.objs.size s H fp) [] c H' s')(kp:∀b u,b≠s.heap.objs.size->s'.heap.get? b=some u->h'.get? b=some u):Inv X Ç a H' {s' with heap:=h'}:=by
 have ne:∀{b:À}{o:Obj},s.heap.get? b=some o->b≠s.heap.objs.size:=λe=>ŏ<|ā e;have u:=J.base;refine I.call' (ch:=fp) J.os ⟨λb o e n hb hx=>kp b o (ne e)<|u.keep b o e n hb hx,λb o e n hb hx=>?_,λb o e n hx=>u.free b o e n hx,λb o e hx=>?_,u.tups,u.uy,u.qi⟩ (BA J.hok J.free kp) J.bare λb hb=>?_
 ·obtain⟨sl,q⟩:=u.slot b o e n hb hx;exact⟨sl,kp b _ (ne e) q⟩
 ·obtain⟨o',q⟩:=u.there b o e hx;exact⟨o',kp b _ (ne e) q⟩
 ·exact⟨(hf b hb).2.2.2.1,(hf b hb).2.1,(hf b hb).2.2.2.2.1,(hf b hb).2.2.2.2.2⟩
def uW{X:Cx}{elt tg iter:È}{ifs:List È}{scope:ý}{pos:Pos}{wi:TI}{g:TG}{tt:TT}{te:TE}{use:Option (Á->Sem Unit)}{QQ:Á->Ä->Prop}{KV:V->Hp->Prop}{Ç:List (À×Obj)}{s:Ä}{j:Ċ}{H:Hp}{pp:Pos}(N':List Str)(js:List Nat)(nl:Nat)(sc:ý)(AI:X.env.scope=sc)(hcalm:X.calm=true)(hi:PI X.ϧ tg iter wi)(hg:∀cl C s H fp,PG (im X.ϧ N' scope cl C s H fp) tg g)(ht:∀cl C s H fp,Du (im X.ϧ N' scope cl C s H fp) ifs tt)(he:∀cl C s H fp,PE (im X.ϧ N' scope cl C s H fp) elt te)(hcap:ki X.ϧ sc scope N' js)(hlen:js.length+nl=N'.length)(hk:scope.kind=.function)(hcell:∀y∈scope.names,y.2=.cell->scope.names.lookup y.1=some .cell)(hnames:∀y∈scope.names,y.2=.local->scope.names.lookup y.1=some .local)(hfree:∀y∈scope.names,y.2=.free->(sc.names.lookup y.1=some .cell\/sc.names.lookup y.1=some .free))(hs:∀x,cR iter X.env x=ñ x)(I:Inv X.ϧ Ç j H s)(h:uV js nl wi g tt te j H KV)
 (mV:∀(D C:À) (m:Str->Option Á) (s6:Ä) (H5:Hp),s6.heap.Ns C m->(∀h',(∀b o,b≠C->s6.heap.get? b=some o->h'.get? b=some o)->Inv X.ϧ Ç j H5 {s6 with heap:=h'})->C≠X.ϧ.env.locals->(∀x c,X.ϧ.env.cells.lookup x=some c->c≠C)->(∀p∈X.ϧ.pn++Ç,p.1≠C)->H5 C=none->X.ϧ.s₀.heap.objs.size<=C->KV (.ref D) H5->∀r,compPost (Ü X.prog X.w) X.A X.ϧ.xe use QQ (.ref D) C (.ok r) s6):
 Ï (Ü X.prog X.w) X.A (comprehension (.ListComp elt [⟨tg,iter,ifs,0⟩] scope pos) scope X.ϧ.env pp (newList []) false (eval iter X.ϧ.env) use) QQ X.ϧ.xe s:=by
 obtain⟨VX,c1,c2,c3⟩:=xw (scope:=scope) (env:=X.ϧ.env) λy hy hf=>I.ok.has y.1 (by
  have:=hfree y hy hf;rw[<-AI]at this;exact this)
 refine wpAny_comprehension_free (use:=use) rfl hs c1 hk hnames<|ϙ (hi Ç s j H _ I h) λv s1 h1=>ϙ h1 λQqq4 s2 h2=>?_;obtain⟨it,fp,tn,J,H2,e,I2,T,FX,f2,q2⟩:=h2;subst e;refine wA<|uC<|λh₁ K6 qw RK=>?_;dsimp only at K6 qw RK⊢;generalize RL:s2.heap.push {cls:=.type "list",dict:=none,data:=.seq ([]:List Á).toArray}=uX at K6 qw RK⊢;have hD:H2 s2.heap.objs.size=none:=I2.hok.fresh<|ø _;have I3:Inv X.ϧ Ç j (upd H2 s2.heap.objs.size<|.lst []) {s2 with heap:=uX}:=by rw[<-RL];exact I2.laid (t':=s2.toks) (λb u e=>ă _ e) (ø _) ⟨dS _,[],0,.nil,Į _ rfl⟩
 have Ll:∀b∈fp,b<s2.heap.objs.size:=λb hb=>by obtain⟨o,ho,_⟩:=T.obj 0 _ FX b hb;exact ā ho
 have RP:uX.objs.size=s2.heap.objs.size+1:=by rw[<-RL,Ϧ]
 have f3:∀b∈fp,my X.ϧ Ç (upd H2 s2.heap.objs.size<|.lst []) b:=λb hb=>by obtain⟨g0,g1⟩:=f2 b hb;exact⟨by rw[õ<|ŏ<|Ll b hb];exact g0,g1⟩
 have B:=JO (X:=X.ϧ) (cl:=VX) hcell c2 c3 (λx c e=>by obtain⟨v,o,ho,_⟩:=I3.cell x c e;exact ā ho) RK;generalize Ś (uX.objs.size+1) scope.names VX=cl at B⊢;obtain⟨W,⟨m0,w0⟩,turn⟩:=q2 s2.heap.objs.size hD;have I4:=CP (X:=X.ϧ) (N':=N') (js:=js) (nl:=nl) (sc:=sc) (scope:=scope) (cl:=cl) (fp:=fp) (h':=h₁) (tk:=s2.toks) AI hk hcap hlen B I3 f3 (λb hb=>by show b<uX.objs.size;rw[RP];exact qX<|Ll b hb) K6 qw;have VY:tn 0 h₁:=T.keep 0 _ _ FX λb hb o e=>qw b o (by rw[<-RL];exact ă _ e);have YQ:∀b∈fp,(upd H2 s2.heap.objs.size<|.lst []) b=none:=λb hb=>(f3 b hb).1;have stat:∀{H':Hp},(∀b∈fp,H' b=none)->∀b∈fp,my (im X.ϧ N' scope cl uX.objs.size {s2 with heap:=uX} (upd H2 s2.heap.objs.size<|.lst []) fp) [] H' b:=fun{H'} hn b hb=>by
  obtain⟨g0,g1,g2,g3,g4,g5⟩:=f3 b hb;refine⟨hn b hb,ŏ (by show b<uX.objs.size;rw[RP];exact qX<|Ll b hb),λz=>?_,.inl hb,λx c e=>by
   rcases B.at_ x c e with⟨q,_⟩|⟨q,_⟩
   ·exact g4 x c q
   ·exact cL (Nat.lt_trans (by show b<uX.objs.size;rw[RP];exact qX<|Ll b hb) q),λp hp=>absurd hp<|by simp[im]⟩
  rcases ö.mp (I3.xi b z)with z|z
  ·exact g1 z
  ·exact g2 z
 have loop:∀s₃:Ä,s₃={s2 with heap:=h₁}->
  fB (Ü X.prog X.w) X.A (.compLoop (.ListComp elt [⟨tg,iter,ifs,0⟩] scope pos) 0 (.ref it) (.ref s2.heap.objs.size)<|compEnvC scope cl uX.objs.size X.ϧ.env)
   (compPost (Ü X.prog X.w) X.A X.ϧ.xe use QQ (.ref s2.heap.objs.size) uX.objs.size) s₃:=by
  rintro s₃ rfl;refine xy (λn s'=>∃i l H',Inv (im X.ϧ N' scope cl uX.objs.size {s2 with heap:=uX} (upd H2 s2.heap.objs.size<|.lst []) fp) [] l H' s'/\tn i s'.heap/\(∀b∈fp,H' b=none)/\W i n l H') ?_ m0 ⟨0,_,_,I4,VY,YQ,w0⟩;rintro n s5 ⟨i,f,H5,I5,Li,O5,w5⟩;rcases turn i n f H5 w5 with⟨stop,qn⟩|⟨go,N,hN,step⟩
  ·refine ϙ (T.done (im X.ϧ N' scope cl uX.objs.size {s2 with heap:=uX} (upd H2 s2.heap.objs.size<|.lst []) fp) rfl rfl rfl hcalm i [] s5 f H5 (λ_ _=>False) I5 (stat O5) Li stop) λr s6 ⟨hr,I6⟩=>?_;subst hr;obtain⟨m,hm,_⟩:=I6.loc;exact mV _ _ m s6 H5 hm (λh' k=>Ad I3 f3 I6 k) (cL I3.lt) (λx c e z=>by
    obtain⟨v,o,ho,_⟩:=I3.cell x c e;exact absurd (ā ho) (by rw[z];exact dR _)) (λp hp z=>by
    have:=ā (I3.pin p hp).1;rw[z]at this;exact dR _ this) I6.free I3.sz qn _
  ·refine ϙ (T.item (im X.ϧ N' scope cl uX.objs.size {s2 with heap:=uX} (upd H2 s2.heap.objs.size<|.lst []) fp) rfl rfl rfl hcalm i [] s5 f H5 (λ_ _=>False) I5 (stat O5) Li go) λr s6 ⟨u,hr,h6⟩=>?_;subst hr;refine ϙ h6 λ_ s7 zz=>?_;obtain⟨x,H7,I7,r7,y7,RQ,YS⟩:=zz;have YT:=I7.pinned (stat YS)<|T.obj _ _ RQ;have again:∀{s8:Ä}{a:Ċ}{H8:Hp},Inv (im X.ϧ N' scope cl uX.objs.size {s2 with heap:=uX} (upd H2 s2.heap.objs.size<|.lst []) fp) ([]++sK fp s7.heap) a H8 s8->
    Inv (im X.ϧ N' scope cl uX.objs.size {s2 with heap:=uX} (upd H2 s2.heap.objs.size<|.lst []) fp) [] a H8 s8/\tn (i+1) s8.heap/\∀b∈fp,H8 b=none:=fun{s8 a H8} I8=>by
    refine⟨I8.og,T.keep _ _ _ RQ λb hb o e=>(I8.pin (b,o)<|bo _<|bo _<|jr hb e).1,λb hb=>?_⟩;obtain⟨o,e,d⟩:=T.obj _ _ RQ b hb;exact(I8.pin (b,o)<|bo _<|bo _<|jr hb e).2.1
   refine ϙ (hg cl _ _ _ fp _ s7 f H7 x u _ YT r7<|step x H7 y7) λ_ s8 zz=>?_;obtain⟨a,H8,I8,q8⟩:=zz;refine ϙ (ht cl _ _ _ fp _ s8 a H8 _ I8 q8) λc s9 zz=>?_;obtain⟨H9,I9,q9⟩:=zz;cases c with
   |false=>rw[if_neg bZ]at q9⊢;obtain⟨m',Vc,w9⟩:=hN _ _ q9;obtain⟨a1,a2,a3⟩:=again I9;exact⟨m',Vc,i+1,a,H9,a1,a2,a3,w9⟩|true=>rw[if_pos rfl]at q9⊢;refine ϙ (he cl _ _ _ fp _ s9 a H9 _ I9 q9) λyv Lm zz=>?_;obtain⟨y,YU,YV,r10,ys,e10,l10,w10⟩:=zz;refine ϙ (ϩ _ Lm a YU (.ref s2.heap.objs.size) [y] (.ref s2.heap.objs.size) [yv] (λ_ RS=>N a RS) YV rfl (.cons r10 .nil) ⟨_,ys,y,rfl,rfl,e10,l10,w10⟩) λ_ s11 zz=>?_;obtain⟨v11,RS,YW,_,Vd⟩:=zz;obtain⟨a1,a2,a3⟩:=again YW;obtain⟨m',Vc,Vd⟩:=hN _ _ Vd;exact⟨m',Vc,i+1,a,RS,a1,a2,a3,Vd⟩
 exact codeAny_compStart_list (loop _ rfl)<|T.self _ 0 _ _ _ VY<|loop _ rfl
def BC{X:Cx}{elt tg iter:È}{ifs:List È}{scope:ý}{pos:Pos}{wi:TI}{g:TG}{tt:TT}{te:TE}(N':List Str)(js:List Nat)(nl:Nat)(sc:ý)(AI:X.env.scope=sc)(hcalm:X.calm=true)(hi:PI X.ϧ tg iter wi)(hg:∀cl C s H fp,PG (im X.ϧ N' scope cl C s H fp) tg g)(ht:∀cl C s H fp,Du (im X.ϧ N' scope cl C s H fp) ifs tt)(he:∀cl C s H fp,PE (im X.ϧ N' scope cl C s H fp) elt te)(hcap:ki X.ϧ sc scope N' js)(hlen:js.length+nl=N'.length:=by rfl)(hk:scope.kind=.function:=by rfl)(hcell:∀y∈scope.names,y.2=.cell->scope.names.lookup y.1=some .cell:=by decide+kernel)(hnames:∀y∈scope.names,y.2=.local->scope.names.lookup y.1=some .local:=by decide+kernel)(hfree:∀y∈scope.names,y.2=.free->(sc.names.lookup y.1=some .cell\/sc.names.lookup y.1=some .free):=by decide+kernel)(hs:∀x,cR iter X.env x=ñ x:=by intro _;rfl):
 PE X.ϧ (.ListComp elt [⟨tg,iter,ifs,0⟩] scope pos) (uV js nl wi g tt te):=by
 intro Ç s a H Q I h;rw[eval_ListComp];exact uW N' js nl sc AI hcalm hi hg ht he hcap hlen hk hcell hnames hfree hs I h λD C m s6 H5 hm kp _ _ _ _ _ q r=>⟨m,hm,λh' Do=>⟨.ref D,H5,kp h'<|λb u hb e=>Do.extBut b u hb e,rfl,q⟩⟩
def Yk(z:Str):It:=⟨λi _=>i<z.cps.size,λi H x H'=>H'=H/\∃c,z.cps.toList[i]?=some c/\x=.str ⟨#[c]⟩,λi _=>i=z.cps.size⟩
def CQ{P:ë}{w:â}{K:Î}{tg:È}(it:À)(z:Str)(t:Tok)(ty:String)(hW:∀A:ì,A.handled=none->Walks P w A it [it] [it] z.cps.size (SignAt z) (λi h=>h.IsStrIter it ty z t i))(hS:∀(A:ì) (i:Nat) (s:Ä) (Q:Á->Ä->Prop) (E:Á->Ä->Prop),s.heap.IsStrIter it ty z t i->Q (.ref it) s->Ï (Ü P w) A (gw<|.ref it) Q E s)(ke:["enumerate","zip","dict_itemiterator","dict_reverseitemiterator","odict_iterator","itertools.zip_longest","itertools.pairwise"].contains ty=false):AG P w K tg (Yk z) [it] it (λi h=>h.IsStrIter it ty z t i) where
 mem:=by simp
 obj:=λi h st b hb=>by
  have e:b=it:=by simpa using hb
  subst e;obtain⟨o,e,c,d⟩:=st;exact⟨o,e,λv z=>by rw[d]at z;cases z⟩
 keep:=λi h h' st k=>by obtain⟨o,e,c,d⟩:=st;exact⟨o,k it (by simp) o e,c,d⟩
 item:=by intro X hP hw hK hc i Ç s a H E I hf st hg;subst hP hw hK;obtain⟨f0,f1,f2,f3,f4,f5⟩:=hf it (by simp);refine(hW X.A<|I.ok.hd hc).item i s _ _ hg st λv h' tk hv Dk kk=>?_;obtain⟨c,u,hcu,rfl⟩:=hv;have I1:Inv X Ç a H {s with heap:=h',toks:=tk}:=I.turned (λb o hb e=>kk b o (by simpa using hb) e) f0 f1 f3 f4 f5;obtain⟨o,e,cl,d⟩:=id Dk;exact⟨_,rfl,Bt (s:={s with heap:=h',toks:=tk}) e cl d ke ⟨.str ⟨#[c]⟩,H,I1,⟨u,rfl⟩,⟨rfl,c,by simpa using hcu,rfl⟩,Dk,λb hb=>(hf b hb).1⟩⟩
 done:=by intro X hP hw hK hc i Ç s a H E I hf st hg;subst hP hw hK;obtain⟨f0,f1,f2,f3,f4,f5⟩:=hf it (by simp);have e:i=z.cps.size:=hg;subst e;exact(hW X.A<|I.ok.hd hc).done s _ _ st λh' tk kk=>⟨rfl,I.turned (λb o hb e=>kk b o (by simpa using hb) e) f0 f1 f3 f4 f5⟩
 self:=hS
end M3
namespace M4
open PySem PySem.Spec PyProof.Rows L2 M2 M3
def GG{bs:List Bool}:∀{us:List Á},ł (bs.map V.bl) us->us=bs.map eh:=by
 induction bs with
 |nil=>intro us r;rw[ϟ]at r;cases r;rfl|cons b bs ih=>
  intro us r;rw[á]at r;cases r with
  |cons r1 r2=>cases r1;rw[ih r2];rfl
def all_range(bs:List Bool):(å (bs.map eh).toArray.size).all (λi=>bs.getD i false)=bs.all id:=by
 have e:(bs.map eh).toArray.size=bs.length:=by simp
 rw[e,gp];simp only[bp,Ϝ,id];constructor
 ·intro h b hb;obtain⟨i,hi,rfl⟩:=qJ.mp hb;have:=h i hi;rw[Ϡ,ũ hi]at this;exact this
 ·intro h i hi;rw[Ϡ,ũ hi];exact h _<|Ū hi
def yH(bs:List Bool):TruthOf prog w A (λi v=>(bs.map eh).toArray[i]?=some v) (λi=>bs.getD i false):=by
 intro i v s Q E hv hq;have HH:bs[i]?.map eh=some v:=by rw[<-ŗ];simpa using hv
 cases hb:bs[i]?with
 |none=>rw[hb]at HH;cases HH|some b=>rw[hb]at HH;cases HH;dsimp only at hq;rw[Ϡ,hb]at hq;exact fA hq
def JP(K:Î):List V->Hp->VK->Prop:=λxs H Q=>match xs with
 |[.ref p]=>∃bs:List Bool,ϱ K H p (bs.map V.bl)/\Q (.bl<|bs.all id) H|_=>False
def ii{X:Cx}(hc:X.calm=true):ő X (.builtin "all") (JP X.K):=by
 intro Ç s a H xs us Q I r h;unfold JP at h;split at h
 ·rename_i p;obtain⟨bs,hS,q⟩:=h;obtain⟨u,rfl,ru⟩:=vals1 r;cases ru;obtain⟨ď,rv,pl,hz⟩:=I.list hS;have e:=GG rv;subst e;have hp:p≠s.heap.objs.size:=by
   obtain⟨o,n,e,_⟩:=pl;exact ŏ<|ā e
  refine call_all_walk<|ll pl.isList ?_;refine⟨s.heap.objs.size,_,_,_,_,_,_,rfl,Walks.list (A:=X.A.in1) (show X.A.in1.handled=none from I.ok.hd hc) s.heap.objs.size p hp (bs.map eh).toArray,⟨⟨_,Į _ rfl,rfl,rfl⟩,pl.isList.at λo e=>ă _ e⟩,yH bs,λh' tk k=>?_⟩;rw[all_range];exact⟨.bl _,H,I.kept λb o e=>k b o (by simpa using ŏ (ā e))<|ă _ e,rfl,q⟩
 ·exact h.elim
noncomputable abbrev S(l:List Nat):Str:=⟨l.toArray⟩
def JQ(z:Str):S z.cps.toList=z:=by cases z;simp
def H0(l:List Nat):(S l).length=l.length:=by simp[cj]
def pR(z:Str):z.cps.toList.length=z.length:=by simp[cj]
def Ia(a b:List Nat):S a++S b=S (a++b):=by refine A4 ?_;rw[PySem.W.KT.app_list]
def xz(xs:List Nat)(lo hi:Option Int):List Nat:=(xs.drop<|HT.lC xs.length 0 lo).take (HT.lC xs.length xs.length hi-HT.lC xs.length 0 lo)
def FG(z:Str)(lo hi:Option Int):lw lo hi 1 z.length=(å<|HT.lC z.length z.length hi-HT.lC z.length 0 lo).map (HT.lC z.length 0 lo+·):=by
 have hc:∀(o:Option Int) (d:Nat),d<=z.length->(match o with|none=>((d:Nat):Int)|some i=>max 0<|min (if i<0then i+(z.length:Int)else i) (z.length:Int))=((HT.lC z.length d o:Nat):Int):=by
  intro o d hd;cases o with
  |none=>rfl|some i=>
   show max 0 (min (if i<0then i+(z.length:Int)else i) (z.length:Int))=((if i<0then(i+(z.length:Int)).toNat else min i.toNat z.length:Nat):Int);by_cases h:i<0
   ·rw[if_pos h,if_pos h];lia
   ·rw[if_neg h,if_neg h];lia
 have e:lw lo hi 1 z.length=sliceRange ((HT.lC z.length 0 lo:Nat):Int) ((HT.lC z.length z.length hi:Nat):Int) 1:=by have h1:=hc lo 0<|dS _;have h2:=hc hi z.length<|ø _;unfold lw;simp only[show(1:Int)>0 by decide,if_true];rw[<-h1,<-h2];cases lo<;>cases hi<;>rfl
 rw[e,sliceRange_one]
def GH(z:Str)(lo hi:Option Int):(lw lo hi 1 z.length).filterMap (z.cps[·]?)=xz z.cps.toList lo hi:=by rw[FG,pick_run];unfold xz;rw[pR]
def GI(xs:List Nat)(lo hi:Option Int):(xz xs lo hi).length<=xs.length:=by unfold xz;rw[qH,List.length_drop];lia
def Er{z:Str}{l u:Option (Int×Tok)}{Q:Á->Ä->Prop}{s:Ä}(hz:z.length<=sizeLine)(h:∀t' k,Q (.str (S<|xz z.cps.toList (l.map (·.1))<|u.map (·.1)) t') {s with toks:=k}):(sliceMade z t l u none).post Q s:=by
 have e:=GH z (l.map (·.1))<|u.map (·.1);unfold sliceMade;have ep:slicePicked z l u none=lw (l.map (·.1)) (u.map (·.1)) 1 z.length:=rfl;rw[ep];split
 ·rename_i hc;have hl:(lw (l.map (·.1)) (u.map (·.1)) 1 z.length).length=z.length:=by simpa using hc
  have hz2:xz z.cps.toList (l.map (·.1)) (u.map (·.1))=z.cps.toList:=by
   rw[FG,ħ,vV]at hl;have hi:=HT.Ea z.length 0 (dS _)<|l.map (·.1);have hj:=HT.Ea z.length z.length (ø _)<|u.map (·.1);unfold xz;rw[pR];have zI:=pR z;have a0:HT.lC z.length 0 (l.map (·.1))=0\/z.length=0:=by lia
   rcases a0 with a0|a0
   ·rw[a0]at hl⊢;rw[qK];exact vW (by lia)
   ·have:z.cps.toList=[]:=vY (by lia);rw[this];simp
  have:=h t s.toks;rw[hz2,JQ]at this;exact this
 ·rw[e];exact⟨by rw[H0];have:=GI z.cps.toList (l.map (·.1))<|u.map (·.1);rw[pR]at this;lia,h _ _⟩
def RT:V->Option Int->Option Int->Hp->VK->Prop:=λx lo hi H Q=>match x with
 |.str z=>z.length<=sizeLine/\Q (.str<|S<|xz z.cps.toList lo hi) H|_=>False
def GJ:Bv X RT:=by
 intro Ç s a H x v vl vu lo hi sl Q I rx hs pl pu h;cases x with
 |str z=>
  obtain⟨t,rfl⟩:=rx;obtain⟨hz,q⟩:=h;obtain⟨l,el,el2⟩:∃l:Option (Int×Tok),partValue l=vl/\l.map (·.1)=lo:=by
   cases pl with
   |none=>exact⟨none,rfl,rfl⟩|int i t=>exact⟨some (i,t),rfl,rfl⟩
  obtain⟨u,eu,YX⟩:∃u:Option (Int×Tok),partValue u=vu/\u.map (·.1)=hi:=by
   cases pu with
   |none=>exact⟨none,rfl,rfl⟩|int i t=>exact⟨some (i,t),rfl,rfl⟩
  subst el el2 eu YX;exact⟨"str",_,F.slot_str_getitem.lookup,lh s z t,wpAny_getItem_str_slice (l:=l) (u:=u) (st:=none) hs rfl<|Er hz λt' k=>⟨.str _,H,I.tok _,⟨_,rfl⟩,q⟩⟩
 |_=>exact h.elim
def RU(K:Î):V->Option Int->Option Int->Hp->VK->Prop:=λx lo hi H Q=>match x with
 |.ref a=>∃xs,ϱ K H a xs/\∀p,H p=none->Q (.ref p) (upd H p<|.lst<|yE xs lo hi)|.str z=>z.length<=sizeLine/\Q (.str<|S<|xz z.cps.toList lo hi) H|_=>False
def YY:Bv X (RU X.K):=Bv.wk (En.or GJ) λx lo hi H Q h=>by
 cases x with
 |ref a=>exact .inl h|str z=>exact .inr h|_=>exact h.elim
def CS(z y:Str):Txt.startswith z y=decide (z.cps.toList.take y.cps.toList.length=y.cps.toList):=by
 unfold Txt.startswith;rw[StrLaws.subAt_eq,qK,pR,gp];simp only[Ă,decide_eq_true_eq,beq_iff_eq];constructor
 ·exact λh=>h.2
 ·intro h;refine⟨?_,h⟩;have h2:=congrArg cJ h;rw[qH,pR,pR]at h2;lia
def xA:V->List V->Hp->VK->Prop:=λx vs H Q=>match x,vs with
 |.str z,[.str y]=>Q (.bl<|decide<|z.cps.toList.take y.cps.toList.length=y.cps.toList) H|_,_=>False
def uY:H_ X "str.startswith" xA:=by
 intro Ç s a H x xs v us Q I rx rs h;unfold xA at h;split at h
 ·obtain⟨t,rfl⟩:=rx;obtain⟨u,rfl,t',rfl⟩:=vals1 rs;exact SC.startswith ⟨.bl _,H,I,rfl,by rw[CS];exact h⟩
 ·exact h.elim
def K7(z:Str){n:Int}(h:0<=n):Txt.mul z n=S (Ù n.toNat z.cps.toList).flatten:=by
 have key:∀(k:Nat) (acc:Array Nat),((Ù k z.cps).foldl (·++·) acc).toList=acc.toList++(Ù k z.cps.toList).flatten:=by
  intro k
  induction k with
  |zero=>intro acc;simp|succ k ih=>intro acc;rw[vZ,ϡ,ih,vZ,List.flatten_cons];simp
 unfold Txt.mul;refine A4 ?_;by_cases h1:n<1
 ·rw[if_pos h1];have:n.toNat=0:=by lia
  rw[this];simp[Str.empty]
 ·rw[if_neg h1];split
  ·rename_i hc;rw[m_]at hc;rcases hc with hc|hc
   ·have:n=1:=by simpa using hc
    subst this;simp
   ·have h0:z.cps.toList=[]:=vY (by rw[pR];simpa using hc);rw[h0];simp
  ·rw[key];simp
def Es(z:Str)(n:Int):Prop:=0<=n/\n<=1000/\z.length<=1000
def Es.ok(h:Es z n):MulOk z n:=by
 obtain⟨h0,h1,h2⟩:=h;refine⟨?_,λhn _=>?_,λhn _=>?_⟩
 ·rw[decide_eq_false (by lia),decide_eq_false<|by lia];rfl
 ·have:(9000000000000000:Int)≤(2^63-1)/n:=by
   rw[AM<|by lia];lia
  lia
 ·have:z.length*n.toNat<=1000*1000:=bt h2 (by lia);unfold Builtin.Str.tooLong;simp;rw[dW];lia
def Eu:R2:=λx y H Q=>match x,y with
 |.int i,.int j=>uT i j/\Q (.int<|i*j) H|.str z,.int n=>Es z n/\Q (.str<|S (Ù n.toNat z.cps.toList).flatten) H|_,_=>False
def GK:aA X (ŀ .Mult) Eu:=by
 intro Ç s a H x y v u Q I rx ry h;unfold Eu at h;split at h
 ·exact JK Ç s a H _ _ v u Q I rx ry h
 ·obtain⟨t,rfl⟩:=rx;obtain⟨t',rfl⟩:=ry;exact SB.mul h.1.ok λt' k=>⟨.str _,H,I.tok _,⟨_,by rw[K7 _ h.1.1]⟩,h.2⟩
 ·exact h.elim
def ţ(sep:List Nat):List (List Nat)->List Nat
 |[]=>[]|[x]=>x|x::y::r=>x++sep++ţ sep (y::r)
theorem Cp(sep:Str):∀ys:List (List Nat),Str.join sep (ys.map S)=S (ţ sep.cps.toList ys)
 |[]=>rfl|[x]=>rfl|x::y::r=>by have ih:=Cp sep (y::r);show S x++sep++Str.join sep ((y::r).map S)=_;have e:ţ sep.cps.toList (x::y::r)=x++sep.cps.toList++ţ sep.cps.toList (y::r):=rfl;rw[ih,e,<-Ia,<-Ia,JQ]
def GL{ys:List (List Nat)}:∀{us:List Á},ł (ys.map λl=>V.str<|S l) us->StrsAre us (ys.map S):=by
 induction ys with
 |nil=>intro us r;rw[ϟ]at r;cases r;exact .nil|cons y ys ih=>
  intro us r;rw[á]at r;cases r with
  |cons r1 r2=>obtain⟨t,rfl⟩:=r1;exact .cons _ t<|ih r2
def Ev(K:Î):V->List V->Hp->VK->Prop:=λx vs H Q=>match x,vs with
 |.str z,[.ref p]=>∃ys:List (List Nat),ϱ K H p (ys.map λl=>V.str<|S l)/\(ys.map cJ).sum+ys.length*z.length<=16777216/\Q (.str<|S<|ţ z.cps.toList ys) H
 |_,_=>False
def sk:H_ X "str.join" (Ev X.K):=by
 intro Ç s a H x xs v us Q I rx rs h;unfold Ev at h;split at h
 ·obtain⟨ys,hS,hz,q⟩:=h;obtain⟨t,rfl⟩:=rx;obtain⟨u,rfl,ru⟩:=vals1 rs;cases ru;obtain⟨ď,rv,pl,_⟩:=I.list hS;refine join_list pl.isList (by simpa using GL rv) ?_ λt' k=>⟨.str _,H,I.tok _,⟨t',?_⟩,q⟩
  ·have e1:((ys.map S).map (·.length))=ys.map cJ:=by
    rw[Ğ];exact v_ λl _=>H0 l
   rw[e1,ħ];exact hz
  ·unfold Txt.join;rw[StrLaws.glued_eq_join,Cp]
 ·exact h.elim
end M4
namespace M5
open PySem PySem.Spec PyProof.Rows L2 M2 M3
end M5
namespace P
def RX:È->Bool
 |.Starred .. =>false|_=>true
def ŋ{e:È}{es:List È}{env:PySem.Env}(h:RX e=true):Ð (e::es) env=(false,wB e env)::Ð es env:=by cases e<;>first|rfl|cases h
def Ew{a b:È}{env:PySem.Env}(h:RX a=true)(h2:RX b=true):Ð [a,b] env=[(false,wB a env),(false,wB b env)]:=by rw[ŋ h,ŋ h2];rfl
open PySem PySem.Spec PyProof.Rows L2 M2
structure KK where
 K:Î
 cm:String->À
abbrev kk(X:Cx)(cm:String->À):KK:=⟨X.K,cm⟩
inductive PV where
 |non|bl (b:Bool)|int (i:Int)|str (x:Str)|tup (xs:List PV)|lst (xs:List PV)
 |ins (C:String) (ns:List Str) (xs:List PV)|xc (C:String) (ns:List Str) (xs:List PV)|ty (n:String)|cls (C:String)|Dx (ks:List Str) (xs:List PV)
def xo(a C:À)(d:Option À):HO:=.ext λh=>∃o vs,h.get? a=some o/\o.cls=.ref C/\o.dict=d/\o.data=.fields vs
def yI(F:Hp)(d:Option À)(fs:List (Str×V)):Prop:=(d=none/\fs=[])\/∃a,d=some a/\F a=some (.xd fs)
mutual
def Ĉ(K:KK)(F:Hp):PV->V->Prop
 |.non,v=>v=.non|.bl b,v=>v=.bl b|.int i,v=>v=.int i|.str x,v=>v=.str x|.tup ps,v=>∃a xs,v=.ref a/\fL K.K F a xs/\é K F ps xs|.lst ps,v=>∃a xs,v=.ref a/\ϱ K.K F a xs/\é K F ps xs|.ins C ns ps,v=>∃a dx fs,v=.ref a/\F a=some (.ins (K.cm C) dx fs)/\fs.map (·.1)=ns/\é K F ps (fs.map (·.2))|.xc C ns ps,v=>∃a d fs,v=.ref a/\F a=some (xo a (K.cm C) d)/\yI F d fs/\fs.map (·.1)=ns/\é K F ps (fs.map (·.2))|.ty n,v=>v=.ty n|.cls C,v=>v=.ref (K.cm C)|.Dx ks ps,v=>∃a us,v=.ref a/\F a=some (.dK us)/\us.map (·.1)=ks.map .inr/\é K F ps (us.map (·.2))
def é(K:KK)(F:Hp):List PV->List V->Prop
 |[],xs=>xs=[]|p::ps,xs=>∃x r,xs=x::r/\Ĉ K F p x/\é K F ps r
end
section
variable{K:KK}{F F':Hp}
def yI.same{d:Option À}{fs:List (Str×V)}(e:Þ F F')(h:yI F d fs):yI F' d fs:=by
 rcases h with h|⟨a,h1,h2⟩
 ·exact .inl h
 ·exact .inr ⟨a,h1,e _ _ h2⟩
mutual
theorem Ĉ.same(e:Þ F F'):∀(p:PV) (v:V),Ĉ K F p v->Ĉ K F' p v
 |.non,_,h=>by unfold Ĉ at h⊢;exact h|.bl _,_,h=>by unfold Ĉ at h⊢;exact h|.int _,_,h=>by unfold Ĉ at h⊢;exact h|.str _,_,h=>by unfold Ĉ at h⊢;exact h|.ty _,_,h=>by unfold Ĉ at h⊢;exact h|.cls _,_,h=>by unfold Ĉ at h⊢;exact h|.tup ps,_,h=>by unfold Ĉ at h⊢;obtain⟨a,xs,h1,h2,h3⟩:=h;exact⟨a,xs,h1,Þ.tup e h2,é.same e ps xs h3⟩|.lst ps,_,h=>by unfold Ĉ at h⊢;obtain⟨a,xs,h1,h2,h3⟩:=h;exact⟨a,xs,h1,e.seq h2,é.same e ps xs h3⟩|.ins C ns ps,_,h=>by unfold Ĉ at h⊢;obtain⟨a,dx,fs,h1,h2,h3,h4⟩:=h;exact⟨a,dx,fs,h1,e _ _ h2,h3,é.same e ps _ h4⟩|.xc C ns ps,_,h=>by unfold Ĉ at h⊢;obtain⟨a,d,fs,h1,h2,hd,h3,h4⟩:=h;exact⟨a,d,fs,h1,e _ _ h2,hd.same e,h3,é.same e ps _ h4⟩|.Dx ks ps,_,h=>by unfold Ĉ at h⊢;obtain⟨a,us,h1,h2,h3,h4⟩:=h;exact⟨a,us,h1,e _ _ h2,h3,é.same e ps _ h4⟩
theorem é.same(e:Þ F F'):∀(ps:List PV) (xs:List V),é K F ps xs->é K F' ps xs
 |[],_,h=>by unfold é at h⊢;exact h|p::ps,_,h=>by unfold é at h⊢;obtain⟨x,r,h1,h2,h3⟩:=h;exact⟨x,r,h1,Ĉ.same e p x h2,é.same e ps r h3⟩
end
theorem é.pr:∀{ps:List PV}{vs:List V},é K F ps vs->Paired (Ĉ K F) ps vs
 |[],_,h=>by unfold é at h;subst h;exact .nil|p::ps,_,h=>by unfold é at h;obtain⟨x,r,rfl,h2,h3⟩:=h;exact .cons h2<|é.pr h3
theorem é.of:∀{ps:List PV}{vs:List V},Paired (Ĉ K F) ps vs->é K F ps vs
 |[],_,.nil=>by unfold é;rfl|p::ps,_,.cons h t=>by unfold é;exact⟨_,_,rfl,h,é.of t⟩
theorem é.nil:é K F [] []:=é.of .nil
theorem é.cons{p:PV}{v:V}{ps:List PV}{vs:List V}(h:Ĉ K F p v)(t:é K F ps vs):é K F (p::ps) (v::vs):=é.of<|.cons h t.pr
theorem é.length{ps:List PV}{vs:List V}(h:é K F ps vs):ps.length=vs.length:=Paired.length h.pr
theorem dJ{α β:Type}{G:α->β->Prop}:∀{l:List α}{m:List β}{i:Nat}{x:α},Paired G l m->l[i]?=some x->∃y,m[i]?=some y/\G x y
 |_,_,_,_,.nil,e=>by simp at e|_,_,0,_,.cons r _,e=>by simp at e;subst e;exact⟨_,rfl,r⟩|_,_,i+1,x,.cons _ t,e=>by obtain⟨y,h1,h2⟩:=dJ (i:=i) (x:=x) t (by simpa using e);exact⟨y,by simpa using h1,h2⟩
theorem BD{α β:Type}{G:α->β->Prop}:∀{l:List α}{m:List β}{i:Nat}{y:β},Paired G l m->m[i]?=some y->∃x,l[i]?=some x/\G x y
 |_,_,_,_,.nil,e=>by simp at e|_,_,0,_,.cons r _,e=>by simp at e;subst e;exact⟨_,rfl,r⟩|_,_,i+1,y,.cons _ t,e=>by obtain⟨x,h1,h2⟩:=BD (i:=i) (y:=y) t (by simpa using e);exact⟨x,by simpa using h1,h2⟩
theorem xB{α β:Type}{G:α->β->Prop}:∀{l l2:List α}{m m2:List β},Paired G l m->Paired G l2 m2->Paired G (l++l2) (m++m2)
 |_,_,_,_,.nil,t=>t|_,_,_,_,.cons r s,t=>.cons r<|xB s t
theorem Ey{α β:Type}{G:α->β->Prop}{x:α}{y:β}(r:G x y):∀{l:List α}{m:List β} (i:Nat),Paired G l m->Paired G (l.set i x) (m.set i y)
 |_,_,_,.nil=>.nil|_,_,0,.cons _ t=>.cons r t|_,_,i+1,.cons q t=>.cons q<|Ey r i t
theorem BE{α β:Type}{G:α->β->Prop}:∀{l:List α}{m:List β} (n:Nat),Paired G l m->Paired G (l.take n) (m.take n)
 |_,_,0,_=>.nil|_,_,_+1,.nil=>.nil|_,_,n+1,.cons r t=>.cons r<|BE n t
theorem BF{α β:Type}{G:α->β->Prop}:∀{l:List α}{m:List β} (n:Nat),Paired G l m->Paired G (l.drop n) (m.drop n)
 |_,_,0,h=>h|_,_,_+1,.nil=>.nil|_,_,n+1,.cons _ t=>BF n t
def é.append{ps qs:List PV}{vs us:List V}(h:é K F ps vs)(t:é K F qs us):é K F (ps++qs) (vs++us):=é.of<|xB h.pr t.pr
end
inductive Slot where
 |no|sh (p:PV)|ow (ps:List PV)|bw (ps:List PV)|rc (C:String) (ns:List Str) (ps:List PV)|ot (ps qs rs:List PV)|ol (pS:List (List PV))|fr (pS:List (List PV))|bn (qs rows:List PV)|dw (gL:List (List PV×List PV))|pw (ps:List PV)|pin
abbrev ċ:=List Slot
abbrev Ű:=Slot
def Slot.own:Slot->Bool
 |.ow _=>true|.rc _ _ _=>true|.ot _ _ _=>true|.ol _=>true|.fr _=>true|.pw _=>true|.pin=>true|_=>false
structure Ctx where
 B:Hp
 F₀:Hp
 L:Hp
 S:À->À->String->Prop
def Ib(F:Hp)(a b:À):Hp:=λx=>if x=a\/x=b then none else F x
def mE(K:KK)(B F:Hp)(t:Bool)(ps qs rows:List PV)(v:V):Prop:=∃a b ys vs,F a=some (.lst (.ref b::ys))/\F b=some (.lst vs)/\B a=none/\B b=none/\a≠b/\é K (Ib F a b) qs vs/\é K (Ib F a b) rows ys/\((t=false/\ps=[]/\v=.ref a)\/t=true/\∃p xs,v=.ref p/\F p=some (.tup<|xs++[.ref a])/\é K (Ib F a b) ps xs)
def aT(K:KK)(c:Ctx)(F H:Hp)(o:Option V):Slot->Prop
 |.no=>True|.sh p=>∃v,o=some v/\Ĉ K F p v|.ow ps=>∃a vs,o=some (.ref a)/\H a=some (.lst vs)/\F a=none/\c.B a=none/\é K F ps vs|.bw ps=>∃a vs,o=some (.ref a)/\c.L a=some (.lst vs)/\é K F ps vs|.rc C ns ps=>∃a dx fs,o=some (.ref a)/\H a=some (.ins (K.cm C) dx fs)/\F a=none/\c.B a=none/\fs.map (·.1)=ns/\é K F ps (fs.map (·.2))/\c.S a dx C|.ot ps qs rs=>∃p a xs vs ys,o=some (.ref p)/\F p=some (.tup (xs++.ref a::ys))/\é K F ps xs/\H a=some (.lst vs)/\F a=none/\c.B a=none/\é K F qs vs/\é K F rs ys|.ol pS=>∃(p:À) (as:List À),o=some (.ref p)/\F p=some (.lst<|as.map V.ref)/\as.Nodup/\Paired (λ(a:À) (ps:List PV)=>∃vs,H a=some (.lst vs)/\F a=none/\c.B a=none/\é K F ps vs) as pS
 |.fr pS=>∃(p:À) (as:List À),o=some (.ref p)/\H p=some (.lst<|as.map V.ref)/\F p=none/\c.B p=none/\as.Nodup/\Paired (λ(a:À) (ps:List PV)=>∃vs,F a=some (.lst vs)/\c.B a=none/\é K F ps vs) as pS
 |.bn qs rows=>∃v,o=some v/\mE K c.B F false [] qs rows v|.pw ps=>∃a vs,o=some (.ref a)/\H a=some (.lst vs)/\F a=none/\c.B a=none/\é K F ps vs/\c.S a a ""|.pin=>∃a,o=some (.ref a)/\c.S a a "#"|.dw gL=>∃(a:À) (ts:List À),o=some (.ref a)/\c.L a=some (.lst<|ts.map V.ref)/\Paired (λ(t:À) (d:List PV×List PV)=>∃xs b vs,F t=some (.tup<|xs++[.ref b])/\é K F d.1 xs/\c.L b=some (.lst vs)/\é K F d.2 vs) ts gL
def Slot.at_(F:Hp)(x:V)(a:À):Slot->Prop
 |.ot ps _ _=>∃p xs ys,x=.ref p/\F p=some (.tup (xs++.ref a::ys))/\xs.length=ps.length|.ol _=>∃(p:À) (as:List À),x=.ref p/\F p=some (.lst<|as.map V.ref)/\a∈as|.ow _=>x=.ref a|.fr _=>x=.ref a|.pw _=>x=.ref a|.rc _ _ _=>x=.ref a|_=>False
def Ŭ(F:Hp)(b:Ċ)(U:ċ)(i:Nat)(a:À):Prop:=∃s x,U[i]?=some s/\b[i]?=some (some x)/\s.at_ F x a
structure ĝ(K:KK)(c:Ctx)(F H:Hp)(σ:Ċ)(U:ċ):Prop where
 sub:Þ F H
 base:Þ c.B H
 f0:Þ c.F₀ F
 fP:∀a,c.B a≠none->c.F₀ a=none->F a=none
 lent:∀a u,c.L a=some u->H a=some u/\F a=none
 lb:∀a,c.B a=none->c.L a=none
 len:σ.length=U.length
 slot:∀(i:Nat) s,U[i]?=some s->aT K c F H ((σ[i]?).getD none) s
 sep:∀i j a,Ŭ F σ U i a->Ŭ F σ U j a->i=j
def ir(F:Hp)(b:Ċ)(U:ċ)(a:À):Prop:=∀i,¬Ŭ F b U i a
section
variable{K:KK}{c:Ctx}{F F' H H':Hp}{σ:Ċ}{U:ċ}{a:À}{o:HO}
def mF{s:Slot}{x:V}(h:s.at_ F x a):s.own=true:=by cases s<;>first|rfl|exact h.elim
theorem sQ:∀{as bs:List À},as.map V.ref=bs.map V.ref->as=bs
 |[],[],_=>rfl|[],_::_,h=>by cases h|_::_,[],h=>by cases h|a::as,b::bs,h=>by
  injection h with h1 h2
  injection h1 with h1
  rw[h1,sQ h2]
def om{ps qs rs:List PV}{x:V}{b:À}(h:(Slot.ot ps qs rs).at_ F x a)(h':(Slot.ot ps qs rs).at_ F x b):a=b:=by
 obtain⟨p,xs,us,h1,h2,l1⟩:=h;obtain⟨q,ys,ws,h3,h4,l2⟩:=h';rw[h1]at h3;cases h3;rw[h2]at h4;have e:xs++V.ref a::us=ys++V.ref b::ws:=by
  injection h4 with h4
  injection h4
 have e2:=(List.append_inj e<|by lia).2;injection e2 with e2
 injection e2
theorem Ez{α β:Type}{G:α->β->Prop}:∀{l:List α}{m:List β}{x:α},Paired G l m->x∈l->∃y,y∈m/\G x y
 |_,_,_,.nil,h=>by simp at h|_,_,x,.cons r t,h=>by
  rcases ö.mp h with rfl|h
  ·exact⟨_,ϝ,r⟩
  ·obtain⟨y,h1,h2⟩:=Ez t h;exact⟨y,ð _ h1,h2⟩
theorem lO{α β:Type}{G G':α->β->Prop}:∀{l:List α}{m:List β},Paired G l m->(∀x y,x∈l->G x y->G' x y)->Paired G' l m
 |_,_,.nil,_=>.nil|_,_,.cons r t,h=>.cons (h _ _ ϝ r)<|lO t λx y hx=>h x y<|ð _ hx
def sR{a b:À}(e:Þ F F'):Þ (Ib F a b) (Ib F' a b):=λx u h=>by
 unfold Ib at h⊢;split at h
 ·cases h
 ·rename_i n;rw[if_neg n];exact e x u h
def xC{a b:À}:Þ (Ib F a b) F:=λx u h=>by
 unfold Ib at h;split at h
 ·cases h
 ·exact h
theorem mE.same{B:Hp}{t:Bool}{ps qs rows:List PV}{v:V}(h:mE K B F t ps qs rows v)(e:Þ F F'):mE K B F' t ps qs rows v:=by obtain⟨a,b,ys,vs,h1,h2,h3,h4,h5,h6,h7,h8⟩:=h;refine⟨a,b,ys,vs,e _ _ h1,e _ _ h2,h3,h4,h5,h6.same (sR e) qs vs,h7.same (sR e) rows ys,h8.imp id λ⟨z,p,xs,q1,q2,q3⟩=>⟨z,p,xs,q1,e _ _ q2,q3.same (sR e) ps xs⟩⟩
def mE.base{B B':Hp}{t:Bool}{ps qs rows:List PV}{v:V}(h:mE K B F t ps qs rows v)(e:Þ B' B):mE K B' F t ps qs rows v:=by obtain⟨a,b,ys,vs,h1,h2,h3,h4,h5,h6,h7,h8⟩:=h;exact⟨a,b,ys,vs,h1,h2,e.free h3,e.free h4,h5,h6,h7,h8⟩
noncomputable def O9(t:Bool)(ps qs rows:List PV):PV:=if t then .tup (ps++[.lst (.lst qs::rows)])else .lst (.lst qs::rows)
def mE.rep{B:Hp}{t:Bool}{ps qs rows:List PV}{v:V}(h:mE K B F t ps qs rows v):Ĉ K F (O9 t ps qs rows) v:=by
 obtain⟨a,b,ys,vs,h1,h2,h3,h4,h5,h6,h7,h8⟩:=h;have e1:Ĉ K F (.lst qs) (.ref b):=by unfold Ĉ;exact⟨b,vs,rfl,ϱ.of h2,h6.same xC qs vs⟩
 have e2:Ĉ K F (.lst (.lst qs::rows)) (.ref a):=by unfold Ĉ;exact⟨a,_,rfl,ϱ.of h1,é.cons e1<|h7.same xC rows ys⟩
 rcases h8 with⟨rfl,rfl,rfl⟩|⟨rfl,p,xs,rfl,q2,q3⟩
 ·exact e2
 ·show Ĉ K F (.tup<|ps++[.lst (.lst qs::rows)]) (.ref p);unfold Ĉ;exact⟨p,_,rfl,fL.of q2,é.append (q3.same xC ps xs)<|é.cons e2 é.nil⟩
def aT.grow{s:Slot}{x:Option V}(h:aT K c F H x s)(eF:Þ F F')(eH:∀b vs,(∃y,x=some y/\s.at_ F y b)->H b=some vs->F b=none->c.B b=none->H' b=some vs/\F' b=none):aT K c F' H' x s:=by
 cases s with
 |no=>trivial|sh p=>obtain⟨v,h1,h2⟩:=h;exact⟨v,h1,h2.same eF p v⟩|ow ps=>obtain⟨b,vs,h1,h2,h3,h4,h5⟩:=h;obtain⟨e1,e2⟩:=eH b _ ⟨_,h1,rfl⟩ h2 h3 h4;exact⟨b,vs,h1,e1,e2,h4,h5.same eF ps vs⟩|bw ps=>obtain⟨b,vs,h1,h2,h3⟩:=h;exact⟨b,vs,h1,h2,h3.same eF ps vs⟩|rc C ns ps=>obtain⟨b,dx,fs,h1,h2,h3,h4,h5,h6⟩:=h;obtain⟨e1,e2⟩:=eH b _ ⟨_,h1,rfl⟩ h2 h3 h4;exact⟨b,dx,fs,h1,e1,e2,h4,h5,h6.1.same eF ps _,h6.2⟩|ot ps qs rs=>obtain⟨p,b,xs,vs,ys,h1,h2,h3,h4,h5,h6,h7,h8⟩:=h;obtain⟨e1,e2⟩:=eH b _ ⟨_,h1,p,xs,ys,rfl,h2,h3.length.symm⟩ h4 h5 h6;exact⟨p,b,xs,vs,ys,h1,eF _ _ h2,h3.same eF ps xs,e1,e2,h6,h7.same eF qs vs,h8.same eF rs ys⟩|ol pS=>obtain⟨p,as,h1,h2,h3,h4⟩:=h;refine⟨p,as,h1,eF _ _ h2,h3,lO h4 λb ps hb zz=>?_⟩;obtain⟨vs,k1,k2,k3,k4⟩:=zz;obtain⟨e1,e2⟩:=eH b _ ⟨_,h1,p,as,rfl,h2,hb⟩ k1 k2 k3;exact⟨vs,e1,e2,k3,k4.same eF ps vs⟩
 |fr pS=>obtain⟨b,as,h1,h2,h3,h4,h5,h6⟩:=h;obtain⟨e1,e2⟩:=eH b _ ⟨_,h1,rfl⟩ h2 h3 h4;exact⟨b,as,h1,e1,e2,h4,h5,lO h6 λd ps _ ⟨vs,k1,k2,k3⟩=>⟨vs,eF _ _ k1,k2,k3.same eF ps vs⟩⟩
 |bn qs rows=>obtain⟨v,h1,h2⟩:=h;exact⟨v,h1,h2.same eF⟩|pin=>exact h|pw ps=>obtain⟨b,vs,h1,h2,h3,h4,h5,h6⟩:=h;obtain⟨e1,e2⟩:=eH b _ ⟨_,h1,rfl⟩ h2 h3 h4;exact⟨b,vs,h1,e1,e2,h4,h5.same eF ps vs,h6⟩|dw gL=>obtain⟨a,ts,h1,h2,h3⟩:=h;exact⟨a,ts,h1,h2,lO h3 λt d _ ⟨xs,b,vs,k1,k2,k3,k4⟩=>⟨xs,b,vs,eF _ _ k1,k2.same eF d.1 xs,k3,k4.same eF d.2 vs⟩⟩
def aT.owned{s:Slot}{y:V}(h:aT K c F H (some y) s)(ha:s.at_ F y a):∃u,H a=some u/\F a=none/\c.B a=none:=by
 cases s with
 |no=>exact ha.elim|sh p=>exact ha.elim|bw ps=>exact ha.elim|bn qs rows=>exact ha.elim|dw gL=>exact ha.elim|pin=>exact ha.elim|pw ps=>obtain⟨b,vs,h1,h2,h3,h4,h5,h6⟩:=h;rw[show y=.ref a from ha]at h1;cases h1;exact⟨_,h2,h3,h4⟩|fr pS=>obtain⟨b,as,h1,h2,h3,h4,h5,h6⟩:=h;rw[show y=.ref a from ha]at h1;cases h1;exact⟨_,h2,h3,h4⟩|ow ps=>obtain⟨b,vs,h1,h2,h3,h4,h5⟩:=h;rw[show y=.ref a from ha]at h1;cases h1;exact⟨_,h2,h3,h4⟩|rc C ns ps=>obtain⟨b,dx,fs,h1,h2,h3,h4,h5,h6⟩:=h;rw[show y=.ref a from ha]at h1;cases h1;exact⟨_,h2,h3,h4⟩|ot ps qs rs=>obtain⟨p,b,xs,vs,ys,h1,h2,h3,h4,h5,h6,h7,h8⟩:=h;cases h1;cases om (ps:=ps) (qs:=qs) (rs:=rs) ha ⟨p,xs,ys,rfl,h2,h3.length.symm⟩;exact⟨_,h4,h5,h6⟩|ol pS=>obtain⟨p,as,h1,h2,h3,h4⟩:=h;cases h1;obtain⟨q,bs,e1,e2,e3⟩:=ha;cases e1;rw[h2]at e2;have e:as=bs:=sQ (by injection e2 with e2;injection e2);subst e;obtain⟨ps,_,vs,k1,k2,k3,_⟩:=Ez h4 e3;exact⟨_,k1,k2,k3⟩
def aT.back{s:Slot}{y:V}(h:aT K c F H (some y) s)(e:Þ F F')(ha:s.at_ F' y a):s.at_ F y a:=by
 cases s with
 |ot ps qs rs=>obtain⟨p,b,xs,vs,ys,h1,h2,h3,h4,h5,h6,h7,h8⟩:=h;cases h1;cases om (ps:=ps) (qs:=qs) (rs:=rs) ha ⟨p,xs,ys,rfl,e _ _ h2,h3.length.symm⟩;exact⟨p,xs,ys,rfl,h2,h3.length.symm⟩|ol pS=>obtain⟨p,as,h1,h2,h3,h4⟩:=h;cases h1;obtain⟨q,bs,e1,e2,e3⟩:=ha;cases e1;rw[e _ _ h2]at e2;have z:as=bs:=sQ (by injection e2 with e2;injection e2);subst z;exact⟨p,as,rfl,h2,e3⟩
 |_=>exact ha
def jy{i:Nat}{x:V}(e:σ[i]?=some (some x)):(σ[i]?).getD none=some x:=by rw[e];rfl
def Ae{i:Nat}{x:V}(e:(σ[i]?).getD none=some x):σ[i]?=some (some x):=by
 cases q:σ[i]?with
 |none=>rw[q]at e;cases e|some y=>rw[q]at e;exact congrArg some e
theorem ĝ.owned(r:ĝ K c F H σ U){i:Nat}(h:Ŭ F σ U i a):(∃u,H a=some u)/\F a=none/\c.B a=none:=by obtain⟨s,x,h1,h2,h3⟩:=h;have q:=r.slot i s h1;rw[jy h2]at q;obtain⟨u,q⟩:=q.owned h3;exact⟨⟨u,q.1⟩,q.2⟩
theorem ĝ.back(r:ĝ K c F H σ U)(e:Þ F F'){i:Nat}(h:Ŭ F' σ U i a):Ŭ F σ U i a:=by obtain⟨s,x,h1,h2,h3⟩:=h;have q:=r.slot i s h1;rw[jy h2]at q;exact⟨s,x,h1,h2,q.back e h3⟩
def ĝ.JS(r:ĝ K c F H σ U)(e:Þ F F'):∀i j a,Ŭ F' σ U i a->Ŭ F' σ U j a->i=j:=λi j a h1 h2=>r.sep i j a (r.back e h1)<|r.back e h2
def ĝ.mG(r:ĝ K c F H σ U)(e:Þ F F')(h:ir F σ U a):ir F' σ U a:=λi q=>h i<|r.back e q
def ĝ.fresh(r:ĝ K c F H σ U)(h:H a=none):ir F σ U a:=λi q=>by obtain⟨⟨u,e⟩,_⟩:=r.owned q;rw[h]at e;cases e
def ĝ.alloc(r:ĝ K c F H σ U)(h:H a=none):ĝ K c (upd F a o) (upd H a o) σ U where
 sub:=λb u e=>by
  by_cases hb:b=a
  ·subst hb;rw[ą]at e⊢;exact e
  ·rw[õ hb]at e⊢;exact r.sub b u e
 base:=λb u e=>by
  have hb:b≠a:=λz=>by rw[z]at e;rw[r.base _ _ e]at h;cases h
  rw[õ hb];exact r.base b u e
 f0:=fun b u e=>by
   have hb:b≠a:=λz=>by rw[z]at e;rw[r.sub _ _<|r.f0 _ _ e]at h;cases h
   rw[õ hb];exact r.f0 b u e
 fP:=λb h1 h2=>by
  have hb:b≠a:=λz=>by
   subst z;cases q:c.B b with
   |none=>exact h1 q|some u=>rw[r.base _ _ q]at h;cases h
  rw[õ hb];exact r.fP b h1 h2
 lent:=λb u e=>by
  obtain⟨h1,h2⟩:=r.lent b u e;have hb:b≠a:=λz=>by rw[z,h]at h1;cases h1
  rw[õ hb,õ hb];exact⟨h1,h2⟩
 lb:=r.lb
 len:=r.len
 slot:=λi s e=>by
  have hF:F a=none:=r.sub.free h;refine(r.slot i s e).grow (Þ.upd hF) λb u _ h1 h2 h3=>?_;have hb:b≠a:=λz=>by rw[z,h]at h1;cases h1
  rw[õ hb,õ hb];exact⟨h1,h2⟩
 sep:=r.JS<|Þ.upd<|r.sub.free h
def ĝ.made(r:ĝ K c F H σ U)(h:H a=none):ĝ K c F (upd H a o) σ U where
 sub:=r.sub.trans (Þ.upd h)
 base:=r.base.trans (Þ.upd h)
 f0:=r.f0
 fP:=r.fP
 lent:=λb u e=>⟨Þ.upd h b u (r.lent b u e).1,(r.lent b u e).2⟩
 lb:=r.lb
 len:=r.len
 slot:=λi s e=>(r.slot i s e).grow (Þ.refl F) λb u _ h1 h2 h3=>⟨Þ.upd h b u h1,h2⟩
 sep:=r.sep
def ĝ.freeze(r:ĝ K c F H σ U)(h:H a=some o)(hB:c.B a=none)(hF:F a=none)(hf:ir F σ U a):ĝ K c (upd F a o) H σ U where
 sub:=λb u e=>by
  by_cases hb:b=a
  ·subst hb;rw[ą]at e;rw[h];exact e
  ·rw[õ hb]at e;exact r.sub b u e
 base:=r.base
 f0:=r.f0.trans (Þ.upd hF)
 fP:=λb h1 h2=>by have hb:b≠a:=λz=>h1 (by rw[z];exact hB);rw[õ hb];exact r.fP b h1 h2
 lent:=λb u e=>by
  have hb:b≠a:=λz=>by rw[z,r.lb a hB]at e;cases e
  rw[õ hb];exact r.lent b u e
 lb:=r.lb
 len:=r.len
 slot:=λi s e=>(r.slot i s e).grow (Þ.upd hF)<|by
  rintro b' u' ⟨y,Ve,ha⟩ h1 h2 h3;have hb:b'≠a:=λz=>by subst z;exact hf i ⟨s,y,e,Ae Ve,ha⟩
  rw[õ hb];exact⟨h1,h2⟩
 sep:=r.JS<|Þ.upd hF
def ϶{α:Type}{l:List α}{i j:Nat}{x y:α}(h:(l.set i x)[j]?=some y):(j=i/\y=x/\i<l.length)\/(j≠i/\l[j]?=some y):=by
 by_cases hj:j=i
 ·subst hj;have hl:j<l.length:=by
   have:=(fh.mp h).1;simpa using this
  rw[nh hl]at h;exact .inl ⟨rfl,(š h).symm,hl⟩
 ·rw[i_<|Ē hj]at h;exact .inr ⟨hj,h⟩
def EA{l:Ċ}{i:Nat}{x:Option V}(h:i<l.length):((l.set i x)[i]?).getD none=x:=by rw[nh h];rfl
def BG{l:Ċ}{i j:Nat}{x:Option V}(h:j≠i):((l.set i x)[j]?).getD none=(l[j]?).getD none:=by rw[i_<|Ē h]
def Ŭ.off{i j:Nat}{x:Option V}{s:Slot}(h:Ŭ F (σ.set i x) (U.set i s) j a)(hj:j≠i):Ŭ F σ U j a:=by obtain⟨s',y,h1,h2,h3⟩:=h;rw[i_<|Ē hj]at h1 h2;exact⟨s',y,h1,h2,h3⟩
def ĝ.put(r:ĝ K c F H σ U){i:Nat}{x:Option V}{s:Slot}(hs:s.own=false)(h:aT K c F H x s):ĝ K c F H (σ.set i x) (U.set i s) where
 sub:=r.sub
 base:=r.base
 f0:=r.f0
 fP:=r.fP
 lent:=r.lent
 lb:=r.lb
 len:=by simpa using r.len
 slot:=λj s' e=>by
  rcases ϶ e with⟨rfl,rfl,hl⟩|⟨hj,e⟩
  ·rw[EA (by rw[r.len];exact hl)];exact h
  ·rw[BG hj];exact r.slot j s' e
 sep:=λj k b h1 h2=>by
  have off:∀{j},Ŭ F (σ.set i x) (U.set i s) j b->j≠i:=fun{j} q z=>by
   subst z;obtain⟨s',y,q1,_,q2⟩:=q;rcases ϶ q1 with⟨_,rfl,_⟩|⟨q,_⟩
   ·have:=mF q2;rw[hs]at this;cases this
   ·exact q rfl
  exact r.sep j k b (h1.off<|off h1)<|h2.off<|off h2
def ĝ.EB(r:ĝ K c F H σ U){i:Nat}{s:Slot}(hs:s.own=false)(h:aT K c F H ((σ[i]?).getD none) s):ĝ K c F H σ (U.set i s) where
 sub:=r.sub
 base:=r.base
 f0:=r.f0
 fP:=r.fP
 lent:=r.lent
 lb:=r.lb
 len:=by simpa using r.len
 slot:=λj s' e=>by
  rcases ϶ e with⟨rfl,rfl,hl⟩|⟨hj,e⟩
  ·exact h
  ·exact r.slot j s' e
 sep:=λj k b h1 h2=>by
  have off:∀{j},Ŭ F σ (U.set i s) j b->Ŭ F σ U j b:=fun{j} ⟨s',y,q1,q3,q2⟩=>by
   rcases ϶ q1 with⟨_,rfl,_⟩|⟨_,q⟩
   ·have:=mF q2;rw[hs]at this;cases this
   ·exact⟨s',y,q,q3,q2⟩
  exact r.sep j k b (off h1)<|off h2
def ĝ.CT(r:ĝ K c F H σ U){i:Nat}{x:V}{s:Slot}(h:aT K c F H (some x) s)(hf:∀a,s.at_ F x a->ir F σ U a):ĝ K c F H (σ.set i<|some x) (U.set i s) where
 sub:=r.sub
 base:=r.base
 f0:=r.f0
 fP:=r.fP
 lent:=r.lent
 lb:=r.lb
 len:=by simpa using r.len
 slot:=λj s' e=>by
  rcases ϶ e with⟨rfl,rfl,hl⟩|⟨hj,e⟩
  ·rw[EA (by rw[r.len];exact hl)];exact h
  ·rw[BG hj];exact r.slot j s' e
 sep:=λj k b h1 h2=>by
  have JT:∀{j},Ŭ F (σ.set i<|some x) (U.set i s) j b->(j=i/\s.at_ F x b)\/(j≠i/\Ŭ F σ U j b):=fun{j} q=>by
   by_cases hj:j=i
   ·subst hj;obtain⟨s',y,q1,q2,q3⟩:=q;rcases ϶ q2 with⟨_,e,_⟩|⟨z,_⟩
    ·cases e;rcases ϶ q1 with⟨_,e,_⟩|⟨z,_⟩
     ·cases e;exact .inl ⟨rfl,q3⟩
     ·exact absurd rfl z
    ·exact absurd rfl z
   ·exact .inr ⟨hj,q.off hj⟩
  rcases JT h1 with⟨e1,z1⟩|⟨e1,o1⟩
  ·rcases JT h2 with⟨e2,z2⟩|⟨e2,o2⟩
   ·rw[e1,e2]
   ·exact absurd o2<|hf b z1 k
  ·rcases JT h2 with⟨e2,z2⟩|⟨e2,o2⟩
   ·exact absurd o1<|hf b z2 j
   ·exact r.sep j k b o1 o2
def ĝ.JU(r:ĝ K c F H σ U){i:Nat}{s:Slot}(ho:Ŭ F σ U i a)(h:aT K c F (upd H a o) ((σ[i]?).getD none) s)(hs:∀x b,σ[i]?=some (some x)->s.at_ F x b->Ŭ F σ U i b):ĝ K c F (upd H a o) σ (U.set i s) where
 sub:=λb u e=>by
  have hb:b≠a:=λz=>by rw[z,(r.owned ho).2.1]at e;cases e
  rw[õ hb];exact r.sub b u e
 base:=λb u e=>by
  have hb:b≠a:=λz=>by rw[z,(r.owned ho).2.2]at e;cases e
  rw[õ hb];exact r.base b u e
 f0:=r.f0
 fP:=r.fP
 lent:=λb u e=>by
  have hb:b≠a:=λz=>by rw[z,r.lb a (r.owned ho).2.2]at e;cases e
  rw[õ hb];exact r.lent b u e
 lb:=r.lb
 len:=by simpa using r.len
 slot:=λj s' e=>by
  rcases ϶ e with⟨rfl,rfl,hl⟩|⟨hj,e⟩
  ·exact h
  ·refine(r.slot j s' e).grow (Þ.refl F) λb u ⟨y,e1,e2⟩ h1 h2 h3=>?_;have hb:b≠a:=λz=>by
    subst z;exact hj<|r.sep j i b ⟨s',y,e,Ae e1,e2⟩ ho
   exact⟨by rw[õ hb];exact h1,h2⟩
 sep:=λj k b h1 h2=>by
  have off:∀{j},Ŭ F σ (U.set i s) j b->Ŭ F σ U j b:=fun{j} ⟨s',y,q1,q3,q2⟩=>by
   rcases ϶ q1 with⟨e,rfl,_⟩|⟨_,q⟩
   ·subst e;exact hs y b q3 q2
   ·exact⟨s',y,q,q3,q2⟩
  exact r.sep j k b (off h1)<|off h2
def ĝ.write(r:ĝ K c F H σ U){i:Nat}{s:Slot}(ho:Ŭ F σ U i a)(hx:σ[i]?=some (some<|.ref a))(h:aT K c F (upd H a o) (some<|.ref a) s)(hs:∀b,s.at_ F (.ref a) b->b=a):ĝ K c F (upd H a o) σ (U.set i s):=
 r.JU ho (by rw[hx];exact h) λx b e q=>by rw[hx]at e;cases e;rw[hs b q];exact ho
structure Gr(F H F' H':Hp):Prop where
 h:Þ H H'
 f:Þ F F'
 sub:Þ F' H'
 out:∀a,H a≠none->F a=none->F' a=none
def ĝ.call(r:ĝ K c F H σ U)(g:Gr F H F' H'):ĝ K c F' H' σ U where
 sub:=g.sub
 base:=r.base.trans g.h
 f0:=r.f0.trans g.f
 fP:=λb h1 h2=>by
  refine g.out b (λz=>h1 ?_)<|r.fP b h1 h2;cases q:c.B b with
  |none=>rfl|some u=>rw[r.base _ _ q]at z;cases z
 lent:=λb u e=>⟨g.h b u (r.lent b u e).1,g.out b (by rw[(r.lent b u e).1];intro z;cases z) (r.lent b u e).2⟩
 lb:=r.lb
 len:=r.len
 slot:=λi s e=>(r.slot i s e).grow g.f λb u _ h1 h2 h3=>⟨g.h b u h1,g.out b (by rw[h1];intro z;cases z) h2⟩
 sep:=r.JS g.f
noncomputable def dO(F H:Hp):Ctx:=⟨H,F,λa=>match F a with
 |none=>H a|some _=>none,λ_ _ _=>True⟩
def aB{a:À}{u:HO}(h:(dO F H).L a=some u):H a=some u/\F a=none:=by
 unfold dO at h;dsimp only at h;cases q:F a with
 |none=>rw[q]at h;exact⟨h,rfl⟩|some o=>rw[q]at h;cases h
def ĝ.gr(r:ĝ K (dO F H) F' H' σ U):Gr F H F' H':=⟨r.base,r.f0,r.sub,r.fP⟩
def dC(K:KK)(F H:Hp):Slot->V->Prop
 |.sh p,v=>Ĉ K F p v|.bw ps,v=>∃a vs,v=.ref a/\H a=some (.lst vs)/\F a=none/\é K F ps vs|.dw gL,v=>∃(a:À) (ts:List À),v=.ref a/\H a=some (.lst<|ts.map V.ref)/\F a=none/\Paired (λ(t:À) (d:List PV×List PV)=>∃xs b vs,F t=some (.tup<|xs++[.ref b])/\é K F d.1 xs/\(H b=some (.lst vs)/\F b=none)/\é K F d.2 vs) ts gL
 |_,_=>False
def dC.slot{s:Slot}{v:V}(h:dC K F H s v):aT K (dO F H) F H (some v) s/\s.own=false:=by
 cases s with
 |sh p=>exact⟨⟨v,rfl,h⟩,rfl⟩|bw ps=>obtain⟨a,vs,rfl,h1,h2,h3⟩:=h;refine⟨⟨a,vs,rfl,?_,h3⟩,rfl⟩;show(match F a with|none=>H a|some _=>none)=_;rw[h2];exact h1
 |no=>exact h.elim|ow ps=>exact h.elim|rc C ns ps=>exact h.elim|ot ps qs rs=>exact h.elim|ol pS=>exact h.elim|fr pS=>exact h.elim|pw ps=>exact h.elim|pin=>exact h.elim|bn qs rows=>exact h.elim|dw gL=>
  obtain⟨a,ts,rfl,h1,h2,h3⟩:=h;have lt:∀{x:À}{u:HO},H x=some u->F x=none->(dO F H).L x=some u:=fun{x u} e1 e2=>by show(match F x with|none=>H x|some _=>none)=_;rw[e2];exact e1
  exact⟨⟨a,ts,rfl,lt h1 h2,lO h3 λt d _ ⟨xs,b,vs,k1,k2,k3,k4⟩=>⟨xs,b,vs,k1,k2,lt k3.1 k3.2,k4⟩⟩,rfl⟩
noncomputable def ľ(n:Nat)(as:List Slot):ċ:=as++Ù (n-as.length) .no
theorem ĝ.start{N:List Str}{as:List Slot}{vs:List V}(s:Þ F H)(h:Paired (dC K F H) as vs):ĝ K (dO F H) F H (L2.start N vs) (ľ N.length as) where
 sub:=s
 base:=Þ.refl H
 f0:=Þ.refl F
 fP:=λ_ _ h=>h
 lent:=λ_ _ e=>aB e
 lb:=fun a e=>by
   cases q:(dO F H).L a with
   |none=>rfl|some u=>have e':H a=none:=e;rw[(aB q).1]at e';cases e'
 len:=by unfold L2.start ľ;simp[Paired.length h]
 slot:=λi s' e=>by
  unfold ľ at e;by_cases hi:i<as.length
  ·rw[fj hi]at e;obtain⟨v,h1,h2⟩:=dJ h e;have hv:((L2.start N vs)[i]?).getD none=some v:=by
    unfold L2.start;rw[fj (by simpa[<-Paired.length h]using hi),ŗ,h1];rfl
   rw[hv];exact(dC.slot h2).1
  ·rw[kX (by lia),gt]at e;split at e
   ·cases e;trivial
   ·cases e
 sep:=λi j a h1 _=>by
  obtain⟨s',y,h1,_,h2⟩:=h1;have h2:=mF h2;exfalso;unfold ľ at h1;by_cases hi:i<as.length
  ·rw[fj hi]at h1;obtain⟨v,_,h3⟩:=dJ h h1;rw[(dC.slot h3).2]at h2;cases h2
  ·rw[kX (by lia),gt]at h1;split at h1
   ·cases h1;cases h2
   ·cases h1
end
structure PX where
 C:String
 ns:List Str
 ps:List PV
def CU(K:KK)(F:Hp)(x:PX)(C:Á)(d:Option À):Prop:=C=.ref (K.cm x.C)/\∃fs,yI F d fs/\fs.map (·.1)=x.ns/\é K F x.ps (fs.map (·.2))/\(x.ns=[]->d=none)
inductive ĳ(α:Type) where
 |ok (a:α) (U:ċ)|exc (x:PX) (U:ċ)|bad
noncomputable def ĳ.bind{α β:Type}(r:ĳ α)(f:α->ċ->ĳ β):ĳ β:=match r with
 |.ok a U=>f a U|.exc x U=>.exc x U|.bad=>.bad
@[simp]theorem ĳ.aL{α β:Type}{a:α}{U:ċ}{f:α->ċ->ĳ β}:(ĳ.ok a U).bind f=f a U:=rfl
@[simp]theorem ĳ.Ms{α β:Type}{x:PX}{U:ċ}{f:α->ċ->ĳ β}:(ĳ.exc x U:ĳ α).bind f=.exc x U:=rfl
@[simp]theorem ĳ.Mt{α β:Type}{f:α->ċ->ĳ β}:(ĳ.bad:ĳ α).bind f=.bad:=rfl
def ĳ.yJ{α:Type}(o:Option α)(U:ċ):ĳ α:=match o with
 |some a=>.ok a U|none=>.bad
@[simp]theorem ĳ.Mu{α:Type}{a:α}{U:ċ}:ĳ.yJ (some a) U=.ok a U:=rfl
@[simp]theorem ĳ.Mv{α:Type}{U:ċ}:ĳ.yJ (none:Option α) U=.bad:=rfl
abbrev M(α:Type):=ċ->ĳ α
inductive RV where
 |sh (p:PV)|ow (ps:List PV)|ot (ps qs rs:List PV)|bn (t:Bool) (ps qs rows:List PV)
def RV.val:RV->PV
 |.sh p=>p|.ow ps=>.lst ps|.ot ps qs rs=>.tup (ps++.lst qs::rs)|.bn t ps qs rows=>O9 t ps qs rows
def RV.slot:RV->Slot
 |.sh p=>.sh p|.ow ps=>.ow ps|.ot ps qs rs=>.ot ps qs rs|.bn t ps qs rows=>if t then .sh (O9 t ps qs rows)else .bn qs rows
abbrev RR(α β:Type):=Ctx->Ċ->ċ->Hp->Hp->α->β->Prop
def rV(K:KK):RR PV V:=λ_ _ _ F _ p v=>Ĉ K F p v
def yK(K:KK)(F H:Hp)(p:PV)(v:V):Prop:=match p with
 |.lst ps=>∃a vs,v=.ref a/\H a=some (.lst vs)/\é K F ps vs|.ins C ns ps=>∃a dx fs,v=.ref a/\H a=some (.ins (K.cm C) dx fs)/\fs.map (·.1)=ns/\é K F ps (fs.map (·.2))|_=>False
def rR(K:KK):RR PV V:=λ_ _ _ F H p v=>Ĉ K F p v\/yK K F H p v
def rA(K:KK):RR (List Slot) (List V):=λ_ _ _ F H as vs=>Paired (dC K F H) as vs
def FH(K:KK)(c:Ctx)(b:Ċ)(U:ċ)(F H:Hp)(ps:List PV)(v:V):Prop:=∃a vs,v=.ref a/\H a=some (.lst vs)/\F a=none/\c.B a=none/\ir F b U a/\é K F ps vs
def BH(K:KK)(c:Ctx)(b:Ċ)(U:ċ)(F H:Hp)(ps qs rs:List PV)(v:V):Prop:=∃p a xs vs ys,v=.ref p/\F p=some (.tup (xs++.ref a::ys))/\é K F ps xs/\H a=some (.lst vs)/\F a=none/\c.B a=none/\ir F b U a/\é K F qs vs/\é K F rs ys
def rO(K:KK):RR RV V:=λc a U F H r v=>match r with
 |.sh p=>Ĉ K F p v|.ow ps=>FH K c a U F H ps v|.ot ps qs rs=>BH K c a U F H ps qs rs v|.bn t ps qs rows=>mE K c.B F t ps qs rows v
def rL(K:KK):RR (List PV) (List V):=λ_ _ _ F _ p v=>é K F p v
def JV(K:KK):RR (List PV) (List V):=λc a U F H p v=>Paired (rR K c a U F H) p v
def rB:RR Bool Bool:=λ_ _ _ _ _ p v=>p=v
def rI:RR (Option Int) (Option Int):=λ_ _ _ _ _ p v=>p=v
def Ϸ{α β:Type}(K:KK)(E:Ċ->XK)(R:RR α β)(c:Ctx)(F H:Hp)(a:Ċ)(Q:β->Hp->Prop):ĳ α->Prop
 |.ok p U'=>∀v F' H',ĝ K c F' H' a U'->Þ F F'->Þ H H'->R c a U' F' H' p v->Q v H'|.exc x U'=>∀C d F' H',ĝ K c F' H' a U'->Þ F F'->CU K F' x C d->E a C d H'|.bad=>False
def tG{α β:Type}(K:KK)(E:Ċ->XK)(R:RR α β)(m:M α):Ċ->Hp->(β->Hp->Prop)->Prop:=λa H Q=>∃c F U,ĝ K c F H a U/\Ϸ K E R c F H a Q (m U)
section
variable{α β α' β':Type}{K:KK}{E:Ċ->XK}{R:RR α β}{R':RR α' β'}{c:Ctx}{F F1 H H1:Hp}{σ:Ċ}
def Ϸ.mono{Q:β->Hp->Prop}{r:ĳ α}(h:Ϸ K E R c F H σ Q r)(sF:Þ F F1)(sH:Þ H H1):Ϸ K E R c F1 H1 σ Q r:=by
 cases r with
 |ok p U'=>exact λv F' H' rel s1 s2 q=>h v F' H' rel (sF.trans s1) (sH.trans s2) q
 |exc x U'=>exact λC d F' H' rel s1 q=>h C d F' H' rel (sF.trans s1) q
 |bad=>exact h
theorem Ϸ.bind{Q:β->Hp->Prop}{Q':β'->Hp->Prop}{r:ĳ α}{f:α->ċ->ĳ α'}(h:Ϸ K E R' c F H σ Q' (r.bind f))
 (k:∀p U1 v F1 H1,ĝ K c F1 H1 σ U1->Þ F F1->Þ H H1->R c σ U1 F1 H1 p v->Ϸ K E R' c F1 H1 σ Q' (f p U1)->Q v H1):Ϸ K E R c F H σ Q r:=by
 cases r with
 |ok p U'=>exact λv F' H' rel s1 s2 q=>k p U' v F' H' rel s1 s2 q<|Ϸ.mono (show Ϸ K E R' c F H σ Q' (f p U')from h) s1 s2
 |exc x U'=>exact h|bad=>exact h
theorem Ϸ.rel{R2:RR α β}{Q:β->Hp->Prop}{r:ĳ α}(h:Ϸ K E R c F H σ Q r)(k:∀p U' v F' H',ĝ K c F' H' σ U'->R2 c σ U' F' H' p v->R c σ U' F' H' p v):Ϸ K E R2 c F H σ Q r:=by
 cases r with
 |ok p U'=>exact λv F' H' rel s1 s2 q=>h v F' H' rel s1 s2<|k p U' v F' H' rel q
 |exc x U'=>exact h|bad=>exact h
end
abbrev tV(K:KK)(E:Ċ->XK)(m:M PV):TE:=tG K E (rV K) m
abbrev tR(K:KK)(E:Ċ->XK)(m:M PV):TE:=tG K E (rR K) m
abbrev tO(K:KK)(E:Ċ->XK)(m:M RV):TE:=tG K E (rO K) m
abbrev tL(K:KK)(E:Ċ->XK)(m:M (List PV)):TA:=tG K E (rL K) m
abbrev tA(K:KK)(E:Ċ->XK)(m:M (List Slot)):TA:=tG K E (rA K) m
abbrev EC(K:KK)(E:Ċ->XK)(m:M (List PV)):TA:=tG K E (JV K) m
abbrev tB(K:KK)(E:Ċ->XK)(m:M Bool):TT:=tG K E rB m
inductive Fl where
 |nx|bk|ct|rt (r:RV)
def ϸ(K:KK)(E:Ċ->XK)(c:Ctx)(F:Hp)(D:Ends):ĳ Fl->Prop
 |.ok .nx U'=>∀a F' H',ĝ K c F' H' a U'->Þ F F'->D.nx a H'|.ok .bk U'=>∀a F' H',ĝ K c F' H' a U'->Þ F F'->D.bk a H'|.ok .ct U'=>∀a F' H',ĝ K c F' H' a U'->Þ F F'->D.ct a H'|.ok (.rt r) U'=>∀v a F' H',ĝ K c F' H' a U'->Þ F F'->rO K c a U' F' H' r v->D.rt v H'|.exc x U'=>∀a C d F' H',ĝ K c F' H' a U'->Þ F F'->CU K F' x C d->E a C d H'|.bad=>False
def tS(K:KK)(E:Ċ->XK)(m:M Fl):TS:=λD a H=>∃c F U,ĝ K c F H a U/\ϸ K E c F D (m U)
section
variable{K:KK}{E:Ċ->XK}{c:Ctx}{F F1:Hp}{D:Ends}
def ϸ.mono{r:ĳ Fl}(h:ϸ K E c F D r)(sF:Þ F F1):ϸ K E c F1 D r:=by
 cases r with
 |ok f U'=>
  cases f with
  |rt v=>exact λv a F' H' rel s1 q=>h v a F' H' rel (sF.trans s1) q
  |nx=>exact λa F' H' rel s1=>h a F' H' rel<|sF.trans s1
  |bk=>exact λa F' H' rel s1=>h a F' H' rel<|sF.trans s1
  |ct=>exact λa F' H' rel s1=>h a F' H' rel<|sF.trans s1
 |exc x U'=>exact λa C d F' H' rel s1 q=>h a C d F' H' rel (sF.trans s1) q
 |bad=>exact h
theorem ϸ.bind{α β:Type}{R:RR α β}{a:Ċ}{H:Hp}{Q:β->Hp->Prop}{r:ĳ α}{f:α->ċ->ĳ Fl}(h:ϸ K E c F D (r.bind f))
 (k:∀p U1 v F1 H1,ĝ K c F1 H1 a U1->Þ F F1->R c a U1 F1 H1 p v->ϸ K E c F1 D (f p U1)->Q v H1):Ϸ K E R c F H a Q r:=by
 cases r with
 |ok p U'=>exact λv F' H' rel s1 s2 q=>k p U' v F' H' rel s1 q<|ϸ.mono (show ϸ K E c F D (f p U')from h) s1
 |exc x U'=>exact λC d F' H' rel s1 q=>h a C d F' H' rel s1 q
 |bad=>exact h
end
open PySem PySem.Spec PyProof.Rows L2 M2
noncomputable def ä(i:Nat):M PV:=λU=>match U[i]?with
 |some (.sh p)=>.ok p U|some (.ow ps)=>.ok (.lst ps)<|U.set i<|.sh<|.lst ps|some (.bn qs rows)=>.ok (.lst (.lst qs::rows)) U|_=>.bad
noncomputable def Â(i:Nat):M PV:=λU=>match U[i]?with
 |some (.sh p)=>.ok p U|some (.ow ps)=>.ok (.lst ps) U|some (.bw ps)=>.ok (.lst ps) U|some (.rc C ns ps)=>.ok (.ins C ns ps) U|some (.bn qs rows)=>.ok (.lst (.lst qs::rows)) U|some (.pw ps)=>.ok (.lst ps) U|_=>.bad
noncomputable def dE(i:Nat):M RV:=λU=>match U[i]?with
 |some (.sh p)=>.ok (.sh p) U|some (.ow ps)=>.ok (.ow ps)<|U.set i .no|_=>.bad
@[simp]def mC(p:PV)(U:ċ):ĳ PV:=.ok p U
abbrev Å(i:Int):M PV:=mC (.int i)
@[simp]def Ķ(m:M PV)(U:ċ):ĳ RV:=(m U).bind λp U1=>.ok (.sh p) U1
@[simp]def Ý(m:M RV)(U:ċ):ĳ PV:=(m U).bind λr U1=>.ok r.val U1
section
variable{K:KK}{c:Ctx}{F H:Hp}{σ:Ċ}{U:ċ}
def ň{i:Nat}{x:V}(h:(σ[i]?).getD none=some x):σ[i]?=some (some x):=by
 cases q:σ[i]?with
 |none=>rw[q]at h;cases h|some y=>rw[q]at h;exact congrArg some h
theorem ĝ.ow(r:ĝ K c F H σ U){i:Nat}{ps:List PV}(e:U[i]?=some (.ow ps)):∃a vs,σ[i]?=some (some<|.ref a)/\H a=some (.lst vs)/\F a=none/\c.B a=none/\é K F ps vs/\Ŭ F σ U i a:=by obtain⟨a,vs,h1,h2,h3,h4,h5⟩:=r.slot i _ e;exact⟨a,vs,ň h1,h2,h3,h4,h5,⟨_,_,e,ň h1,rfl⟩⟩
def ĝ.move(r:ĝ K c F H σ U){i:Nat}{a:À}(h:Ŭ F σ U i a):ĝ K c F H σ (U.set i .no)/\ir F σ (U.set i .no) a:=by
 refine⟨r.EB rfl trivial,λj zz=>?_⟩;obtain⟨s,y,q1,q3,q2⟩:=zz;rcases ϶ q1 with⟨_,rfl,_⟩|⟨hj,q⟩
 ·exact q2.elim
 ·exact hj<|r.sep j i a ⟨s,y,q,q3,q2⟩ h
def ĝ.share(r:ĝ K c F H σ U){i:Nat}{ps:List PV}(e:U[i]?=some (.ow ps)):∃a vs,σ[i]?=some (some<|.ref a)/\F a=none/\Ĉ K (upd F a<|.lst vs) (.lst ps) (.ref a)/\ĝ K c (upd F a<|.lst vs) H σ (U.set i<|.sh<|.lst ps):=by
 obtain⟨a,vs,h1,h2,h3,h4,h5,ho⟩:=r.ow e;obtain⟨m1,m2⟩:=r.move ho;have rp:Ĉ K (upd F a<|.lst vs) (.lst ps) (.ref a):=by unfold Ĉ;exact⟨a,vs,rfl,ϱ.of ą,h5.same (Þ.upd h3) ps vs⟩
 have q:=(m1.freeze h2 h4 h3 m2).EB (i:=i) (s:=.sh<|.lst ps) rfl (show aT K c _ H _ (.sh<|.lst ps)from⟨.ref a,by rw[h1];rfl,rp⟩);rw[List.set_set]at q;exact⟨a,vs,h1,h3,rp,q⟩
def yK.mono{F1 H1:Hp}{p:PV}{v:V}(h:yK K F H p v)(sF:Þ F F1)(sH:Þ H H1):yK K F1 H1 p v:=by
 cases p with
 |lst ps=>obtain⟨a,vs,h2,h3,h4⟩:=h;exact⟨a,vs,h2,sH _ _ h3,h4.same sF ps vs⟩|ins C ns ps=>obtain⟨a,dx,fs,h2,h3,h4,h5⟩:=h;exact⟨a,dx,fs,h2,sH _ _ h3,h4,h5.same sF ps _⟩|_=>exact h.elim
theorem rR.mono{c:Ctx}{σ:Ċ}{U U':ċ}{F1 H1:Hp}{p:PV}{v:V}(h:rR K c σ U F H p v)(sF:Þ F F1)(sH:Þ H H1):rR K c σ U' F1 H1 p v:=by
 rcases h with h|h
 ·exact .inl<|h.same sF p v
 ·exact .inr<|h.mono sF sH
theorem rR.lst{c:Ctx}{σ:Ċ}{U:ċ}{ps:List PV}{v:V}(s:Þ F H)(h:rR K c σ U F H (.lst ps) v):∃a vs,v=.ref a/\ϱ K.K H a vs/\é K F ps vs:=by
 rcases h with h|⟨a,vs,h2,h3,h4⟩
 ·unfold Ĉ at h;obtain⟨a,xs,h1,h2,h3⟩:=h;exact⟨a,xs,h1,s.seq h2,h3⟩
 ·exact⟨a,vs,h2,ϱ.of h3,h4⟩
theorem rR.tup{c:Ctx}{σ:Ċ}{U:ċ}{ps:List PV}{v:V}(s:Þ F H)(h:rR K c σ U F H (.tup ps) v):∃a vs,v=.ref a/\fL K.K H a vs/\é K F ps vs:=by
 rcases h with h|h
 ·unfold Ĉ at h;obtain⟨a,xs,h1,h2,h3⟩:=h;exact⟨a,xs,h1,Þ.tup s h2,h3⟩
 ·exact h.elim
theorem rR.int{c:Ctx}{σ:Ċ}{U:ċ}{i:Int}{v:V}(h:rR K c σ U F H (.int i) v):v=.int i:=by
 rcases h with h|h
 ·unfold Ĉ at h;exact h
 ·exact h.elim
theorem rR.str{c:Ctx}{σ:Ċ}{U:ċ}{i:Str}{v:V}(h:rR K c σ U F H (.str i) v):v=.str i:=by
 rcases h with h|h
 ·unfold Ĉ at h;exact h
 ·exact h.elim
theorem rR.bl{c:Ctx}{σ:Ċ}{U:ċ}{i:Bool}{v:V}(h:rR K c σ U F H (.bl i) v):v=.bl i:=by
 rcases h with h|h
 ·unfold Ĉ at h;exact h
 ·exact h.elim
theorem rR.non{c:Ctx}{σ:Ċ}{U:ċ}{v:V}(h:rR K c σ U F H .non v):v=.non:=by
 rcases h with h|h
 ·unfold Ĉ at h;exact h
 ·exact h.elim
theorem rR.ty{c:Ctx}{σ:Ċ}{U:ċ}{n:String}{v:V}(h:rR K c σ U F H (.ty n) v):v=.ty n:=by
 rcases h with h|h
 ·unfold Ĉ at h;exact h
 ·exact h.elim
theorem Ĉ.int{i:Int}:Ĉ K F (.int i) (.int i):=by unfold Ĉ;rfl
theorem Ĉ.str{i:Str}:Ĉ K F (.str i) (.str i):=by unfold Ĉ;rfl
theorem Ĉ.bl{i:Bool}:Ĉ K F (.bl i) (.bl i):=by unfold Ĉ;rfl
theorem Ĉ.non:Ĉ K F .non .non:=by unfold Ĉ;rfl
end
section
variable{X:Cx}{cm:String->À}{E:Ċ->XK}{a b e:È}{es:List È}{pos:Pos}{m ma mb mc:M PV}{mo:M RV}
def PT.wk{t t':TT}(h:PT X e t)(i:∀c H Q,t' c H Q->t c H Q):PT X e t':=λÇ s c H Q I q=>h Ç s c H Q I<|i c H Q q
def PA.wk{t t':TA}(h:PA X es t)(i:∀c H Q,t' c H Q->t c H Q):PA X es t':=λpos Ç s c H Q I q=>h pos Ç s c H Q I<|i c H Q q
def PW.wk{t t':TT}(h:PW X e t)(i:∀c H Q,t' c H Q->t c H Q):PW X e t':=λwh Ç s c H Q I q=>h wh Ç s c H Q I<|i c H Q q
def dB.wk{st:List ò}{t t':TS}(h:dB X st t)(i:∀D c H,t' D c H->t D c H):dB X st t':=λÇ s c H D I q=>h Ç s c H D I<|i D c H q
def v_var(i:Nat){x:Str}{pos:Pos}(hk:Cw X i x=true:=by kernel_rfl):PE X (.Name x pos) (tV (kk X cm) E<|ä i):=PE.wk (lM hk)<|by
 rintro d H Q ⟨c,F,U,rel,h⟩;unfold ä at h;split at h
 ·rename_i p e;obtain⟨v,h1,h2⟩:=rel.slot i _ e;exact⟨v,ň h1,h v F H rel (Þ.refl F) (Þ.refl H) h2⟩
 ·rename_i ps e;obtain⟨a,vs,h1,h2,h3,h4⟩:=rel.share e;exact⟨.ref a,h1,h _ _ H h4 (Þ.upd h2) (Þ.refl H) h3⟩
 ·rename_i qs rows e;obtain⟨v,h1,h2⟩:=rel.slot i _ e;exact⟨v,ň h1,h v F H rel (Þ.refl F) (Þ.refl H) h2.rep⟩
 ·exact h.elim
def Ã(i:Nat){x:Str}{pos:Pos}(hk:Cw X i x=true:=by kernel_rfl):PE X (.Name x pos) (tR (kk X cm) E<|Â i):=PE.wk (lM hk)<|by
 rintro d H Q ⟨c,F,U,rel,h⟩;unfold Â at h;split at h
 ·rename_i p e;obtain⟨v,h1,h2⟩:=rel.slot i _ e;exact⟨v,ň h1,h v F H rel (Þ.refl F) (Þ.refl H)<|.inl h2⟩
 ·rename_i ps e;obtain⟨a,vs,h1,h2,h3,h4,h5,_⟩:=rel.ow e;exact⟨.ref a,h1,h _ F H rel (Þ.refl F) (Þ.refl H)<|.inr ⟨a,vs,rfl,h2,h5⟩⟩
 ·rename_i ps e;obtain⟨a,vs,h1,h2,h3⟩:=rel.slot i _ e;exact⟨.ref a,ň h1,h _ F H rel (Þ.refl F) (Þ.refl H)<|.inr ⟨a,vs,rfl,(rel.lent a _ h2).1,h3⟩⟩
 ·rename_i C ns ps e;obtain⟨a,dx,fs,h1,h2,h3,h4,h5,h6⟩:=rel.slot i _ e;exact⟨.ref a,ň h1,h _ F H rel (Þ.refl F) (Þ.refl H)<|.inr ⟨a,dx,fs,rfl,h2,h5,h6.1⟩⟩
 ·rename_i qs rows e;obtain⟨v,h1,h2⟩:=rel.slot i _ e;exact⟨v,ň h1,h v F H rel (Þ.refl F) (Þ.refl H)<|.inl h2.rep⟩
 ·rename_i ps e;obtain⟨a,vs,h1,h2,h3,h4,h5,h6⟩:=rel.slot i _ e;exact⟨.ref a,ň h1,h _ F H rel (Þ.refl F) (Þ.refl H)<|.inr ⟨a,vs,rfl,h2,h5⟩⟩
 ·exact h.elim
def fS(i:Nat){x:Str}{pos:Pos}(hk:Cw X i x=true:=by kernel_rfl):PE X (.Name x pos) (tO (kk X cm) E<|dE i):=PE.wk (lM hk)<|by
 rintro d H Q ⟨c,F,U,rel,h⟩;unfold dE at h;split at h
 ·rename_i p e;obtain⟨v,h1,h2⟩:=rel.slot i _ e;exact⟨v,ň h1,h v F H rel (Þ.refl F) (Þ.refl H) h2⟩
 ·rename_i ps e;obtain⟨a,vs,h1,h2,h3,h4,h5,h6⟩:=rel.ow e;obtain⟨m1,m2⟩:=rel.move h6;exact⟨.ref a,h1,h _ F H m1 (Þ.refl F) (Þ.refl H) ⟨a,vs,rfl,h2,h3,h4,m2,h5⟩⟩
 ·exact h.elim
def BI{v:V}(p:PV)(h:PE X e (tC v))(hr:∀F,Ĉ (kk X cm) F p v:=by intro _;unfold Ĉ;rfl):PE X e (tV (kk X cm) E<|mC p):=PE.wk h λd H Q ⟨c,F,U,rel,h⟩=>h v F H rel (Þ.refl F) (Þ.refl H)<|hr F
def đ{i j pos}:PE X (.Constant (.int i) j pos) (tV (kk X cm) E<|mC<|.int i):=BI _ xj
def oo{i j pos}:PE X (.Constant (.bool i) j pos) (tV (kk X cm) E<|mC<|.bl i):=BI _ LX
def pU{j pos}:PE X (.Constant .none j pos) (tV (kk X cm) E<|mC .non):=BI _ I0
def ſ{x j pos}:PE X (.Constant (.str x) j pos) (tV (kk X cm) E<|mC<|.str x):=BI _ Ja
def ç(h:PE X e (tV (kk X cm) E m)):PE X e (tR (kk X cm) E m):=PE.wk h λd H Q ⟨c,F,U,rel,h⟩=>⟨c,F,U,rel,h.rel λ_ _ _ _ _ _ q=>.inl q⟩
def ś(h:PE X e (tV (kk X cm) E m)):PE X e (tO (kk X cm) E<|Ķ m):=PE.wk h λd H Q ⟨c,F,U,rel,h⟩=>⟨c,F,U,rel,h.bind λp U1 v F1 H1 è s1 s2 q h1=>h1 v F1 H1 è č č q⟩
def FH.share{K:KK}{c:Ctx}{F H:Hp}{d:Ċ}{U:ċ}{ps:List PV}{v:V}(rel:ĝ K c F H d U)(h:FH K c d U F H ps v):∃F1,Þ F F1/\ĝ K c F1 H d U/\Ĉ K F1 (.lst ps) v:=by obtain⟨a,vs,rfl,h1,h2,h3,h4,h5⟩:=h;refine⟨_,Þ.upd h2,rel.freeze h1 h3 h2 h4,?_⟩;unfold Ĉ;exact⟨a,vs,rfl,ϱ.of ą,h5.same (Þ.upd h2) ps vs⟩
def BH.share{K:KK}{c:Ctx}{F H:Hp}{d:Ċ}{U:ċ}{ps qs rs:List PV}{v:V}(rel:ĝ K c F H d U)(h:BH K c d U F H ps qs rs v):∃F1,Þ F F1/\ĝ K c F1 H d U/\Ĉ K F1 (.tup (ps++.lst qs::rs)) v:=by
 obtain⟨p,a,xs,vs,ys,rfl,h0,hx,h1,h2,h3,h4,h5,h6⟩:=h;refine⟨_,Þ.upd h2,rel.freeze h1 h3 h2 h4,?_⟩;have ra:Ĉ K (upd F a<|.lst vs) (.lst qs) (.ref a):=by unfold Ĉ;exact⟨a,vs,rfl,ϱ.of ą,h5.same (Þ.upd h2) qs vs⟩
 unfold Ĉ;exact⟨p,_,rfl,fL.of<|Þ.upd h2 _ _ h0,é.append (hx.same (Þ.upd h2) ps xs)<|é.cons ra<|h6.same (Þ.upd h2) rs ys⟩
def î(h:PE X e (tO (kk X cm) E mo)):PE X e (tV (kk X cm) E<|Ý mo):=PE.wk h λd H Q ⟨c,F,U,rel,h⟩=>⟨c,F,U,rel,h.bind λr U1 v F1 H1 è s1 s2 q h1=>by
 cases r with
 |sh p=>exact h1 v F1 H1 è č č q|ow ps=>obtain⟨F2,s3,ę,rp⟩:=FH.share è q;exact h1 v F2 H1 ę s3 č rp|ot ps qs rs=>obtain⟨F2,s3,ę,rp⟩:=BH.share è q;exact h1 v F2 H1 ę s3 č rp|bn t ps qs rows=>exact h1 v F1 H1 è č č<|mE.rep q⟩
def Ê(f:PV->PV->Option PV)(ma mb:M PV):M PV:=λU=>(ma U).bind λp U1=>(mb U1).bind λq U2=>ĳ.yJ (f p q) U2
def Ą(f:PV->PV->Option RV)(ma mb:M PV):M RV:=λU=>(ma U).bind λp U1=>(mb U1).bind λq U2=>ĳ.yJ (f p q) U2
def kl(K:KK)(r:R2)(f:PV->PV->Option PV):Prop:=∀{c:Ctx}{F H:Hp}{d:Ċ}{U:ċ}{p q pv:PV}{v u:V}{Q:VK},ĝ K c F H d U->rR K c d U F H p v->rR K c d U F H q u->f p q=some pv->
 (∀z F' H',ĝ K c F' H' d U->Þ F F'->Þ H H'->Ĉ K F' pv z->Q z H')->r v u H Q
def RY(K:KK)(r:R2)(f:PV->PV->Option RV):Prop:=∀{c:Ctx}{F H:Hp}{d:Ċ}{U:ċ}{p q:PV}{pv:RV}{v u:V}{Q:VK},ĝ K c F H d U->rR K c d U F H p v->rR K c d U F H q u->f p q=some pv->
 (∀z F' H',ĝ K c F' H' d U->Þ F F'->Þ H H'->rO K c d U F' H' pv z->Q z H')->r v u H Q
def BJ{r:R2}{f:PV->PV->Option PV}(hf:kl (kk X cm) r f){d:Ċ}{H:Hp}{Q:VK}(h:tV (kk X cm) E (Ê f ma mb) d H Q):HW r (tR (kk X cm) E ma) (tR (kk X cm) E mb) d H Q:=by
 obtain⟨c,F,U,rel,h⟩:=h;refine⟨c,F,U,rel,h.bind λp U1 v F1 H1 è _ _ r1 h1=>⟨c,F1,U1,è,h1.bind λq U2 u F2 H2 ę sF sH r2 h2=>?_⟩⟩;cases e:f p q with
 |none=>rw[e]at h2;exact h2.elim|some pv=>rw[e]at h2;exact hf ę (r1.mono sF sH) r2 e λz F' H' ž s1 s2 q'=>h2 z F' H' ž s1 s2 q'
def Mw{r:R2}{f:PV->PV->Option RV}(hf:RY (kk X cm) r f){d:Ċ}{H:Hp}{Q:VK}(h:tO (kk X cm) E (Ą f ma mb) d H Q):HW r (tR (kk X cm) E ma) (tR (kk X cm) E mb) d H Q:=by
 obtain⟨c,F,U,rel,h⟩:=h;refine⟨c,F,U,rel,h.bind λp U1 v F1 H1 è _ _ r1 h1=>⟨c,F1,U1,è,h1.bind λq U2 u F2 H2 ę sF sH r2 h2=>?_⟩⟩;cases e:f p q with
 |none=>rw[e]at h2;exact h2.elim|some pv=>rw[e]at h2;exact hf ę (r1.mono sF sH) r2 e λz F' H' ž s1 s2 q'=>h2 z F' H' ž s1 s2 q'
def iu{op:nI}{r:R2}{f:PV->PV->Option PV}(hf:kl (kk X cm) r f)(ho:aA X (ŀ op) r)(ha:PE X a (tR (kk X cm) E ma))(hb:PE X b (tR (kk X cm) E mb)):PE X (.BinOp a op b pos) (tV (kk X cm) E<|Ê f ma mb):=PE.wk (HX ho ha hb) λ_ _ _ h=>BJ hf h
def Mx{op:nI}{r:R2}{f:PV->PV->Option RV}(hf:RY (kk X cm) r f)(ho:aA X (ŀ op) r)(ha:PE X a (tR (kk X cm) E ma))(hb:PE X b (tR (kk X cm) E mb)):PE X (.BinOp a op b pos) (tO (kk X cm) E<|Ą f ma mb):=PE.wk (HX ho ha hb) λ_ _ _ h=>Mw hf h
def iw{op:fw}{r:R2}{f:PV->PV->Option PV}(hf:kl (kk X cm) r f)(ho:aA X (ī op) r)(ha:PE X a (tR (kk X cm) E ma))(hb:PE X b (tR (kk X cm) E mb))(hm:le op b=false):PE X (.Compare a [op] [b] pos) (tV (kk X cm) E<|Ê f ma mb):=
 PE.wk (Gm ho ha hb hm) λ_ _ _ h=>BJ hf h
def Mz{r:R2}{f:PV->PV->Option PV}(hf:kl (kk X cm) r f)(hr:zA X r)(ha:PE X a (tR (kk X cm) E ma))(hb:PE X b (tR (kk X cm) E mb))(hs:si b):PE X (.Subscript a b pos) (tV (kk X cm) E<|Ê f ma mb):=
 PE.wk (Ec hr ha hb hs) λ_ _ _ h=>BJ hf h
@[simp]def fM(f:PV->Option PV)(ma:M PV)(U:ċ):ĳ PV:=(ma U).bind λp U1=>ĳ.yJ (f p) U1
def VZ(K:KK)(r:V->Hp->VK->Prop)(f:PV->Option PV):Prop:=∀{c:Ctx}{F H:Hp}{d:Ċ}{U:ċ}{p pv:PV}{v:V}{Q:VK},ĝ K c F H d U->rR K c d U F H p v->f p=some pv->
 (∀z F' H',ĝ K c F' H' d U->Þ F F'->Þ H H'->Ĉ K F' pv z->Q z H')->r v H Q
def yL{op:UnaryOp}{r:V->Hp->VK->Prop}{f:PV->Option PV}(hf:VZ (kk X cm) r f)(ho:Gg X (unaryOp op) r)(ha:PE X a (tR (kk X cm) E ma)):PE X (.UnaryOp op a pos) (tV (kk X cm) E<|fM f ma):=PE.wk (HY ho ha) λd H Q ⟨c,F,U,rel,h⟩=>
 ⟨c,F,U,rel,h.bind fun p U1 v F1 H1 è _ _ r1 h1=>by
   cases e:f p with
   |none=>rw[e]at h1;exact h1.elim|some pv=>rw[e]at h1;exact hf è r1 e λz F' H' ž s1 s2 q'=>h1 z F' H' ž s1 s2 q'⟩
noncomputable def Ic:PV->Option Bool
 |.bl b=>some b|.int i=>some<|i !=0|.non=>some false|.str y=>if y.length<=sizeLine then some ((y.length:Int) !=0)else none|.lst ps=>some<|!ps.isEmpty|.tup ps=>some<|!ps.isEmpty|_=>none
@[simp]def aU(m:M PV)(U:ċ):ĳ Bool:=(m U).bind λp U1=>ĳ.yJ (Ic p) U1
def MA{K:KK}{c:Ctx}{F H:Hp}{d:Ċ}{U:ċ}{p:PV}{v:V}{k:Bool}(s:Þ F H)(r:rR K c d U F H p v)(h:Ic p=some k):Jt K.K v H k:=by
 cases p with
 |bl b=>cases r.bl;cases h;rfl|int i=>cases r.int;cases h;rfl|non=>cases r.non;cases h;rfl|str y=>
  cases r.str;have h':(if y.length<=sizeLine then some ((y.length:Int) !=0)else none)=some k:=h;split at h'
  ·rename_i hy;cases h';exact⟨hy,rfl⟩
  ·cases h'
 |lst ps=>
  obtain⟨a,vs,rfl,h1,h2⟩:=r.lst s;cases h;have e:ps.isEmpty=vs.isEmpty:=by cases h2.pr<;>rfl
  exact .inl ⟨vs,h1,by rw[e]⟩
 |tup ps=>
  obtain⟨a,vs,rfl,h1,h2⟩:=r.tup s;cases h;have e:ps.isEmpty=vs.isEmpty:=by cases h2.pr<;>rfl
  exact .inr (.inl ⟨vs,h1,by rw[e]⟩)
 |ins C ns ps=>cases h|xc C ns ps=>cases h|ty n=>cases h|cls C=>cases h|Dx _ _=>cases h
def ű(ha:PE X a (tR (kk X cm) E ma))(he:∀whole,isTrue a X.env whole=(do let v<-whole;gv a.pos;ca [v] (truthy v)):=by intro _;rfl):PT X a (tB (kk X cm) E<|aU ma):=PT.wk (DZ ha he) λd H Q ⟨c,F,U,rel,h⟩=>
 ⟨c,F,U,rel,h.bind fun p U1 v F1 H1 è _ _ r1 h1=>by
   cases e:Ic p with
   |none=>rw[e]at h1;exact h1.elim|some k=>rw[e]at h1;exact⟨k,MA è.sub r1 e,h1 k F1 H1 è č č rfl⟩⟩
@[simp]def ϯ(m:M PV)(U:ċ):ĳ Bool:=(m U).bind fun p U1=>match p with
  |.bl b=>.ok b U1|_=>.bad
def Ie{d:Ċ}{H:Hp}{Q:Bool->Hp->Prop}(h:tB (kk X cm) E (ϯ m) d H Q):M2.Eg (tV (kk X cm) E m) d H Q:=by
 obtain⟨c,F,U,rel,h⟩:=h;refine⟨c,F,U,rel,h.bind λp U1 v F1 H1 è _ _ r1 h1=>?_⟩;cases p with
 |bl b=>
  have e:v=.bl b:=by have sE:Ĉ (kk X cm) F1 (.bl b) v:=r1;unfold Ĉ at sE;exact sE
  subst e;exact h1 b F1 H1 è č č rfl
 |_=>exact h1.elim
def ϳ{op:fw}{r:R2}{f:PV->PV->Option PV}(hf:kl (kk X cm) r f)(ho:aA X (ī op) r)(ha:PE X a (tR (kk X cm) E ma))(hb:PE X b (tR (kk X cm) E mb))(hm:le op b=false):PT X (.Compare a [op] [b] pos) (tB (kk X cm) E<|ϯ<|Ê f ma mb):=
 PT.wk (JF ho ha hb hm) fun d H Q h=>by obtain⟨c,F,U,rel,h⟩:=Ie h;exact BJ hf ⟨c,F,U,rel,h⟩
@[simp]def mH(f g:PV→PV→Option PV)(ma mb mc:M PV)(U:ċ):ĳ PV:=(ma U).bind fun p U1=>(mb U1).bind fun q U2=>(ĳ.yJ (f p q) U2).bind fun z U3=>match z with
  |.bl true=>(mc U3).bind λw U4=>ĳ.yJ (g q w) U4
  |.bl false=>.ok (.bl false) U3|_=>.bad
def Ig{r r':R2}{f g:PV->PV->Option PV}(hf:kl (kk X cm) r f)(hg:kl (kk X cm) r' g){d:Ċ}{H:Hp}{Q:VK}(h:tV (kk X cm) E (mH f g ma mb mc) d H Q):M2.Aa r r' (tR (kk X cm) E ma) (tR (kk X cm) E mb) (tR (kk X cm) E mc) d H Q:=by
 obtain⟨c,F,U,rel,h⟩:=h;refine⟨c,F,U,rel,h.bind λp U1 v F1 H1 è _ _ r1 h1=>⟨c,F1,U1,è,h1.bind λq U2 u F2 H2 ę sF sH r2 h2=>?_⟩⟩;cases e:f p q with
 |none=>rw[e]at h2;exact h2.elim|some pv=>
  rw[e]at h2;refine hf ę (r1.mono sF sH) r2 e λz F' H' ž s1 s2 q'=>?_;cases pv with
  |bl k=>
   have ez:z=.bl k:=by unfold Ĉ at q';exact q'
   subst ez;cases k with
   |false=>exact h2 _ F' H' ž s1 s2 q'|true=>
    refine⟨c,F',U2,ž,Ϸ.bind (Ϸ.mono h2 s1 s2) λw U4 x F4 H4 sS s3 s4 r4 h4=>?_⟩;cases e':g q w with
    |none=>rw[e']at h4;exact h4.elim|some pv'=>rw[e']at h4;exact hg sS (r2.mono (s1.trans s3)<|s2.trans s4) r4 e' λz F' H' ž s1 s2 q'=>h4 z F' H' ž s1 s2 q'
  |_=>exact h2.elim
def oq{op AH:fw}{r r':R2}{f g:PV->PV->Option PV}{c:È}(hf:kl (kk X cm) r f)(hg:kl (kk X cm) r' g)(ho:aA X (ī op) r)(AF:aA X (ī AH) r')(ha:PE X a (tR (kk X cm) E ma))(hb:PE X b (tR (kk X cm) E mb))(hc:PE X c (tR (kk X cm) E mc))
 (hm:lastMarks [op,AH] [b,c]=false:=by with_unfolding_all rfl):PE X (.Compare a [op,AH] [b,c] pos) (tV (kk X cm) E<|mH f g ma mb mc):=PE.wk (Eh ho AF ha hb hc hm) λ_ _ _ h=>Ig hf hg h
def ED{op AH:fw}{r r':R2}{f g:PV->PV->Option PV}{c:È}(hf:kl (kk X cm) r f)(hg:kl (kk X cm) r' g)(ho:aA X (ī op) r)(AF:aA X (ī AH) r')(ha:PE X a (tR (kk X cm) E ma))(hb:PE X b (tR (kk X cm) E mb))(hc:PE X c (tR (kk X cm) E mc))
 (hm:lastMarks [op,AH] [b,c]=false:=by with_unfolding_all rfl):PT X (.Compare a [op,AH] [b,c] pos) (tB (kk X cm) E<|ϯ<|mH f g ma mb mc):=PT.wk (Ei ho AF ha hb hc hm) λd H Q h=>by
 obtain⟨c,F,U,rel,h⟩:=Ie h;exact Ig hf hg ⟨c,F,U,rel,h⟩
@[simp]def cW(m:M Bool)(U:ċ):ĳ Bool:=(m U).bind λb U1=>.ok (!b) U1
def dF{m:M Bool}(h:PT X a (tB (kk X cm) E m)):PT X (.UnaryOp .Not a pos) (tB (kk X cm) E<|cW m):=PT.wk (Jd h) λd H Q ⟨c,F,U,rel,h⟩=>
 ⟨c,F,U,rel,h.bind λp U1 v F1 H1 è _ _ r1 h1=>h1 _ F1 H1 è č č (by have e:p=v:=r1;rw[e];rfl)⟩
@[simp]def ou(ma mb:M Bool)(U:ċ):ĳ Bool:=(ma U).bind λb U1=>if b=true then mb U1 else .ok false U1
@[simp]def kc(ma mb:M Bool)(U:ċ):ĳ Bool:=(ma U).bind λb U1=>if b=true then .ok true U1 else mb U1
variable{ta tb:M Bool}{rest:List È}
def kn(h:PT X a (tB (kk X cm) E ta)):PW X (.BoolOp .And [a] pos) (tB (kk X cm) E ta):=Ge h
def gM(h:PT X a (tB (kk X cm) E ta)):PW X (.BoolOp .Or [a] pos) (tB (kk X cm) E ta):=Jb h
def w_and(ha:PT X a (tB (kk X cm) E ta))(hb:PW X (.BoolOp .And (b::rest) pos) (tB (kk X cm) E tb)):PW X (.BoolOp .And (a::b::rest) pos) (tB (kk X cm) E<|ou ta tb):=PW.wk (Jc ha hb) λd H Q ⟨c,F,U,rel,h⟩=>
 ⟨c,F,U,rel,h.bind fun p U1 v F1 H1 è _ _ r1 h1=>by
   have e:p=v:=r1;subst e;cases p with
   |true=>exact⟨c,F1,U1,è,h1⟩|false=>exact h1 false F1 H1 è č č rfl⟩
def w_or(ha:PT X a (tB (kk X cm) E ta))(hb:PW X (.BoolOp .Or (b::rest) pos) (tB (kk X cm) E tb)):PW X (.BoolOp .Or (a::b::rest) pos) (tB (kk X cm) E<|kc ta tb):=PW.wk (LZ ha hb) λd H Q ⟨c,F,U,rel,h⟩=>
 ⟨c,F,U,rel,h.bind fun p U1 v F1 H1 è _ _ r1 h1=>by
   have e:p=v:=r1;subst e;cases p with
   |false=>exact⟨c,F1,U1,è,h1⟩|true=>exact h1 true F1 H1 è č č rfl⟩
def gm(ma mb:M PV):M PV:=λU=>(ma U).bind λp U1=>match p with
 |.bl true=>mb U1|.bl false=>.ok (.bl false) U1|_=>.bad
def Pa(ma mb:M PV):M PV:=λU=>(ma U).bind λp U1=>match p with
 |.bl true=>.ok (.bl true) U1|.bl false=>mb U1|_=>.bad
@[simp]def JW(ma:M PV)(U:ċ):ĳ PV:=(ma U).bind fun p U1=>match p with
  |.bl b=>.ok (.bl<|!b) U1|_=>.bad
def sT{K:KK}{F:Hp}{b:Bool}{v:V}(h:Ĉ K F (.bl b) v):v=.bl b:=by unfold Ĉ at h;exact h
def gO{op}(h:PE X a (tV (kk X cm) E ma)):PE X (.BoolOp op [a] pos) (tV (kk X cm) E ma):=Je h
def v_and(ha:PE X a (tV (kk X cm) E ma))(hb:PE X (.BoolOp .And (b::rest) pos) (tV (kk X cm) E mb)):PE X (.BoolOp .And (a::b::rest) pos) (tV (kk X cm) E<|gm ma mb):=PE.wk (JG ha hb) λd H Q ⟨c,F,U,rel,h⟩=>
 ⟨c,F,U,rel,h.bind fun p U1 v F1 H1 è _ _ r1 h1=>by
   cases p with
   |bl k=>
    cases sT r1;cases k with
    |true=>exact⟨c,F1,U1,è,h1⟩|false=>exact h1 _ F1 H1 è č č r1
   |_=>exact h1.elim⟩
def v_or(ha:PE X a (tV (kk X cm) E ma))(hb:PE X (.BoolOp .Or (b::rest) pos) (tV (kk X cm) E mb)):PE X (.BoolOp .Or (a::b::rest) pos) (tV (kk X cm) E<|Pa ma mb):=PE.wk (Mn ha hb) λd H Q ⟨c,F,U,rel,h⟩=>
 ⟨c,F,U,rel,h.bind fun p U1 v F1 H1 è _ _ r1 h1=>by
   cases p with
   |bl k=>
    cases sT r1;cases k with
    |false=>exact⟨c,F1,U1,è,h1⟩|true=>exact h1 _ F1 H1 è č č r1
   |_=>exact h1.elim⟩
def v_not(ha:PE X a (tV (kk X cm) E ma)):PE X (.UnaryOp .Not a pos) (tV (kk X cm) E<|JW ma):=PE.wk (JH ha) λd H Q ⟨c,F,U,rel,h⟩=>
 ⟨c,F,U,rel,h.bind fun p U1 v F1 H1 è _ _ r1 h1=>by
   cases p with
   |bl k=>cases sT r1;exact h1 _ F1 H1 è č č Ĉ.bl|_=>exact h1.elim⟩
def ϴ{α:Type}(t:M Bool)(ma mb:M α):M α:=λU=>(t U).bind λb U1=>if b=true then ma U1 else mb U1
def JX{α:Type}{R:RR α V}{c':È}{ma mb:M α}(hc:PT X c' (tB (kk X cm) E ta))(ha:PE X a (tG (kk X cm) E R ma))(hb:PE X b (tG (kk X cm) E R mb)):PE X (.IfExp c' a b pos) (tG (kk X cm) E R<|ϴ ta ma mb):=PE.wk (DK hc ha hb) λd H Q ⟨c,F,U,rel,h⟩=>
 ⟨c,F,U,rel,h.bind fun p U1 v F1 H1 è _ _ r1 h1=>by
   have e:p=v:=r1;subst e;cases p with
   |true=>exact⟨c,F1,U1,è,h1⟩|false=>exact⟨c,F1,U1,è,h1⟩⟩
@[simp]def ã(U:ċ):ĳ (List PV):=.ok [] U
@[simp]def É(ma:M PV)(mr:M (List PV))(U:ċ):ĳ (List PV):=(ma U).bind λp U1=>(mr U1).bind λps U2=>.ok (p::ps) U2
variable{mr:M (List PV)}
def í:PA X [] (tL (kk X cm) E ã):=PA.wk cu λd H Q ⟨c,F,U,rel,h⟩=>h [] F H rel č č é.nil
def Ì(ha:PE X e (tV (kk X cm) E ma))(hr:PA X es (tL (kk X cm) E mr))(hs:Ð (e::es) X.env=(false,eval e X.env)::Ð es X.env:=by exact ŋ rfl):PA X (e::es) (tL (kk X cm) E<|É ma mr):=PA.wk (Ϩ ha hr hs) λd H Q ⟨c,F,U,rel,h⟩=>
 ⟨c,F,U,rel,h.bind λp U1 v F1 H1 è _ _ r1 h1=>⟨c,F1,U1,è,h1.bind λps U2 vs F2 H2 ę sF sH r2 h2=>h2 _ F2 H2 ę č č<|é.cons (Ĉ.same sF p v r1) r2⟩⟩
def ê:PA X [] (EC (kk X cm) E ã):=PA.wk cu λd H Q ⟨c,F,U,rel,h⟩=>h [] F H rel č č .nil
def Ø(ha:PE X e (tR (kk X cm) E ma))(hr:PA X es (EC (kk X cm) E mr))(hs:Ð (e::es) X.env=(false,eval e X.env)::Ð es X.env:=by exact ŋ rfl):PA X (e::es) (EC (kk X cm) E<|É ma mr):=PA.wk (Ϩ ha hr hs) λd H Q ⟨c,F,U,rel,h⟩=>
 ⟨c,F,U,rel,h.bind λp U1 v F1 H1 è _ _ r1 h1=>⟨c,F1,U1,è,h1.bind λps U2 vs F2 H2 ę sF sH r2 h2=>h2 _ F2 H2 ę č č<|.cons (rR.mono r1 sF sH) r2⟩⟩
@[simp]def Ú(U:ċ):ĳ (List Slot):=.ok [] U
@[simp]def Û(ma:M PV)(mr:M (List Slot))(U:ċ):ĳ (List Slot):=(ma U).bind λp U1=>(mr U1).bind λas U2=>.ok (.sh p::as) U2
noncomputable def eM:Slot->Option Slot
 |.sh p=>some<|.sh p|.ow ps=>some<|.bw ps|.bw ps=>some<|.bw ps|.bn qs rows=>some<|.sh<|.lst (.lst qs::rows)|.dw gL=>some<|.dw gL|_=>none
@[simp]def Í(i:Nat)(mr:M (List Slot))(U:ċ):ĳ (List Slot):=match(U[i]?).bind eM with
  |none=>.bad|some _=>(mr U).bind λas U2=>match(U2[i]?).bind eM with
   |some s=>.ok (s::as) U2|none=>.bad
variable{ms:M (List Slot)}
def Ô:PA X [] (tA (kk X cm) E Ú):=PA.wk cu λd H Q ⟨c,F,U,rel,h⟩=>h [] F H rel č č .nil
def Ó(ha:PE X e (tV (kk X cm) E ma))(hr:PA X es (tA (kk X cm) E ms))(hs:Ð (e::es) X.env=(false,eval e X.env)::Ð es X.env:=by exact ŋ rfl):PA X (e::es) (tA (kk X cm) E<|Û ma ms):=PA.wk (Ϩ ha hr hs) λd H Q ⟨c,F,U,rel,h⟩=>
 ⟨c,F,U,rel,h.bind λp U1 v F1 H1 è _ _ r1 h1=>⟨c,F1,U1,è,h1.bind λas U2 vs F2 H2 ę sF sH r2 h2=>h2 _ F2 H2 ę č č<|.cons (show dC _ _ _ (.sh p) v from Ĉ.same sF p v r1) r2⟩⟩
def sr{K:KK}{c:Ctx}{F H:Hp}{f:Ċ}{U:ċ}{i:Nat}{s:Slot}(rel:ĝ K c F H f U)(h:(U[i]?).bind eM=some s):∃v,f[i]?=some (some v)/\dC K F H s v:=by
 cases e:U[i]?with
 |none=>rw[e]at h;cases h|some sl=>
  rw[e]at h;have h':eM sl=some s:=h;cases sl with
  |sh p=>cases h';obtain⟨v,h1,h2⟩:=rel.slot i _ e;exact⟨v,ň h1,h2⟩|ow ps=>cases h';obtain⟨a,vs,h1,h2,h3,h4,h5,_⟩:=rel.ow e;exact⟨.ref a,h1,a,vs,rfl,h2,h3,h5⟩|bw ps=>cases h';obtain⟨a,vs,h1,h2,h3⟩:=rel.slot i _ e;exact⟨.ref a,ň h1,a,vs,rfl,(rel.lent a _ h2).1,(rel.lent a _ h2).2,h3⟩|no=>cases h'|rc C ns ps=>cases h'|ot ps qs rs=>cases h'|ol pS=>cases h'|fr pS=>cases h'|pw ps=>cases h'|pin=>cases h'|bn qs rows=>cases h';obtain⟨v,h1,h2⟩:=rel.slot i _ e;exact⟨v,ň h1,h2.rep⟩|dw gL=>cases h';obtain⟨a,ts,h1,h2,h3⟩:=rel.slot i _ e;exact⟨.ref a,ň h1,a,ts,rfl,(rel.lent a _ h2).1,(rel.lent a _ h2).2,lO h3 λt d _ ⟨xs,b,vs,k1,k2,k3,k4⟩=>⟨xs,b,vs,k1,k2,rel.lent b _ k3,k4⟩⟩
def GN(i:Nat){x:Str}{px:Pos}(hk:Cw X i x=true:=by kernel_rfl)(hr:PA X es (tA (kk X cm) E ms))(hs:Ð (.Name x px::es) X.env=(false,eval (.Name x px) X.env)::Ð es X.env:=by exact ŋ rfl):PA X (.Name x px::es) (tA (kk X cm) E<|Í i ms):=
 PA.wk (Ϩ (lM hk) hr hs)<|by
   rintro d H Q ⟨c,F,U,rel,h⟩;unfold Í at h;cases e:(U[i]?).bind eM with
   |none=>rw[e]at h;exact h.elim|some s0=>
    rw[e]at h;obtain⟨v,hv,_⟩:=sr rel e;refine⟨v,hv,c,F,U,rel,Ϸ.bind h λas U2 vs F2 H2 ę sF sH r2 h2=>?_⟩;cases e2:(U2[i]?).bind eM with
    |none=>simp only[e2]at h2;exact h2.elim|some s=>simp only[e2]at h2;obtain⟨v',HH,r1⟩:=sr ę e2;rw[hv]at HH;cases HH;exact h2 _ F2 H2 ę č č<|.cons r1 r2
@[simp]def Ō(mr:M (List PV))(U:ċ):ĳ PV:=(mr U).bind λps U1=>if ps.length<=16777216then .ok (.tup ps) U1 else .bad
@[simp]def bP(mr:M (List PV))(U:ċ):ĳ RV:=(mr U).bind λps U1=>if ps.length<=16777216then .ok (.ow ps) U1 else .bad
def Ĝ:sizeLine=16777216:=dW
def Ĩ{x1}(h:PA X es (tL (kk X cm) E mr)):PE X (.Tuple es x1 pos) (tV (kk X cm) E<|Ō mr):=PE.wk (D7 h) λd H Q ⟨c,F,U,rel,h⟩=>
 ⟨c,F,U,rel,h.bind fun ps U1 vs F1 H1 è _ _ r1 h1=>by
   split at h1
   ·rename_i hz;refine⟨by rw[<-é.length r1,Ĝ];exact hz,λp hp=>h1 _ _ _ (è.alloc hp) (Þ.upd<|è.sub.free hp) (Þ.upd hp) ?_⟩;show Ĉ _ _ _ _;unfold Ĉ;exact⟨p,vs,rfl,fL.of ą,é.same (Þ.upd<|è.sub.free hp) ps vs r1⟩
   ·exact h1.elim⟩
def iy{K:KK}{c:Ctx}{F H:Hp}{d:Ċ}{U:ċ}{ps:List PV}{vs:List V}{a:À}(rel:ĝ K c F H d U)(ha:H a=none)(r:é K F ps vs):ĝ K c F (upd H a<|.lst vs) d U/\FH K c d U F (upd H a<|.lst vs) ps (.ref a):=
 ⟨rel.made ha,a,vs,rfl,ą,rel.sub.free ha,rel.base.free ha,rel.fresh ha,r⟩
def Ų(h:PA X es (tL (kk X cm) E mr)):PE X (.List es pos) (tO (kk X cm) E<|bP mr):=PE.wk (zY h) λd H Q ⟨c,F,U,rel,h⟩=>
 ⟨c,F,U,rel,h.bind fun ps U1 vs F1 H1 è _ _ r1 h1=>by
   split at h1
   ·rename_i hz;refine⟨by rw[<-é.length r1,Ĝ];exact hz,λp hp=>?_⟩;obtain⟨q1,q2⟩:=iy è hp r1;exact h1 _ _ _ q1 č (Þ.upd hp) q2
   ·exact h1.elim⟩
@[simp]def Ϲ(f:List PV->Option PV)(mr:M (List PV))(U:ċ):ĳ PV:=(mr U).bind λps U1=>ĳ.yJ (f ps) U1
@[simp]def xD(f:List PV->Option RV)(mr:M (List PV))(U:ċ):ĳ RV:=(mr U).bind λps U1=>ĳ.yJ (f ps) U1
def dG(K:KK)(r:List V->Hp->VK->Prop)(f:List PV->Option PV):Prop:=∀{c:Ctx}{F H:Hp}{d:Ċ}{U:ċ}{ps:List PV}{pv:PV}{vs:List V}{Q:VK},ĝ K c F H d U->JV K c d U F H ps vs->f ps=some pv->
 (∀z F' H',ĝ K c F' H' d U->Þ F F'->Þ H H'->Ĉ K F' pv z->Q z H')->r vs H Q
def EE(K:KK)(r:List V->Hp->VK->Prop)(f:List PV->Option RV):Prop:=∀{c:Ctx}{F H:Hp}{d:Ċ}{U:ċ}{ps:List PV}{pv:RV}{vs:List V}{Q:VK},ĝ K c F H d U->JV K c d U F H ps vs->f ps=some pv->
 (∀z F' H',ĝ K c F' H' d U->Þ F F'->Þ H H'->rO K c d U F' H' pv z->Q z H')->r vs H Q
def MB{r:List V->Hp->VK->Prop}{f:List PV->Option PV}(hf:dG (kk X cm) r f){d:Ċ}{H:Hp}{Q:VK}(h:tV (kk X cm) E (Ϲ f mr) d H Q):O6 r (EC (kk X cm) E mr) d H Q:=by
 obtain⟨c,F,U,rel,h⟩:=h;refine⟨c,F,U,rel,h.bind λp U1 v F1 H1 è _ _ r1 h1=>?_⟩;cases e:f p with
 |none=>rw[e]at h1;exact h1.elim|some pv=>rw[e]at h1;exact hf è r1 e λz F' H' ž s1 s2 q'=>h1 z F' H' ž s1 s2 q'
def RZ{r:List V->Hp->VK->Prop}{f:List PV->Option RV}(hf:EE (kk X cm) r f){d:Ċ}{H:Hp}{Q:VK}(h:tO (kk X cm) E (xD f mr) d H Q):O6 r (EC (kk X cm) E mr) d H Q:=by
 obtain⟨c,F,U,rel,h⟩:=h;refine⟨c,F,U,rel,h.bind λp U1 v F1 H1 è _ _ r1 h1=>?_⟩;cases e:f p with
 |none=>rw[e]at h1;exact h1.elim|some pv=>rw[e]at h1;exact hf è r1 e λz F' H' ž s1 s2 q'=>h1 z F' H' ž s1 s2 q'
end
open M3
@[simp]def bi(U:ċ):ĳ Fl:=.ok .nx U
def æ(a b:M Fl):M Fl:=λU=>(a U).bind λf U1=>match f with
 |.nx=>b U1|f=>.ok f U1
@[simp]def ć(i:Nat)(m:M RV)(U:ċ):ĳ Fl:=(m U).bind λr U1=>.ok .nx<|U1.set i r.slot
@[simp]def ú(m:M RV)(U:ċ):ĳ Fl:=(m U).bind λr U1=>.ok (.rt r) U1
@[simp]def BK(m:M PV)(U:ċ):ĳ Fl:=(m U).bind λ_ U1=>.ok .nx U1
section
variable{X:Cx}{cm:String->À}{E:Ċ->XK}{a b e:È}{st:ò}{rest:List ò}{es:List È}{pos:Pos}{m1 m2:M Fl}{mo:M RV}{mv:M PV}
def ù:dB X [] (tS (kk X cm) E bi):=dB.wk Bs λD d H ⟨c,F,U,rel,h⟩=>h d F H rel<|Þ.refl F
def ô(h:PS X st (tS (kk X cm) E m1)):dB X [st] (tS (kk X cm) E m1):=jq h
def GO{c:Ctx}{F:Hp}{D:Ends}{r:ĳ Fl}(h:ϸ (kk X cm) E c F D (r.bind λf U1=>match f with|.nx=>m2 U1|f=>.ok f U1)):ϸ (kk X cm) E c F {D with nx:=tS (kk X cm) E m2 D} r:=by
 cases r with
 |ok f U1=>
  cases f with
  |nx=>exact λd F' H' ž s=>⟨c,F',U1,ž,ϸ.mono h s⟩
  |bk=>exact h|ct=>exact h|rt v=>exact h
 |exc x U1=>exact h|bad=>exact h
def Ö(h1:PS X st (tS (kk X cm) E m1))(h2:dB X rest (tS (kk X cm) E m2)):dB X (st::rest) (tS (kk X cm) E<|æ m1 m2):=dB.wk (io h1 h2) λD d H ⟨c,F,U,rel,h⟩=>⟨c,F,U,rel,GO h⟩
def ĝ.JY{K:KK}{c:Ctx}{F H:Hp}{d:Ċ}{U:ċ}{i:Nat}{t:Bool}{ps qs rows:List PV}{v:V}(r:ĝ K c F H d U)(q:mE K c.B F t ps qs rows v):ĝ K c F H (d.set i<|some v) (U.set i (RV.bn t ps qs rows).slot):=by
 cases t with
 |true=>exact r.put (s:=.sh<|O9 true ps qs rows) rfl ⟨v,rfl,mE.rep q⟩|false=>
  have e:ps=[]:=by
   obtain⟨_,_,_,_,_,_,_,_,_,_,_,z⟩:=q;rcases z with⟨_,z,_⟩|⟨z,_⟩
   ·exact z
   ·cases z
  subst e;exact r.put (s:=.bn qs rows) rfl ⟨v,rfl,q⟩
def MC{i:Nat}{x:Str}{cA:Pos}(hN:X.N.Nodup)(hi:X.N[i]?=some x)(hx:Loc X.env.scope x)(he:PE X e (tO (kk X cm) E mo))(hs:ū e (some<|.Name x cA) pos.line X.env=ñ false:=by kernel_rfl)(hf:X.fn x=true\/X.env.scope.names.lookup x=some .local:=by first|exact .inl rfl|exact .inr rfl|assumption):
 PS X (.Assign [.Name x cA] e pos) (tS (kk X cm) E<|ć i mo):=PS.wk (xn hN hi hx he hs hf) λD d H ⟨c,F,U,rel,h⟩=>⟨c,F,U,rel,ϸ.bind h λr U1 v F1 H1 è s1 q h1=>by
 cases r with
 |sh p=>exact h1 _ F1 H1 (è.put rfl ⟨v,rfl,q⟩) č|ow ps=>obtain⟨a,vs,rfl,q1,q2,q3,q4,q5⟩:=q;exact h1 _ F1 H1 (è.CT ⟨a,vs,rfl,q1,q2,q3,q5⟩ λ_ z=>V.ref.inj z▸q4) č
 |ot ps qs rs=>obtain⟨p,a,xs,vs,ys,rfl,q0,qx,q1,q2,q3,q4,q5,q6⟩:=q;exact h1 _ F1 H1 (è.CT (s:=.ot ps qs rs) ⟨p,a,xs,vs,ys,rfl,q0,qx,q1,q2,q3,q5,q6⟩ λ_ z=>om (ps:=ps) (qs:=qs) (rs:=rs) z ⟨p,xs,ys,rfl,q0,qx.length.symm⟩▸q4) č
 |bn t ps qs rows=>exact h1 _ F1 H1 (è.JY q) č⟩
def MD(he:PE X e (tO (kk X cm) E mo)):PS X (.Return (some e) pos) (tS (kk X cm) E<|ú mo):=PS.wk (Jf he) λD d H ⟨c,F,U,rel,h⟩=>⟨c,F,U,rel,ϸ.bind h λr U1 v F1 H1 è s1 q h1=>h1 v d F1 H1 è č q⟩
def Af(he:PE X e (tV (kk X cm) E mv))(hs:ū e none pos.line X.env=ñ false:=by kernel_rfl):PS X (.Expr e pos) (tS (kk X cm) E<|BK mv):=PS.wk (ϵ he hs) λD d H ⟨c,F,U,rel,h⟩=>⟨c,F,U,rel,ϸ.bind h λr U1 v F1 H1 è s1 q h1=>h1 d F1 H1 è č⟩
def ĭ{t:M Bool}{ss Oy:List ò}(hc:PT X a (tB (kk X cm) E t))(ha:dB X ss (tS (kk X cm) E m1))(hb:dB X Oy (tS (kk X cm) E m2)):PS X (.If a ss Oy pos) (tS (kk X cm) E<|ϴ t m1 m2):=PS.wk (DM hc ha hb) λD d H ⟨c,F,U,rel,h⟩=>⟨c,F,U,rel,ϸ.bind h λr U1 v F1 H1 è s1 q h1=>by
 have e:r=v:=q;subst e;cases r with
 |true=>exact⟨c,F1,U1,è,h1⟩|false=>exact⟨c,F1,U1,è,h1⟩⟩
def cX{α:Type}:M α:=λ_=>.bad
def Ĵ:PS X st (tS (kk X cm) E cX):=PS.wk DN λD d H ⟨c,F,U,rel,h⟩=>h
abbrev Tg:=PV->ċ->Option ċ
abbrev DA:=List PV->ċ->Option ċ
def JZ(K:KK)(c:Ctx)(F H:Hp)(Q:Ċ->Hp->Prop):Option ċ->Prop
 |some U'=>∀d,ĝ K c F H d U'->Q d H|none=>False
def tT(K:KK)(g:Tg):TG:=λv d H Q=>∃c F U p,ĝ K c F H d U/\Ĉ K F p v/\JZ K c F H Q (g p U)
def ME(K:KK)(g:DA):DO:=λv d H Q=>∃c F U p,ĝ K c F H d U/\é K F p v/\JZ K c F H Q (g p U)
def gN(i:Nat):Tg:=λp U=>some<|U.set i<|.sh p
def ϒ:DA:=λps U=>match ps with
 |[]=>some U|_=>none
def ï(g:Tg)(gs:DA):DA:=λps U=>match ps with
 |p::ps=>(g p U).bind λU1=>gs ps U1
 |[]=>none
def gT(n:Nat)(gs:DA):Tg:=λp U=>match p with
 |.tup ps=>if ps.length=n then gs ps U else none|_=>none
def PG.R_{tg:È}{t t':TG}(h:PG X tg t)(i:∀v c H Q,t' v c H Q->t v c H Q):PG X tg t':=λÇ s c H v u Q I r q=>h Ç s c H v u Q I r<|i v c H Q q
def zy.wk{tg:List È}{t t':DO}(h:zy X tg t)(i:∀v c H Q,t' v c H Q->t v c H Q):zy X tg t':=λÇ s c H v u Q I r q=>h Ç s c H v u Q I r<|i v c H Q q
def EG{i:Nat}{x:Str}(hN:X.N.Nodup)(hi:X.N[i]?=some x)(hx:Loc X.env.scope x)(hf:X.fn x=true\/X.env.scope.names.lookup x=some .local:=by first|exact .inl rfl|exact .inr rfl|assumption):PG X (.Name x pos) (tT (kk X cm)<|gN i):=
 PG.R_ (lB hN hi hx hf) λv d H Q ⟨c,F,U,p,rel,rp,h⟩=>h _<|rel.put rfl ⟨v,rfl,rp⟩
def aV:zy X [] (ME (kk X cm) ϒ):=zy.wk xl<|by
 rintro v d H Q ⟨c,F,U,p,rel,rp,h⟩;cases p with
 |nil=>
  have e:v=[]:=by have:=rp;unfold é at this;exact this
  exact⟨e,h d rel⟩
 |cons _ _=>exact h.elim
def ÿ{es:List È}{g:Tg}{gs:DA}(h1:PG X e (tT (kk X cm) g))(h2:zy X es (ME (kk X cm) gs))(hs:(ϐ (e::es) X.env).map (·.2)=cO e X.env::(ϐ es X.env).map (·.2):=by rfl):zy X (e::es) (ME (kk X cm)<|ï g gs):=
 zy.wk (ip h1 h2 hs)<|by
  rintro v f H Q ⟨c,F,U,p,rel,rp,h⟩;cases p with
  |nil=>exact h.elim|cons p ps=>
   unfold é at rp;obtain⟨x,r,rfl,r1,r2⟩:=rp;refine⟨x,r,rfl,c,F,U,p,rel,r1,?_⟩;unfold ï at h;dsimp only at h;cases eg:g p U with
   |none=>rw[eg]at h;exact h.elim|some U1=>rw[eg]at h;exact λd ž=>⟨c,F,U1,ps,ž,r2,h⟩
def oy{es:List È}{k:Nat}{gs:DA}{n:Nat}(hc:X.calm=true)(h:zy X es (ME (kk X cm) gs))(hn:(ϐ es X.env).length=n:=by rfl)(mZ:(ϐ es X.env).findIdx? (·.1)=none:=by rfl):PG X (.Tuple es k pos) (tT (kk X cm)<|gT n gs):=
 PG.R_ (xm hc h hn mZ)<|by
   rintro v d H Q ⟨c,F,U,p,rel,rp,h⟩;cases p with
   |tup ps=>
    unfold Ĉ at rp;obtain⟨a,xs,h1,h2,h3⟩:=rp;unfold gT at h;dsimp only at h;split at h
    ·rename_i hl;exact⟨a,xs,h1,Þ.tup rel.sub h2,by rw[<-h3.length];exact hl,c,F,U,ps,rel,h3,h⟩
    ·exact h.elim
   |_=>exact h.elim
@[simp]def xE(g:Tg)(m:M PV)(U:ċ):ĳ Fl:=(m U).bind fun p U1=>match g p U1 with
  |some U2=>.ok .nx U2|none=>.bad
def pV{tg:È}{g:Tg}(he:PE X e (tV (kk X cm) E mv))(hg:PG X tg (tT (kk X cm) g))(hs:wy [tg] e pos.line X.env=ñ false:=by rfl)(hw:wz [tg] e X.env=ñ none:=by rfl)
 (h1:(ϐ [tg] X.env).map (·.2)=[cO tg X.env]:=by rfl):PS X (.Assign [tg] e pos) (tS (kk X cm) E<|xE g mv):=PS.wk (DQ he hg hs hw h1) λD f H ⟨c,F,U,rel,h⟩=>⟨c,F,U,rel,ϸ.bind h λr U1 v F1 H1 è s1 q h1=>by
 refine⟨c,F1,U1,r,è,q,?_⟩;cases eg:g r U1 with
 |none=>rw[eg]at h1;exact h1.elim|some U2=>rw[eg]at h1;exact λd ž=>h1 d F1 H1 ž č⟩
@[simp]def EH(i:Nat)(mi:M PV)(m:M PV)(U:ċ):ĳ Fl:=(m U).bind fun p U1=>match U1[i]?with
  |some (.ow _)=>(mi U1).bind λq U2=>match U2[i]?,q with
   |some (.ow ps),.int k=>match CK ps.length k with
    |some j=>.ok .nx<|U2.set i<|.ow<|ps.set j p|none=>.bad
   |_,_=>.bad
  |_=>.bad
def GP{i:Nat}{x:Str}{ix:È}{mi:M PV}{px Ag:Pos}(he:PE X e (tV (kk X cm) E mv))(hi:PE X ix (tV (kk X cm) E mi))(ho:PE X (.Name x px) (jm i))
 (HK:∀v,cO (.Subscript (.Name x px) ix Ag) X.env v=(do
   let ov<-ca [v] (eval (.Name x px) X.env)
   let iv<-ca [v,ov] (eval ix X.env)
   gv Ag
   ca [v,ov,iv] (setItem ov iv v)
   release [v,ov,iv] []):=by intro _;rfl)
 (hs:wy [.Subscript (.Name x px) ix Ag] e pos.line X.env=ñ false:=by rfl)(hw:wz [.Subscript (.Name x px) ix Ag] e X.env=ñ none:=by rfl)
 (h1:(ϐ [.Subscript (.Name x px) ix Ag] X.env).map (·.2)=[cO (.Subscript (.Name x px) ix Ag) X.env]:=by rfl):
 PS X (.Assign [.Subscript (.Name x px) ix Ag] e pos) (tS (kk X cm) E<|EH i mi mv):=PS.wk (DQ he (Ji ho hi FE HK) hs hw h1) λD d H ⟨c,F,U,rel,h⟩=>⟨c,F,U,rel,ϸ.bind h λp U1 v F1 H1 è s1 q h1=>by
 cases e1:U1[i]?with
 |none=>rw[e1]at h1;exact h1.elim|some sl=>
  rw[e1]at h1;cases sl with
  |ow R0=>
   obtain⟨a,R1,z1,_,_,_,_,_⟩:=è.ow e1;refine⟨.ref a,z1,c,F1,U1,è,ϸ.bind h1 λq' U2 u F2 H2 ę s2 r2 h2=>?_⟩;cases e2:U2[i]?with
   |none=>rw[e2]at h2;exact h2.elim|some Dp=>
    rw[e2]at h2;cases Dp with
    |ow ps=>
     cases q' with
     |int k=>
      have eu:u=.int k:=by have:Ĉ (kk X cm) F2 (.int k) u:=r2;unfold Ĉ at this;exact this
      subst eu;dsimp only at h2;obtain⟨a2,vs,w1,w2,w3,w4,w5,w6⟩:=ę.ow e2;rw[z1]at w1;cases w1;cases ej:CK ps.length k with
      |none=>rw[ej]at h2;exact h2.elim|some j=>rw[ej]at h2;refine⟨a,vs,k,j,rfl,rfl,w2,by rw[<-w5.length];exact ej,h2 d F2 _ (ę.write w6 z1 ⟨a,vs.set j v,rfl,ą,w3,w4,?_⟩ λ_ z=>(V.ref.inj z).symm) č⟩;exact é.of<|Ey (Ĉ.same s2 p v q) j w5.pr
     |_=>exact h2.elim
    |_=>exact h2.elim
  |_=>exact h1.elim⟩
@[simp]def xF(i:Nat)(m:M PV)(U:ċ):ĳ Fl:=match U[i]?with
  |some (.ow _)=>(m U).bind λp U1=>match U1[i]?with
   |some (.ow ps)=>if ps.length<16777216then .ok .nx (U1.set i<|.ow<|ps++[p])else .bad|_=>.bad
  |_=>.bad
def jz{i:Nat}{D:Ends}{f:Ċ}{H:Hp}(h:tS (kk X cm) E (xF i mv) D f H):sJ (Lj X.K "list" oi (jm i) (tL (kk X cm) E<|É mv ã)) D f H:=by
 obtain⟨c,F,U,rel,h⟩:=h;unfold xF at h;cases e1:U[i]?with
 |none=>rw[e1]at h;exact h.elim|some sl=>
  rw[e1]at h;cases sl with
  |ow R0=>
   obtain⟨a,R1,z1,z2,z3,z4,z5,z6⟩:=rel.ow e1;refine⟨.ref a,z1,.inl ⟨rfl,_,ϱ.of z2⟩,c,F,U,rel,?_⟩;dsimp only at h;unfold É;cases em:mv U with
   |bad=>rw[em]at h;exact h|exc x U1=>rw[em]at h;exact λC d F' H' ž s1 q=>h f C d F' H' ž s1 q
   |ok p U1=>
    rw[em]at h;intro us F1 H1 è s1 s2 r1;have sE:é (kk X cm) F1 [p] us:=r1;cases sE.pr with
    |cons rp t=>
     rename_i v yu;cases t;cases e2:U1[i]?with
     |none=>simp only[ĳ.aL,e2]at h;exact h.elim|some Dp=>
      simp only[ĳ.aL,e2]at h;cases Dp with
      |ow ps=>
       obtain⟨a2,vs,w1,w2,w3,w4,w5,w6⟩:=è.ow e2;rw[z1]at w1;cases w1;dsimp only at h;split at h
       ·rename_i hz;refine⟨a,vs,v,rfl,rfl,w2,by rw[<-w5.length,Ĝ];exact hz,h f F1 _ (è.write w6 z1 ⟨a,vs++[v],rfl,ą,w3,w4,é.append w5<|é.cons rp é.nil⟩ λ_ z=>(V.ref.inj z).symm) s1⟩
       ·exact h.elim
      |_=>exact h.elim
  |_=>exact h.elim
noncomputable def Ĥ(mc:M Bool)(mb:M Fl):Nat->ċ->ĳ Fl
 |0,_=>.bad|n+1,U=>(mc U).bind λb U1=>if b=true then(mb U1).bind λf U2=>match f with
  |.nx=>Ĥ mc mb n U2|.ct=>Ĥ mc mb n U2|.bk=>.ok .nx U2|.rt r=>.ok (.rt r) U2 else .ok .nx U1
theorem aW{mc:M Bool}{mb:M Fl}(n:Nat)(U:ċ):Ĥ mc mb (n+1) U=(mc U).bind λb U1=>if b=true then(mb U1).bind λf U2=>match f with
 |.nx=>Ĥ mc mb n U2|.ct=>Ĥ mc mb n U2|.bk=>.ok .nx U2|.rt r=>.ok (.rt r) U2 else .ok .nx U1:=rfl
open Classical in
noncomputable def aC(mc:M Bool)(mb:M Fl):M Fl:=λU=>if h:∃n,Ĥ mc mb n U≠.bad then Ĥ mc mb (AK h) U else .bad
theorem ko{mc:M Bool}{mb:M Fl}:∀(n:Nat) (U:ċ),Ĥ mc mb n U≠.bad->Ĥ mc mb (n+1) U=Ĥ mc mb n U
 |0,U,h=>absurd rfl h|n+1,U,h=>by
  rw[aW]at h;rw[aW<|n+1,aW n];cases e:mc U with
  |bad=>rfl|exc x U1=>rfl|ok b U1=>
   rw[e]at h;simp only[ĳ.aL]at h⊢;cases b with
   |false=>rfl|true=>
    simp only[if_true]at h⊢;cases e2:mb U1 with
    |bad=>rfl|exc x U2=>rfl|ok f U2=>
     rw[e2]at h;simp only[ĳ.aL]at h⊢;cases f with
     |nx=>exact ko n U2 h|ct=>exact ko n U2 h|bk=>rfl|rt r=>rfl
def uZ{mc:M Bool}{mb:M Fl}{n m:Nat}{U:ċ}(h:Ĥ mc mb n U≠.bad)(hm:n<=m):Ĥ mc mb m U=Ĥ mc mb n U:=by
 induction hm with
 |refl=>rfl|step _ ih=>rw[ko _ _ (by rw[ih];exact h),ih]
def bG{mc:M Bool}{mb:M Fl}{U:ċ}(n:Nat)(h:Ĥ mc mb n U≠.bad):aC mc mb U=Ĥ mc mb n U:=by
 unfold aC;have hx:∃n,Ĥ mc mb n U≠.bad:=⟨n,h⟩;rw[dif_pos hx];have hc:=Classical.choose_spec hx;rcases Nat.le_total n (AK hx)with hle|hle
 ·exact uZ h hle
 ·exact(uZ hc hle).symm
theorem cF{mc:M Bool}{mb:M Fl}{U:ċ}:aC mc mb U=(mc U).bind λb U1=>if b=true then(mb U1).bind λf U2=>match f with
 |.nx=>aC mc mb U2|.ct=>aC mc mb U2|.bk=>.ok .nx U2|.rt r=>.ok (.rt r) U2 else .ok .nx U1:=by
 have go:∀U2,aC mc mb U2=.bad\/∃n,aC mc mb U2=Ĥ mc mb n U2/\Ĥ mc mb n U2≠.bad:=λU2=>by
  by_cases hx:∃n,Ĥ mc mb n U2≠.bad
  ·obtain⟨n,h⟩:=hx;exact .inr ⟨n,bG n h,h⟩
  ·left;unfold aC;rw[dif_neg hx]
 have R3:∀U2,aC mc mb U2=.bad->∀n,Ĥ mc mb n U2=.bad:=λU2 h n=>by refine AL λz=>?_;rw[bG n z]at h;exact z h
 have mV:∀n,Ĥ mc mb (n+1) U≠.bad->aC mc mb U=Ĥ mc mb (n+1) U:=λn h=>bG _ h;cases e:mc U with
 |bad=>rcases go U with h|⟨n,h1,h2⟩
       ·rw[h];rfl
       ·cases n with
        |zero=>exact absurd rfl h2|succ n=>rw[aW,e]at h2;exact absurd rfl h2
 |exc x U1=>
  have h:Ĥ mc mb 1 U=.exc x U1:=by rw[aW,e];rfl
  rw[bG 1 (by rw[h];intro z;cases z),h];rfl
 |ok b U1=>
  simp only[ĳ.aL];cases b with
  |false=>
   have h:Ĥ mc mb 1 U=.ok .nx U1:=by rw[aW,e];rfl
   rw[bG 1 (by rw[h];intro z;cases z),h];rfl
  |true=>
   simp only[if_true];have one:∀n,Ĥ mc mb (n+1) U=(mb U1).bind λf U2=>match f with
    |.nx=>Ĥ mc mb n U2|.ct=>Ĥ mc mb n U2|.bk=>.ok .nx U2|.rt r=>.ok (.rt r) U2:=λn=>by rw[aW,e];rfl
   cases e2:mb U1 with
   |bad=>
    rcases go U with h|⟨n,h1,h2⟩
    ·rw[h];rfl
    ·cases n with
     |zero=>exact absurd rfl h2|succ n=>rw[one,e2]at h2;exact absurd rfl h2
   |exc x U2=>
    have h:Ĥ mc mb 1 U=.exc x U2:=by rw[one,e2];rfl
    rw[bG 1 (by rw[h];intro z;cases z),h];rfl
   |ok f U2=>
    have turn:(∀n,Ĥ mc mb (n+1) U=Ĥ mc mb n U2)->aC mc mb U=aC mc mb U2:=λhn=>by
     rcases go U2 with h|⟨n,h1,h2⟩
     ·rcases go U with h'|⟨n,h1,h2⟩
      ·rw[h,h']
      ·cases n with
       |zero=>exact absurd rfl h2|succ n=>rw[hn,R3 U2 h n]at h2;exact absurd rfl h2
     ·rw[h1,<-hn n];exact mV n (by rw[hn n];exact h2)
    cases f with
    |nx=>exact turn λn=>by rw[one,e2];rfl
    |ct=>exact turn λn=>by rw[one,e2];rfl
    |bk=>
     have h:Ĥ mc mb 1 U=.ok .nx U2:=by rw[one,e2];rfl
     rw[bG 1 (by rw[h];intro z;cases z),h];rfl
    |rt r=>
     have h:Ĥ mc mb 1 U=.ok (.rt r) U2:=by rw[one,e2];rfl
     rw[bG 1 (by rw[h];intro z;cases z),h];rfl
def BM{c:È}{body:List ò}{mc:M Bool}{mb:M Fl}(hp:nK (Ü X.prog X.w) X.A X.env X.xe)(hc:PT X c (tB (kk X cm) E mc))(hb:dB X body (tS (kk X cm) E mb)):PS X (.While c body [] pos) (tS (kk X cm) E<|aC mc mb):=PS.wk (DR hp hc hb)<|by
 rintro D i H ⟨c,F,U,rel,h⟩;obtain⟨n,hn⟩:∃n,ϸ (kk X cm) E c F D (Ĥ mc mb n U):=by
  by_cases hx:∃n,Ĥ mc mb n U≠.bad
  ·obtain⟨n,hn⟩:=hx;rw[bG n hn]at h;exact⟨n,h⟩
  ·unfold aC at h;rw[dif_neg hx]at h;exact h.elim
 refine⟨λm d H'=>∃F2 U2,ĝ (kk X cm) c F2 H' d U2/\Þ F F2/\ϸ (kk X cm) E c F2 D (Ĥ mc mb m U2),⟨n,F,U,rel,Þ.refl _,hn⟩,?_⟩;rintro m g H1 ⟨F1,U1,è,s1,h1⟩;cases m with
 |zero=>exact h1.elim|succ m=>
  rw[aW]at h1;refine⟨c,F1,U1,è,ϸ.bind h1 λk U2 v F2 H2 ę s2 q h2=>?_⟩;have e:k=v:=q;subst e;cases k with
  |false=>rw[if_neg bZ];rw[if_neg bZ]at h2;exact h2 g F2 H2 ę č|true=>
   rw[if_pos rfl];rw[if_pos rfl]at h2;refine⟨_,λd H' z=>z,c,F2,U2,ę,?_⟩;have Oz:∀{U3:ċ},ϸ (kk X cm) E c F2 D (Ĥ mc mb m U3)->∀d F' H',ĝ (kk X cm) c F' H' d U3->Þ F2 F'->∃m',m'<m+1/\∃F2 U2,ĝ (kk X cm) c F2 H' d U2/\Þ F F2/\ϸ (kk X cm) E c F2 D (Ĥ mc mb m' U2):=
    fun{U3} h3 d F' H' ž s'=>⟨m,qW m,F',U3,ž,(s1.trans s2).trans s',ϸ.mono h3 s'⟩
   cases e2:mb U2 with
   |bad=>rw[e2]at h2;exact h2|exc x U3=>rw[e2]at h2;exact h2|ok f U3=>
    rw[e2]at h2;cases f with
    |nx=>exact Oz h2|ct=>exact Oz h2|bk=>exact h2|rt r=>exact h2
def ij(K:KK)(Lh F:Hp)(J:It)(items:List PV):Prop:=∀(c:Ctx) (i:Nat) (F2 H:Hp) (d:Ċ) (U:ċ),ĝ K c F2 H d U->Þ F F2->Þ Lh H->
 (∀p,items[i]?=some p->J.go i H/\∀x H',J.L4 i H x H'->∃F3,ĝ K c F3 H' d U/\Þ F2 F3/\Þ H H'/\Ĉ K F3 p x)/\(i=items.length->J.stop i H)
def V_(K:KK):RR (List PV) It:=λc _ _ F _ items J=>ij K c.L F J items
abbrev tI(K:KK)(E:Ċ->XK)(m:M (List PV)):TI:=tG K E (V_ K) m
noncomputable def ĺ(g:Tg)(mb:M Fl):List PV->M Fl
 |[],U=>.ok .nx U|p::ps,U=>match g p U with
  |none=>.bad|some U1=>(mb U1).bind λf U2=>match f with
   |.nx=>ĺ g mb ps U2|.ct=>ĺ g mb ps U2|.bk=>.ok .nx U2|.rt r=>.ok (.rt r) U2
def eN(mi:M (List PV))(g:Tg)(mb:M Fl):M Fl:=λU=>(mi U).bind λitems U1=>ĺ g mb items U1
def aM{iter tg:È}{body:List ò}{mi:M (List PV)}{g:Tg}{mb:M Fl}(hp:nK (Ü X.prog X.w) X.A X.env X.xe)(hc:X.calm=true)(hi:PI X tg iter (tI (kk X cm) E mi))(hg:PG X tg (tT (kk X cm) g))(hb:dB X body (tS (kk X cm) E mb))
 (hs:∀x,cR iter X.env x=ñ x:=by intro _;rfl):PS X (.For tg iter body [] pos) (tS (kk X cm) E<|eN mi g mb):=PS.wk (DU hp hc hi hg hb hs) λD l H ⟨c,F,U,rel,h⟩=>⟨c,F,U,rel,ϸ.bind h λitems U1 J F1 H1 è s1 OA h1=>by
 refine⟨λi m d H'=>∃F2 U2,i<=items.length/\m=items.length-i/\ĝ (kk X cm) c F2 H' d U2/\Þ F1 F2/\ϸ (kk X cm) E c F2 D (ĺ g mb (items.drop i) U2),⟨_,F1,U1,dS _,rfl,è,Þ.refl _,h1⟩,?_⟩;rintro i m j H2 ⟨F2,U2,hle,rfl,ę,s2,h2⟩;obtain⟨go,stop⟩:=OA c i F2 H2 j U2 ę s2 λb u e=>(ę.lent b u e).1;by_cases mW:i<items.length
 ·obtain⟨g1,g2⟩:=go items[i] (ũ mW);rw[kY mW]at h2;unfold ĺ at h2;refine .inr ⟨g1,_,λd H' z=>z,λx H3 hy=>?_⟩;obtain⟨F3,iz,s3,_,rp⟩:=g2 x H3 hy;refine⟨c,F3,U2,items[i],iz,rp,?_⟩;cases eg:g items[i] U2 with
  |none=>rw[eg]at h2;exact h2.elim|some U3=>
   rw[eg]at h2;dsimp only at h2;intro k sS;refine⟨c,F3,U3,sS,?_⟩;have Oz:∀{U4:ċ},ϸ (kk X cm) E c F2 D (ĺ g mb (items.drop<|i+1) U4)->∀d F' H',ĝ (kk X cm) c F' H' d U4->Þ F3 F'->∃m',m'<items.length-i/\∃F2 U2,i+1<=items.length/\m'=items.length-(i+1)/\ĝ (kk X cm) c F2 H' d U2/\Þ F1 F2/\ϸ (kk X cm) E c F2 D (ĺ g mb (items.drop<|i+1) U2):=
    fun{U4} h3 d F' H' ž s'=>⟨items.length-(i+1),by lia,F',U4,mW,rfl,ž,(s2.trans s3).trans s',ϸ.mono h3<|s3.trans s'⟩
   have K5:=ϸ.mono h2 s3;cases e2:mb U3 with
   |bad=>rw[e2]at h2;exact h2|exc x U4=>rw[e2]at K5;exact K5|ok f U4=>
    rw[e2]at h2 K5;cases f with
    |nx=>exact Oz h2|ct=>exact Oz h2|bk=>exact K5|rt r=>exact K5
 ·have e:i=items.length:=by lia
  refine .inl ⟨stop e,?_⟩;rw[ja<|by lia]at h2;unfold ĺ at h2;exact h2 j F2 H2 ę č⟩
end
inductive FR where
 |ret (r:RV)|exc (x:PX)|bad
abbrev MF:=List Slot->FR
noncomputable def FR.of:ĳ Fl->FR
 |.ok (.rt r) _=>.ret r|.ok .nx _=>.ret<|.sh .non|.exc x _=>.exc x|_=>.bad
def Ď(n k:Nat)(mb:M Fl):MF:=λas=>if as.length=n then FR.of (mb<|ľ k as)else .bad
def rF(K:KK)(H F' H':Hp):RV->V->Prop
 |.sh p,v=>Ĉ K F' p v|.ow ps,v=>∃a vs,v=.ref a/\H' a=some (.lst vs)/\F' a=none/\H a=none/\é K F' ps vs|.ot ps qs rs,v=>∃p a xs vs ys,v=.ref p/\F' p=some (.tup (xs++.ref a::ys))/\é K F' ps xs/\H' a=some (.lst vs)/\F' a=none/\H a=none/\é K F' qs vs/\é K F' rs ys|.bn t ps qs rows,v=>mE K H F' t ps qs rows v
def R4(K:KK)(E:XK)(F H:Hp)(Q:VK):FR->Prop
 |.ret r=>∀v F' H',Gr F H F' H'->rF K H F' H' r v->Q v H'|.exc x=>∀C d F' H',Gr F H F' H'->CU K F' x C d->E C d H'|.bad=>False
def u_(K:KK)(n:Nat)(mf:MF):Sp:=λvs H Q E=>∃F as,as.length=n/\Þ F H/\Paired (dC K F H) as vs/\R4 K E F H Q (mf as)
def cY(CX:gJ)(X:Cx)(E:Ċ->XK):Prop:=∀(Ç:List (À×Obj)) (a:Ċ) (H:Hp) (s:Ä) (e:Á) (s':Ä),Inv X Ç a H s->CX X.stack H s (E a) e s'->X.xe e s'
def mJ{X:Cx}{E:Ċ->XK}:cY CN X E:=λ_ _ _ _ _ _ _ h=>h.elim
section
variable{P:ë}{w:â}{K:Î}{cm:String->À}{mg:Str->Option Á}{base:Ñ}{CX:gJ}
def YZ{x ō:Str}{st:ò}{f:À}{fd:ĉ}{N ps:List Str}{k:Nat}{mb:M Fl}(F:FN K x ō st f fd)(S:ż N ps (Ā st))
 (iU:∀(cdv:Á) (A:ì) (outer:List Env) (s:Ä) (H:Hp) (E:XK),ϛ k (A.deeper<|Ϗ ō (Ā st) s.heap.objs.size f cdv)→
   dB (sO CX P w K mg base N ō (Ā st) f cdv A outer s H E) (Ž st) (tS ⟨K,cm⟩ (λ_=>E) mb)):bO P w K mg base CX (k+1) f fd ps (u_ ⟨K,cm⟩ ps.length<|Ď ps.length N.length mb):=by
 obtain⟨oc,od,kV,doc,pm,an,cdv,ct,FY,rfl,lk,Dj⟩:=F.ex;refine D8 lk Dj S (λvs H Q E ⟨F,IK,h1,_,h2,_⟩=>by rw[<-Paired.length h2];exact h1) λA outer s H vs Q E hr DF=>?_;obtain⟨F,IK,h1,h2,h3,h4⟩:=DF;refine⟨_,iU cdv A outer s H E hr,dO F H,F,ľ N.length IK,ĝ.start h2 h3,?_⟩;unfold Ď at h4;rw[if_pos h1]at h4;cases e:mb (ľ N.length IK)with
 |bad=>rw[e]at h4;exact h4|exc x U'=>rw[e]at h4;exact λb C d F' H' rel s1 q=>h4 C d F' H' rel.gr q
 |ok fl U'=>
  rw[e]at h4;cases fl with
  |nx=>exact λb F' H' rel s1=>h4 .non F' H' rel.gr<|Ĉ.non (K:=⟨K,cm⟩) (F:=F')
  |bk=>exact h4.elim|ct=>exact h4.elim|rt r=>
   intro v b F' H' rel s1 q;refine h4 v F' H' rel.gr ?_;cases r with
   |sh p=>exact q|ow qs=>obtain⟨a,yu,e1,e2,e3,e4,_,e5⟩:=q;exact⟨a,yu,e1,e2,e3,e4,e5⟩|ot qs ts rs=>obtain⟨p,a,xs,yu,ys,e1,e0,ex,e2,e3,e4,_,e5⟩:=q;exact⟨p,a,xs,yu,ys,e1,e0,ex,e2,e3,e4,e5⟩|bn t ps qs rows=>exact q
def Y_{x ō:Str}{st:ò}{f:À}{fd:ĉ}{N ps:List Str}{k n j:Nat}{mb:M Fl}{mf:MF}(F:FN K x ō st f fd)(S:ż N ps (Ā st))(hn:ps.length=n)(hj:N.length=j)(hf:mf=Ď n j mb)
 (iU:∀(cdv:Á) (A:ì) (outer:List Env) (s:Ä) (H:Hp) (E:XK),ϛ k (A.deeper<|Ϗ ō (Ā st) s.heap.objs.size f cdv)→
   dB (sO CX P w K mg base N ō (Ā st) f cdv A outer s H E) (Ž st) (tS ⟨K,cm⟩ (λ_=>E) mb)):bO P w K mg base CX (k+1) f fd ps (u_ ⟨K,cm⟩ n mf):=by
 subst hn hj hf;exact YZ F S iU
end
@[simp]def à(mf:MF)(mr:M (List Slot))(U:ċ):ĳ RV:=(mr U).bind fun ps U1=>match mf ps with
  |.ret r=>.ok r U1|.exc x=>.exc x U1|.bad=>.bad
section
variable{X:Cx}{cm:String->À}{E:Ċ->XK}{CX:gJ}{k n:Nat}{f:À}{fd:ĉ}{ps:List Str}{mf:MF}{mr:M (List Slot)}{x:Str}{p pos:Pos}{e:È}{es:List È}
def oz{sp:Sp}{Ç:List (À×Obj)}{a:Ċ}{H:Hp}{s:Ä}{Q:VK}{us:List Á}{vs:List V}(F:bO X.prog X.w X.K X.mg X.base CX k f fd ps sp)(hr:ϛ k X.A)(hb:Binds X.K fd ps [])(hx:cY CX X E)
 (I:Inv X Ç a H s)(r:ł vs us)(h:sp vs H Q (E a)):Ï (Ü X.prog X.w) X.A (call (.ref f) us) (EP X Ç a Q) X.xe s:=by
 have hl:(us++[]).length=ps.length:=by rw[kW,<-r.length];exact F.len _ _ _ _ h
 have OB:=hb s us I.mj hl;rw[kW]at OB;refine wpAny_call<|lj (F.run X.A X.stack s H ⟨us,[]⟩ us vs Q (E a) hr I.env0 OB r h) λr s' hq=>?_;cases r with
 |error e=>exact hx Ç a H s e s' I hq|ok fl=>
  cases fl with
  |ret u=>exact I.after hq|next=>exact aG hq|brk=>exact aG hq|cont=>exact aG hq
def sU{c:Ctx}{F1 H1:Hp}{b:Ċ}{U1:ċ}{Q:VK}{ps:List Slot}{vs:List V}(hlen:(∃r,mf ps=r/\∀z,r=z->z≠.bad)->ps.length=n)(è:ĝ (kk X cm) c F1 H1 b U1)(r1:Paired (dC (kk X cm) F1 H1) ps vs)
 (h:Ϸ (kk X cm) E (rO<|kk X cm) c F1 H1 b Q (match mf ps with|.ret r=>.ok r U1|.exc x=>.exc x U1|.bad=>.bad)):u_ (kk X cm) n mf vs H1 Q (E b):=by
 refine⟨F1,ps,?_,è.sub,r1,?_⟩
 ·refine hlen ⟨_,rfl,λz hz hb=>?_⟩;rw[hz,hb]at h;exact h
 ·cases em:mf ps with
  |bad=>rw[em]at h;exact h|exc x=>rw[em]at h;exact λC d F' H' g rx=>h C d F' H' (è.call g) g.f rx
  |ret r=>
   rw[em]at h;intro v F' H' g rf;refine h v F' H' (è.call g) g.f g.h ?_;cases r with
   |sh p=>exact rf|ow qs=>obtain⟨a,yu,e1,e2,e3,e4,e5⟩:=rf;exact⟨a,yu,e1,e2,e3,è.base.free e4,è.mG g.f<|è.fresh e4,e5⟩|ot qs ts rs=>obtain⟨p,a,xs,yu,ys,e1,e0,ex,e2,e3,e4,e5⟩:=rf;exact⟨p,a,xs,yu,ys,e1,e0,ex,e2,e3,è.base.free e4,è.mG g.f<|è.fresh e4,e5⟩|bn t ps qs rows=>exact mE.base rf è.base
def oA{n k:Nat}{mb:M Fl}{ps:List Slot}(h:∃r,Ď n k mb ps=r/\∀z,r=z->z≠.bad):ps.length=n:=by
 obtain⟨r,h1,h2⟩:=h;unfold Ď at h1;by_cases hl:ps.length=n
 ·exact hl
 ·rw[if_neg hl]at h1;exact absurd h1.symm (λz=>h2 .bad (by rw[<-h1]) rfl)
def J_(F:bO X.prog X.w X.K X.mg X.base CX k f fd ps (u_ (kk X cm) n mf))(hlen:∀{ps:List Slot},(∃r,mf ps=r/\∀z,r=z->z≠.bad)->ps.length=n)(hr:ϛ k X.A)(hg:Gl X x)(hm:X.mg x=some (.ref f))(hk:bC X.K (.ref f)=true)(hb:Binds X.K fd ps [])(hx:cY CX X E)
 (ha:PA X (e::es) (tA (kk X cm) E mr))(pN:(x==("__debug__":Str))=false:=by kernel_rfl)(he:Ð (e::es) X.env=(false,eval e X.env)::Ð es X.env:=by exact ŋ rfl)(hpl:(Ć pos<|Ð es X.env).any (·.1)=false:=by kernel_rfl):
 PE X (.Call (.Name x p) (e::es) [] pos) (tO (kk X cm) E<|à mf mr):=by
 intro Ç s a H Q I h;obtain⟨c,F,U,rel,h⟩:=h;refine lg<|se I hg hm ?_ pN;refine nZ (h₀:=X.base) I.ok.mod.HU hk (ϙ (ha pos Ç s a H (λvs H1=>u_ (kk X cm) n mf vs H1 Q<|E a) I ⟨c,F,U,rel,h.bind λIK U1 vs F1 H1 è _ _ r1 h1=>sU hlen è r1 h1⟩) λus s1 ⟨vs,H1,I1,r,q⟩=>⟨I1.mj,?_⟩) he hpl;exact oz (by assumption) hr hb hx I1 r q
end
@[simp]def Ϻ(m:M PV)(U:ċ):ĳ (List PV):=(m U).bind fun p U1=>match p with
  |.lst ps=>.ok ps U1|.tup ps=>.ok ps U1|.str z=>.ok (z.cps.toList.map λc=>.str ⟨#[c]⟩) U1
  |_=>.bad
section
variable{X:Cx}{cm:String->À}{E:Ċ->XK}{tg:È}
def R5(K:Î)(tl:TE):TI:=λb H R=>tl b H λx H1=>(∃a,x=.ref a/\(∃xs,ϱ K H1 a xs)/\R (HV K a) H1)\/(∃a,x=.ref a/\(∃xs,fL K H1 a xs)/\R (L5 K a) H1)\/∃z,x=.str z/\R (Yk z) H1
def Ah{l:È}{tl:TE}(hl:PE X l tl):PI X tg l (R5 X.K tl):=by
 intro Ç s c H R I h;refine ϙ (hl Ç s c H _ I h) λv s1 zz=>?_;obtain⟨x,H1,I1,r1,q1⟩:=zz;rcases q1 with⟨a,e,⟨xs,hq⟩,q⟩|⟨a,e,⟨xs,hq⟩,q⟩|⟨z,e,q⟩
 ·subst e;cases r1;obtain⟨ď,rv,p,hz⟩:=I1.list hq;refine ll p.isList ?_;refine⟨s1.heap.objs.size,[s1.heap.objs.size],_,_,H1,rfl,I1.kept (t':=s1.toks) λb o e=>ă _ e,Cy a _,⟨_,Į _ rfl,rfl,rfl⟩,λb hb=>?_,q⟩;have e:b=s1.heap.objs.size:=by simpa using hb
  subst e;exact I1.zM (ø _)<|I1.hok.fresh<|ø _
 ·subst e;cases r1;obtain⟨ď,rv,p,hz⟩:=I1.tuple hq;refine wD (show s1.heap.IsTuple a ď.toArray from p) ?_;refine⟨s1.heap.objs.size,[s1.heap.objs.size],_,_,H1,rfl,I1.kept (t':=s1.toks) λb o e=>ă _ e,zN a _,⟨_,Į _ rfl,rfl,rfl⟩,λb hb=>?_,q⟩;have e:b=s1.heap.objs.size:=by simpa using hb
  subst e;exact I1.zM (ø _)<|I1.hok.fresh<|ø _
 ·subst e;obtain⟨t,rfl⟩:=r1;have mV:∀ty,(∀A:ì,A.handled=none->Walks X.prog X.w A s1.heap.objs.size [s1.heap.objs.size] [s1.heap.objs.size] z.cps.size (SignAt z) (λi h=>h.IsStrIter s1.heap.objs.size ty z t i))->
   (∀(A:ì) (i:Nat) (s:Ä) (Q:Á->Ä->Prop) (E:Á->Ä->Prop),s.heap.IsStrIter s1.heap.objs.size ty z t i->Q (.ref s1.heap.objs.size) s->Ï (Ü X.prog X.w) A (gw<|.ref s1.heap.objs.size) Q E s)->
   (["enumerate","zip","dict_itemiterator","dict_reverseitemiterator","odict_iterator","itertools.zip_longest","itertools.pairwise"].contains ty=false)->
   QZ X Ç c tg R (.ref s1.heap.objs.size) {s1 with heap:=s1.heap.push {cls:=.type ty,data:=.fields #[.str z t,.int 0 0]}}:=λty hW hS ke=>by
   refine⟨s1.heap.objs.size,[s1.heap.objs.size],_,_,H1,rfl,I1.kept (t':=s1.toks) λb o e=>ă _ e,CQ _ z t ty hW hS ke,⟨_,Į _ rfl,rfl,rfl⟩,λb hb=>?_,q⟩;have e:b=s1.heap.objs.size:=by simpa using hb
   subst e;exact I1.zM (ø _)<|I1.hok.fresh<|ø _
  cases ha:z.cps.all (·<128)with
  |true=>exact wpAny_pyIter_ascii ha (mV _ (λA hA=>Walks.strAscii hA _ z t) (λA i s Q E st q=>wpAny_pyIter_striter_ascii st q)<|by decide)
  |false=>exact wpAny_pyIter_wide ha (mV _ (λA hA=>Walks.strWide hA _ z t) (λA i s Q E st q=>wpAny_pyIter_striter_wide st q)<|by decide)
def gP{l:È}{m:M PV}(hl:PE X l (tV (kk X cm) E m)):PI X tg l (tI (kk X cm) E<|Ϻ m):=λÇ s d H R I h=>Ah hl Ç s d H R I (by
 obtain⟨c,F,U,rel,h⟩:=h;refine⟨c,F,U,rel,h.bind λp U1 v F1 H1 è s1 s2 q h1=>?_⟩;cases p with
 |lst ps=>have q':Ĉ (kk X cm) F1 (.lst ps) v:=q;unfold Ĉ at q';obtain⟨a,vs,rfl,e1,e2⟩:=q';refine .inl ⟨a,rfl,⟨vs,è.sub.seq e1⟩,h1 _ F1 H1 è č č ?_⟩;intro c' i F2 H2 b U2 ę sF _;have hq:ϱ X.K H2 a vs:=(sF.trans ę.sub).seq e1;refine⟨λp hp=>?_,λhi=>⟨vs,hq,by rw[hi,e2.length];exact ø _⟩⟩;obtain⟨u,hu,ru⟩:=dJ e2.pr hp;refine⟨⟨vs,u,hq,hu⟩,λx H' zz=>?_⟩;obtain⟨hH,hx⟩:=zz;subst hH;have:vs[i]?=some x:=hx vs hq;rw[hu]at this;cases this;exact⟨F2,ę,Þ.refl _,Þ.refl _,Ĉ.same sF p u ru⟩
 |tup ps=>have q':Ĉ (kk X cm) F1 (.tup ps) v:=q;unfold Ĉ at q';obtain⟨a,vs,rfl,e1,e2⟩:=q';refine .inr<|.inl ⟨a,rfl,⟨vs,Þ.tup è.sub e1⟩,h1 _ F1 H1 è č č ?_⟩;intro c' i F2 H2 b U2 ę sF _;have hq:fL X.K H2 a vs:=Þ.tup (sF.trans ę.sub) e1;refine⟨λp hp=>?_,λhi=>⟨vs,hq,by rw[hi,e2.length];exact ø _⟩⟩;obtain⟨u,hu,ru⟩:=dJ e2.pr hp;refine⟨⟨vs,u,hq,hu⟩,λx H' zz=>?_⟩;obtain⟨hH,hx⟩:=zz;subst hH;have:vs[i]?=some x:=hx vs hq;rw[hu]at this;cases this;exact⟨F2,ę,Þ.refl _,Þ.refl _,Ĉ.same sF p u ru⟩
 |str z=>
  have q':v=.str z:=by have q':Ĉ (kk X cm) F1 (.str z) v:=q;unfold Ĉ at q';exact q'
  subst q';refine .inr<|.inr ⟨z,rfl,h1 _ F1 H1 è č č ?_⟩;intro c' i F2 H2 b U2 ę sF _;refine⟨λp hp=>?_,λhi=>by rw[hi,ħ];show _=_;simp⟩;rw[ŗ]at hp;cases ez:z.cps.toList[i]?with
  |none=>rw[ez]at hp;cases hp|some cc=>rw[ez]at hp;cases hp;refine⟨by have:=(fh.mp ez).1;show i<z.cps.size;simpa using this,λx H' ⟨hH,c2,hc,hx⟩=>?_⟩;subst hH hx;rw[ez]at hc;cases hc;exact⟨F2,ę,Þ.refl _,Þ.refl _,Ĉ.str⟩
 |_=>exact h1.elim)
noncomputable def ı(i:Nat):M (List PV):=λU=>match U[i]?with
 |some (.bw ps)=>.ok ps U|some (.sh<|.lst ps)=>.ok ps U|some (.sh<|.tup ps)=>.ok ps U|some (.sh<|.str z)=>.ok (z.cps.toList.map λc=>.str ⟨#[c]⟩) U
 |some (.ow ps)=>.ok ps<|U.set i<|.sh<|.lst ps|_=>.bad
def Ŕ(i:Nat){x:Str}{px:Pos}(hk:Cw X i x=true:=by kernel_rfl):PI X tg (.Name x px) (tI (kk X cm) E<|ı i):=λÇ s b H R I h=>by
 obtain⟨c,F,U,rel,h⟩:=h;cases e:U[i]?with
 |none=>unfold ı at h;rw[e]at h;exact h.elim|some sl=>
  have GQ:Ϸ (kk X cm) E (V_<|kk X cm) c F H b R (Ϻ (ä i) U)->Ï (Ü X.prog X.w) X.A (eval (.Name x px) X.env) (λv s1=>Ï (Ü X.prog X.w) X.A (gw v) (QZ X Ç b tg R) X.xe s1) X.xe s:=λh'=>
   gP (v_var i hk) Ç s b H R I ⟨c,F,U,rel,h'⟩
  unfold ı at h;rw[e]at h;cases sl with
  |no=>exact h.elim|rc C ns ps=>exact h.elim|ot ps qs rs=>exact h.elim|ol pS=>exact h.elim|fr pS=>exact h.elim|pw ps=>exact h.elim|pin=>exact h.elim|bn qs rows=>exact h.elim|dw gL=>exact h.elim|ow ps=>exact GQ (by unfold Ϻ ä;rw[e];exact h)|sh p=>
   cases p with
   |lst ps=>exact GQ (by unfold Ϻ ä;rw[e];exact h)|tup ps=>exact GQ (by unfold Ϻ ä;rw[e];exact h)|str z=>exact GQ (by unfold Ϻ ä;rw[e];exact h)|_=>exact h.elim
  |bw ps=>obtain⟨a,vs,h1,h2,h3⟩:=rel.slot i _ e;refine Ah (lM hk) Ç s b H R I ⟨.ref a,ň h1,.inl ⟨a,rfl,⟨vs,ϱ.of (rel.lent a _ h2).1⟩,h _ F H rel č č ?_⟩⟩;intro c' j F2 H2 d U2 ę sF sL;have hq:ϱ X.K H2 a vs:=ϱ.of<|sL a _ h2;refine⟨λp hp=>?_,λhi=>⟨vs,hq,by rw[hi,h3.length];exact ø _⟩⟩;obtain⟨u,hu,ru⟩:=dJ h3.pr hp;refine⟨⟨vs,u,hq,hu⟩,λx H' zz=>?_⟩;obtain⟨hH,hx⟩:=zz;subst hH;have:vs[j]?=some x:=hx vs hq;rw[hu]at this;cases this;exact⟨F2,ę,Þ.refl _,Þ.refl _,Ĉ.same sF p u ru⟩
noncomputable def kq(lo:Int)(n:Nat)(c:Int):List PV:=(å n).map λ(i:Nat)=>.int<|lo+i*c
def sW(i:Int):Bool:=decide<|i.natAbs<1152921504606846976
def Ϛ:List PV->Option (List PV)
 |[.int j]=>if sW j=true then some (kq 0 j.toNat 1)else none|_=>none
@[simp]def Ϫ(f:List PV->Option (List PV))(mr:M (List PV))(U:ċ):ĳ (List PV):=(mr U).bind λps U1=>ĳ.yJ (f ps) U1
def Ai{lo c:Int}{n i:Nat}{p:PV}(h:(kq lo n c)[i]?=some p):i<n/\p=.int (lo+i*c):=by
 unfold kq at h;by_cases hn:i<n
 ·rw[ŗ,List.getElem?_range hn]at h;exact⟨hn,(š h).symm⟩
 ·rw[List.getElem?_eq_none<|by simpa using hn]at h;cases h
def Aj{lo c:Int}{n:Nat}:(kq lo n c).length=n:=by simp[kq]
def J0{K:KK}{Lh F:Hp}(lo:Int)(n:Nat):ij K Lh F (O4 lo n) (kq lo n 1):=λc i F2 H a U rel sF _=>
 ⟨fun p hp=>by obtain⟨h1,rfl⟩:=Ai hp;refine⟨h1,λx H' zz=>?_⟩;obtain⟨e1,e2⟩:=zz;subst e1 e2;exact⟨F2,rel,Þ.refl _,Þ.refl _,by rw[vK];exact Ĉ.int⟩,λhi=>by rw[Aj]at hi;subst hi;exact ø _⟩
def CV{i:Int}(h:sW i=true): -(2^60)<=i/\i<2^60:=by unfold sW at h;rw[decide_eq_true_eq]at h;lia
variable{a:È}{p pos:Pos}{mr:M (List PV)}
def EI{K:KK}{F:Hp}{ps:List PV}{vs:List V}(h:é K F ps vs):(∀i r,ps=.int i::r->∃r',vs=.int i::r'/\é K F r r')/\(ps=[]->vs=[]):=by
 refine⟨λi r e=>?_,λe=>?_⟩
 ·subst e;unfold é at h;obtain⟨x,r',h1,h2,h3⟩:=h;unfold Ĉ at h2;exact⟨r',by rw[h1,h2],h3⟩
 ·subst e;unfold é at h;exact h
def ņ(hg:Gl X "range")(hm:X.mg "range"=none)(ha:PA X [a] (tL (kk X cm) E mr))(hs:Ð [a] X.env=[(false,eval a X.env)]:=by exact ŋ rfl):PI X tg (.Call (.Name "range" p) [a] [] pos) (tI (kk X cm) E<|Ϫ Ϛ mr):=
 λÇ s b H R I h=>Cz hg hm ha hs Ç s b H R I (by
  obtain⟨c,F,U,rel,h⟩:=h;refine⟨c,F,U,rel,h.bind λps U1 vs F1 H1 è s1 s2 q h1=>?_⟩;have q':é (kk X cm) F1 ps vs:=q;unfold Ϛ at h1;split at h1
  ·rename_i j;split at h1
   ·rename_i hj;obtain⟨r',e1,e2⟩:=(EI q').1 _ _ rfl;cases(EI e2).2 rfl;obtain⟨k1,k2⟩:=CV hj;exact⟨j,e1,by lia,by lia,h1 _ F1 H1 è č č<|J0 0 j.toNat⟩
   ·exact h1.elim
  ·exact h1.elim)
end
noncomputable def qk:Slot->Slot
 |.sh p=>.sh p|.ow ps=>.bw ps|.bw ps=>.bw ps|_=>.no
def mK(js:List Nat)(nl:Nat)(U:ċ):ċ:=js.map (λ(j:Nat)=>qk<|(U[j]?).getD .no)++Ù nl .no
noncomputable def Ģ{α:Type}(g:α->ċ->Option ċ)(mt:M Bool)(me:M PV):List α->ċ->List PV->Option (List PV)
 |[],_,acc=>some acc|p::ps,U,acc=>match g p U with
  |none=>none|some U1=>match mt U1 with
   |.ok true U2=>match me U2 with
     |.ok q U3=>if acc.length<16777216then Ģ g mt me ps U3 (acc++[q])else none|_=>none
   |.ok false U2=>Ģ g mt me ps U2 acc|_=>none
@[simp]def ģ{α:Type}(js:List Nat)(nl:Nat)(mi:M (List α))(g:α→ċ→Option ċ)(mt:M Bool)(me:M PV)(U:ċ):ĳ RV:=(mi U).bind fun items U1=>match Ģ g mt me items (mK js nl U1) []with
  |some ps=>.ok (.ow ps) U1|none=>.bad
abbrev EF:Ċ->XK:=λ_ _ _ _=>False
@[simp]def Ĕ(U:ċ):ĳ Bool:=.ok true U
section
variable{K:KK}{c:Ctx}{F H:Hp}{σ:Ċ}{U:ċ}
def xG(F H H1:Hp):Ctx:=⟨H1,F,(dO F H).L,λ_ _ _=>True⟩
def ĝ.cap(js:List Nat)(nl:Nat)(rel:ĝ K c F H σ U){D:À}{o:HO}(hD:H D=none):ĝ K (xG F H<|upd H D o) F (upd H D o) (kj js nl σ) (mK js nl U) where
 sub:=rel.sub.trans (Þ.upd hD)
 base:=Þ.refl _
 f0:=Þ.refl _
 fP:=λ_ _ z=>z
 lent:=λa u e=>⟨Þ.upd hD a u (aB e).1,(aB e).2⟩
 lb:=fun a e=>by
   cases q:(xG F H<|upd H D o).L a with
   |none=>rfl|some u=>have e':upd H D o a=none:=e;rw[Þ.upd hD a u (aB q).1]at e';cases e'
 len:=by simp[kj,mK]
 slot:=λi s e=>by
  unfold mK at e;by_cases hi:i<js.length
  ·rw[fj (by simpa using hi),ŗ]at e;cases ej:js[i]?with
   |none=>rw[ej]at e;cases e|some j=>
    rw[ej]at e;have e':qk ((U[j]?).getD .no)=s:=š e;subst e';have hx:((kj js nl σ)[i]?).getD none=(σ[j]?).getD none:=by unfold kj;rw[fj (by simpa using hi),ŗ,ej];rfl
    rw[hx];cases er:U[j]?with
    |none=>trivial|some sl=>
     have q:=rel.slot j sl er;cases sl with
     |no=>trivial|sh p=>exact q|ow ps=>obtain⟨a,vs,h1,h2,h3,h4,h5⟩:=q;refine⟨a,vs,h1,?_,h5⟩;show(match F a with|none=>H a|some _=>none)=_;rw[h3];exact h2
     |bw ps=>obtain⟨a,vs,h1,h2,h3⟩:=q;obtain⟨l1,l2⟩:=rel.lent a _ h2;refine⟨a,vs,h1,?_,h3⟩;show(match F a with|none=>H a|some _=>none)=_;rw[l2];exact l1
     |rc C ns ps=>trivial|ot ps qs rs=>trivial|ol pS=>trivial|fr pS=>trivial|pw ps=>trivial|pin=>trivial|bn qs rows=>trivial|dw gL=>trivial
  ·rw[kX (by simpa using hi),gt]at e;split at e
   ·cases e;trivial
   ·cases e
 sep:=λi j a h1 _=>by
  exfalso;obtain⟨s,y,h1,_,h2⟩:=h1;have h2:=mF h2;unfold mK at h1;by_cases hi:i<js.length
  ·rw[fj (by simpa using hi),ŗ]at h1;cases ej:js[i]?with
   |none=>rw[ej]at h1;cases h1|some j=>rw[ej]at h1;have e':qk ((U[j]?).getD .no)=s:=š h1;subst e';cases q:(U[j]?).getD .no<;>rw[q]at h2<;>cases h2
  ·rw[kX (by simpa using hi),gt]at h1;split at h1
   ·cases h1;cases h2
   ·cases h1
def ĝ.rebase{H1 F1:Hp}{D:À}{ys zs:List V}(hD:H1 D=none)(hF:F1 D=none)(rel:ĝ K (xG F1 H1<|upd H1 D<|.lst ys) F H σ U):ĝ K (xG F1 H1<|upd H1 D<|.lst zs) F (upd H D<|.lst zs) σ U:=by
 have fD:F D=none:=rel.fP D (by show upd H1 D _ D≠none;rw[ą];intro z;cases z) hF;have lD:∀b u,(xG F1 H1<|upd H1 D<|.lst ys).L b=some u->b≠D:=λb u e z=>by have q:=(aB (F:=F1) (H:=H1) (a:=b) (u:=u) e).1;rw[z,hD]at q;cases q
 have ne:∀b,(xG F1 H1<|upd H1 D<|.lst ys).B b=none->b≠D:=λb z q=>by subst q;have z':upd H1 b (.lst ys) b=none:=z;rw[ą]at z';cases z'
 have back:∀b,b≠D->(xG F1 H1<|upd H1 D<|.lst ys).B b=none->(xG F1 H1<|upd H1 D<|.lst zs).B b=none:=λb hb z=>by have z':upd H1 D (.lst ys) b=none:=z;show upd H1 D (.lst zs) b=none;rw[õ hb]at z'⊢;exact z'
 refine⟨λb u e=>?_,λb u e=>?_,rel.f0,λb h1 h2=>?_,λb u e=>?_,λb e=>?_,rel.len,λi s e=>?_,rel.sep⟩
 ·have hb:b≠D:=λz=>by rw[z,fD]at e;cases e
  rw[õ hb];exact rel.sub b u e
 ·by_cases hb:b=D
  ·subst hb;have e':upd H1 b (.lst zs) b=some u:=e;rw[ą]at e'⊢;exact e'
  ·have e':upd H1 D (.lst zs) b=some u:=e;rw[õ hb]at e'⊢;exact rel.base b u (by show upd H1 D _ b=some u;rw[õ hb];exact e')
 ·refine rel.fP b (λz=>h1 ?_) h2;exact back b (ne b z) z
 ·rw[õ<|lD b u e];exact rel.lent b u e
 ·refine rel.lb b ?_;have z':upd H1 D (.lst zs) b=none:=e;have hb:b≠D:=λq=>by rw[q,ą]at z';cases z'
  show upd H1 D (.lst ys) b=none;rw[õ hb]at z'⊢;exact z'
 ·have q:=rel.slot i s e;cases s with
  |no=>trivial|sh p=>exact q|bw ps=>exact q|ow ps=>obtain⟨a,vs,q1,q2,q3,q4,q5⟩:=q;have hb:=ne a q4;exact⟨a,vs,q1,by rw[õ hb];exact q2,q3,back a hb q4,q5⟩|rc C ns ps=>obtain⟨a,dx,fs,q1,q2,q3,q4,q5⟩:=q;have hb:=ne a q4;exact⟨a,dx,fs,q1,by rw[õ hb];exact q2,q3,back a hb q4,q5⟩|ot ps qs rs=>obtain⟨p,a,xs,vs,ys,q1,q0,qx,q2,q3,q4,q5⟩:=q;have hb:=ne a q4;exact⟨p,a,xs,vs,ys,q1,q0,qx,by rw[õ hb];exact q2,q3,back a hb q4,q5⟩|ol pS=>obtain⟨p,as,q1,q0,qn,qp⟩:=q;refine⟨p,as,q1,q0,qn,lO qp λa ps _ zz=>?_⟩;obtain⟨vs,q2,q3,q4,q5⟩:=zz;have hb:=ne a q4;exact⟨vs,by rw[õ hb];exact q2,q3,back a hb q4,q5⟩
  |fr pS=>obtain⟨p,as,q1,q2,q3,q4,qn,qp⟩:=q;have hb:=ne p q4;exact⟨p,as,q1,by rw[õ hb];exact q2,q3,back p hb q4,qn,lO qp λa ps _ ⟨vs,k1,k2,k3⟩=>⟨vs,k1,back a (ne a k2) k2,k3⟩⟩
  |dw gL=>exact q|pin=>exact q|pw ps=>obtain⟨a,vs,q1,q2,q3,q4,q5⟩:=q;have hb:=ne a q4;exact⟨a,vs,q1,by rw[õ hb];exact q2,q3,back a hb q4,q5⟩|bn qs rows=>obtain⟨v,q1,a,b,ys,vs,h1,h2,h3,h4,h5⟩:=q;exact⟨v,q1,a,b,ys,vs,h1,h2,back a (ne a h3) h3,back b (ne b h4) h4,h5⟩
end
section
variable{X:Cx}{cm:String->À}{E:Ċ->XK}{tg iter:È}{mi:M (List PV)}
def Ġ:Du X [] (tB (kk X cm) E Ĕ):=λÇ s a H Q I h=>GF Ç s a H Q I (by
 obtain⟨c,F,U,rel,h⟩:=h;exact h true F H rel č č rfl)
def EJ(K:KK):RR (List PV) It:=λ_ _ _ F H items J=>ij K (dO F H).L F J items
def EK{K:KK}{c:Ctx}{F H:Hp}{a:Ċ}{U:ċ}(rel:ĝ K c F H a U){b:À}{u:HO}(e:c.L b=some u):(dO F H).L b=some u:=by obtain⟨l1,l2⟩:=rel.lent b u e;show(match F b with|none=>H b|some _=>none)=some u;rw[l2];exact l1
def Ih(h:PI X tg iter (tI (kk X cm) E mi)):PI X tg iter (tG (kk X cm) E (EJ<|kk X cm) mi):=λÇ s d H R I ⟨c,F,U,rel,q⟩=>h Ç s d H R I ⟨c,F,U,rel,Ϸ.bind (R':=EJ<|kk X cm) (f:=λp U=>.ok p U) (by revert q;cases mi U<;>exact id) λp U1 v F1 H1 è s1 s2 q h1=>h1 v F1 H1 è č č λc' i F2 H2 a U2 ę sF sL=>q c' i F2 H2 a U2 ę sF λb u e=>sL b u<|EK è e⟩
end
abbrev Lo(α:Type):=Ctx->Hp->α->V->Prop
def MG{α:Type}(K:KK)(RI:Lo α)(Lh F:Hp)(J:It)(items:List α):Prop:=∀(c:Ctx) (i:Nat) (F2 H:Hp) (a:Ċ) (U:ċ),ĝ K c F2 H a U->Þ F F2->Þ Lh H->Þ Lh c.L->
 (∀p,items[i]?=some p->J.go i H/\∀x H',J.L4 i H x H'->∃F3,ĝ K c F3 H' a U/\Þ F2 F3/\Þ H H'/\RI c F3 p x)/\(i=items.length->J.stop i H)
def GR{α:Type}(K:KK)(RI:Lo α):RR (List α) It:=λ_ _ _ F H items J=>MG K RI (dO F H).L F J items
def Pb{α:Type}(K:KK)(RI:Lo α)(g:α->ċ->Option ċ):TG:=λv a H Q=>∃c F U p,ĝ K c F H a U/\RI c F p v/\JZ K c F H Q (g p U)
section
variable{α:Type}{RI:Lo α}{X:Cx}{cm:String->À}{E:Ċ->XK}{mi:M (List α)}{g:α->ċ->Option ċ}{mt:M Bool}{me:M PV}
def vb{RJ:RR (List α) It}(hJ:∀{c a U F H items J},RJ c a U F H items J->GR (kk X cm) RI c a U F H items J){js:List Nat}{nl:Nat}{a:Ċ}{H:Hp}{Q:VK}(h:tO (kk X cm) E (ģ js nl mi g mt me) a H Q):uV js nl (tG (kk X cm) E RJ mi) (Pb (kk X cm) RI g) (tB (kk X cm) EF mt) (tV (kk X cm) EF me) a H Q:=by
 obtain⟨c,F,U,rel,h⟩:=h;refine⟨c,F,U,rel,h.bind λitems U1 J F1 H1 è s1 s2 OA h1=>?_⟩;intro D hD;have hF:F1 D=none:=è.sub.free hD;cases ec:Ģ g mt me items (mK js nl U1) []with
 |none=>rw[ec]at h1;exact h1.elim|some res=>
  rw[ec]at h1;refine⟨λi m d H'=>∃F' U' ys acc,i<=items.length/\m=items.length-i/\ĝ (kk X cm) (xG F1 H1<|upd H1 D<|.lst ys) F' H' d U'/\é (kk X cm) F' acc ys/\Ģ g mt me (items.drop i) U' acc=some res,
   ⟨_,F1,_,[],[],dS _,rfl,?_,é.nil,ec⟩,?_⟩
  ·exact è.cap js nl hD
  ·rintro i m j H2 ⟨F2,U2,ys,acc,hle,rfl,ę,ra,h2⟩;have Vf:Þ F1 F2:=ę.f0;obtain⟨go,stop⟩:=hJ OA _ i F2 H2 j U2 ę Vf (λb u e=>(ę.lent b u e).1) č;have hH2:H2 D=some (.lst ys):=ę.base D _ (show upd H1 D _ D=_ from ą);have fD:F2 D=none:=ę.fP D (by show upd H1 D _ D≠none;rw[ą];intro z;cases z) hF;by_cases mW:i<items.length
   ·obtain⟨g1,g2⟩:=go items[i] (ũ mW);rw[kY mW]at h2;unfold Ģ at h2;refine .inr ⟨g1,_,λd H' z=>z,λx H3 hy=>?_⟩;obtain⟨F3,iz,s3,V0,rp⟩:=g2 x H3 hy;refine⟨_,F3,U2,items[i],iz,rp,?_⟩;cases eg:g items[i] U2 with
    |none=>rw[eg]at h2;cases h2|some U3=>
     rw[eg]at h2;dsimp only at h2;intro k sS;refine⟨_,F3,U3,sS,?_⟩;cases em:mt U3 with
     |bad=>rw[em]at h2;cases h2|exc x U4=>rw[em]at h2;cases h2|ok b U4=>
      rw[em]at h2;intro b' F5 H5 Ak s5 Ii eb;have eb':b=b':=eb;subst eb';cases b with
      |false=>rw[if_neg bZ];dsimp only at h2;exact⟨items.length-(i+1),by lia,F5,U4,ys,acc,mW,rfl,Ak,é.same (s3.trans s5) acc ys ra,h2⟩|true=>
       rw[if_pos rfl];dsimp only at h2;refine⟨_,F5,U4,Ak,?_⟩;cases ee:me U4 with
       |bad=>rw[ee]at h2;cases h2|exc x U5=>rw[ee]at h2;cases h2|ok q U5=>
        rw[ee]at h2;dsimp only at h2;intro y F6 H6 GS s6 s6' rq;split at h2
        ·rename_i hz;have V1:=é.same ((s3.trans s5).trans s6) acc ys ra;refine⟨ys,GS.base D _<|show upd H1 D _ D=_ from ą,by rw[<-V1.length,Ĝ];exact hz,?_⟩;exact⟨items.length-(i+1),by lia,F6,U5,ys++[y],acc++[q],mW,rfl,GS.rebase hD hF,é.append V1<|é.cons rq é.nil,h2⟩
        ·cases h2
   ·have e:i=items.length:=by lia
    refine .inl ⟨stop e,?_⟩;rw[ja<|by lia]at h2;unfold Ģ at h2;cases h2;have gr:Gr F1 H1 F2 H2:=⟨λb u e=>ę.base b u (by show upd H1 D _ b=_;rw[õ<|Ņ e hD];exact e),Vf,ę.sub,λb hb hf=>ę.fP b (by
     show upd H1 D _ b≠none;by_cases Yl:b=D
     ·rw[Yl,ą];intro z;cases z
     ·rw[õ Yl];exact hb) hf⟩
    have R6:=è.call gr;exact h1 _ F2 H2 R6 Vf gr.h ⟨D,ys,rfl,hH2,fD,è.base.free hD,è.mG gr.f<|è.fresh hD,ra⟩
end
section
variable{X:Cx}{cm:String->À}{E:Ċ->XK}{elt tg iter:È}{ifs:List È}{scope:ý}{pos:Pos}{mi:M (List PV)}{g:Tg}{mt:M Bool}{me:M PV}
def yM{js:List Nat}{nl:Nat}{d:Ċ}{H:Hp}{Q:VK}(h:tO (kk X cm) E (ģ js nl mi g mt me) d H Q):uV js nl (tG (kk X cm) E (EJ<|kk X cm) mi) (tT (kk X cm) g) (tB (kk X cm) EF mt) (tV (kk X cm) EF me) d H Q:=
 vb (RI:=λ_ F p v=>Ĉ (kk X cm) F p v) (λh c i F2 H d U r a b _=>h c i F2 H d U r a b) h
def GU(N':List Str)(js:List Nat)(nl:Nat)(sc:ý)(AI:X.env.scope=sc)(hcalm:X.calm=true)
 (hi:PI X.ϧ tg iter (tG (kk X cm) E (EJ<|kk X cm) mi))(hg:∀cl C s H fp,PG (im X.ϧ N' scope cl C s H fp) tg<|tT (kk X cm) g)(ht:∀cl C s H fp,Du (im X.ϧ N' scope cl C s H fp) ifs<|tB (kk X cm) EF mt)(he:∀cl C s H fp,PE (im X.ϧ N' scope cl C s H fp) elt<|tV (kk X cm) EF me)
 (hcap:ki X.ϧ sc scope N' js)(hlen:js.length+nl=N'.length:=by rfl)
 (hk:scope.kind=.function:=by rfl)(hcell:∀y∈scope.names,y.2=.cell->scope.names.lookup y.1=some .cell:=by decide+kernel)(hnames:∀y∈scope.names,y.2=.local->scope.names.lookup y.1=some .local:=by decide+kernel)
 (hfree:∀y∈scope.names,y.2=.free->(sc.names.lookup y.1=some .cell\/sc.names.lookup y.1=some .free):=by decide+kernel)
 (hs:∀x,cR iter X.env x=ñ x:=by intro _;rfl):
 PE X (.ListComp elt [⟨tg,iter,ifs,0⟩] scope pos) (tO (kk X cm) E<|ģ js nl mi g mt me):=
 PE.wk (PE.ϧ<|BC N' js nl sc AI hcalm hi hg ht he hcap hlen hk hcell hnames hfree hs) λ_ _ _ h=>yM h
end
open M4
noncomputable abbrev bits(x:Int):Nat:=rJ x
section
variable{X:Cx}{cm:String->À}{K:KK}
def Ij(K:Î):R2:=λx y H Q=>∃l b xs zs,x=.ref l/\y=.ref b/\ϱ K H l xs/\ϱ K H b zs/\xs.length+zs.length<=sizeLine/\∀p,H p=none->Q (.ref p) (upd H p<|.lst<|xs++zs)
def GV:aA X (ŀ .Add) (Ij X.K):=by
 intro Ç s a H x y v u Q I rx ry h;obtain⟨l,b,xs,zs,rfl,rfl,hH,hB,hz,q⟩:=h;cases rx;cases ry;obtain⟨ď,r,pl,z⟩:=I.list hH;obtain⟨gn,r2,R7,z2⟩:=I.list hB;obtain⟨⟨c1,d1,t1,R8⟩,n,e,hc,hd,hs⟩:=pl;obtain⟨⟨c2,d2,t2,Dp⟩,n2,e2,OC,OD,uq⟩:=R7;simp only at hc hd hs OC OD uq;subst hc hd hs OC OD uq;have hl:=r.length;have zI:=r2.length;have ea:ď.toArray++gn.toArray=(ď++gn).toArray:=by simp
 refine concat_meets ⟨_,e,rfl⟩ ⟨_,e2,rfl⟩ noFill_list_add seq_list_add PySem.F.slot_list_add PySem.F.entry_list_add (PySem.F.args_list_add_2 _ _) (list_addW l b ď.toArray gn.toArray n n2 none none R8 Dp (by simp only[Ī];lia)) ⟨e,e2,?_⟩;rw[ea];exact⟨.ref _,_,I.Ry (t':=s.toks) (r.append r2) (by rw[Ϟ];lia),rfl,q _ I.fresh⟩
def Ik(K:Î):R2:=λx y H Q=>∃l b xs zs,x=.ref l/\y=.ref b/\fL K H l xs/\fL K H b zs/\xs≠[]/\zs≠[]/\xs.length+zs.length<=sizeLine/\∀p,H p=none->Q (.ref p) (upd H p<|.tup<|xs++zs)
def GW:aA X (ŀ .Add) (Ik X.K):=by
 intro Ç s a H x y v u Q I rx ry h;obtain⟨l,b,xs,zs,rfl,rfl,hH,hB,nx,nz,hz,q⟩:=h;cases rx;cases ry;obtain⟨ď,r,pl,z⟩:=I.tuple hH;obtain⟨gn,r2,R7,z2⟩:=I.tuple hB;obtain⟨⟨c1,d1,t1,R8⟩,e,hc,n,hd⟩:=pl;obtain⟨⟨c2,d2,t2,Dp⟩,e2,OC,n2,OD⟩:=R7;simp only at hc hd OC OD;subst hc hd OC OD;have hl:=r.length;have zI:=r2.length;have FI:ď≠[]:=λz=>by rw[z]at hl;exact nx<|qL.mp hl
 have FJ:gn≠[]:=λz=>by rw[z]at zI;exact nz<|qL.mp zI
 have ea:ď.toArray++gn.toArray=(ď++gn).toArray:=by simp
 refine concat_meets ⟨_,e,rfl⟩ ⟨_,e2,rfl⟩ noFill_tuple_add seq_tuple_add PySem.F.slot_tuple_add PySem.F.entry_tuple_add (PySem.F.args_tuple_add_2 _ _) (tuple_addW2 l b ď.toArray gn.toArray n n2 d1 d2 R8 Dp (by simpa using FI) (by simpa using FJ) (by simp only[Ī];lia)) ⟨e,e2,?_⟩;rw[ea];exact⟨.ref _,_,I.laid (o:=.tup<|xs++zs) (t':=s.toks) (λ_ _ q=>ă _ q) (ø _) ⟨by rw[Ϟ];lia,(ď++gn),r.append r2,⟨_,Į _ rfl,rfl,_,rfl⟩⟩,rfl,q _ I.fresh⟩
noncomputable def ü:PV->PV->Option RV
 |.int i,.int j=>some<|.sh<|.int<|i+j|.str i,.str j=>if i.length+j.length<=16777216then some (.sh<|.str<|i++j)else none|.lst ps,.lst qs=>if ps.length+qs.length<=16777216then some (.ow<|ps++qs)else none|.tup (p::ps),.tup (q::qs)=>if(p::ps).length+(q::qs).length<=16777216then some (.sh<|.tup<|(p::ps)++(q::qs))else none|_,_=>none
def Il(K:Î):R2:=λx y H Q=>Mo x y H Q\/(Ij K x y H Q\/Ik K x y H Q)
def J1:aA X (ŀ .Add) (Il X.K):=JI.or<|GV.or GW
def J2:RY K (Il K.K) ü:=by
 intro c F H f U p q pv v u Q rel r1 r2 e k;unfold ü at e;split at e
 ·cases e;cases r1.int;cases r2.int;exact .inl<|k _ F H rel č č<|Ĉ.int (K:=K) (F:=F)
 ·split at e
  ·rename_i hz;cases e;cases r1.str;cases r2.str;exact .inl ⟨by rw[Ĝ];exact hz,k _ F H rel č č<|Ĉ.str (K:=K) (F:=F)⟩
  ·cases e
 ·split at e
  ·rename_i hz;cases e;obtain⟨a,xs,rfl,h1,h2⟩:=r1.lst rel.sub;obtain⟨b,ys,rfl,h3,h4⟩:=r2.lst rel.sub;refine .inr (.inl ⟨a,b,xs,ys,rfl,rfl,h1,h3,by rw[<-h2.length,<-h4.length,Ĝ];exact hz,λd hd=>?_⟩);obtain⟨q1,q2⟩:=iy rel hd<|é.append h2 h4;exact k _ F _ q1 č (Þ.upd hd) q2
  ·cases e
 ·split at e
  ·rename_i hz;cases e;obtain⟨a,xs,rfl,h1,h2⟩:=r1.tup rel.sub;obtain⟨b,ys,rfl,h3,h4⟩:=r2.tup rel.sub;have l1:=h2.length;have l2:=h4.length;refine .inr (.inr ⟨a,b,xs,ys,rfl,rfl,h1,h3,(λz=>by rw[z]at l1;cases l1),(λz=>by rw[z]at l2;cases l2),by rw[<-l1,<-l2,Ĝ];exact hz,λl hl=>k _ _ _ (rel.alloc hl) (Þ.upd<|rel.sub.free hl) (Þ.upd hl) ?_⟩);show Ĉ K _ _ _;unfold Ĉ;exact⟨l,xs++ys,rfl,fL.of ą,é.same (Þ.upd<|rel.sub.free hl) _ _<|é.append h2 h4⟩
  ·cases e
 ·cases e
noncomputable def yB(g:Int->Int->Int):PV->PV->Option PV
 |.int i,.int j=>some<|.int<|g i j|_,_=>none
noncomputable def Bu(C:Int->Int->Bool)(g:Int->Int->Int):PV->PV->Option PV
 |.int i,.int j=>if C i j=true then some (.int<|g i j)else none|_,_=>none
noncomputable def Lp(g:Int->Int->Bool):PV->PV->Option PV
 |.int i,.int j=>some<|.bl<|g i j|_,_=>none
def Im{g:Int->Int->Int}:kl K (Ab λi j=>.int<|g i j) (yB g):=by
 intro c F H a U p q pv v u Q rel r1 r2 e k;unfold yB at e;split at e
 ·cases e;cases r1.int;cases r2.int;exact k _ F H rel č č Ĉ.int
 ·cases e
def GX{g:Int->Int->Bool}:kl K (Ab λi j=>.bl<|g i j) (Lp g):=by
 intro c F H a U p q pv v u Q rel r1 r2 e k;unfold Lp at e;split at e
 ·cases e;cases r1.int;cases r2.int;exact k _ F H rel č č Ĉ.bl
 ·cases e
def EL{C:Int->Int->Bool}{C':Int->Int->Prop}{g:Int->Int->Int}(hC:∀i j,C i j=true->C' i j):kl K (mI C' λi j=>.int<|g i j) (Bu C g):=by
 intro c F H a U p q pv v u Q rel r1 r2 e k;unfold Bu at e;split at e
 ·split at e
  ·rename_i hc;cases e;cases r1.int;cases r2.int;exact⟨hC _ _ hc,k _ F H rel č č Ĉ.int⟩
  ·cases e
 ·cases e
def Œ:=yB λi j=>i-j
def J3:kl K (Ab λi j=>.int<|i-j) Œ:=Im
def kr(_ j:Int):Bool:=decide (j≠0)&&decide (bits j<=8000)
def eY:=Bu kr λi j=>i.fdiv j
def J4:kl K (mI CO λi j=>.int<|i.fdiv j) eY:=EL λi j h=>by unfold kr at h;simpa[CO]using h
def BO(_ j:Int):Bool:=decide<|j≠0
def Ļ:=Bu BO λi j=>i.fmod j
def J5:kl K (mI (λ_ j=>j≠0) λi j=>.int<|i.fmod j) Ļ:=EL λi j h=>by unfold BO at h;simpa using h
def yN(i j:Int):Bool:=decide (0<=j)&&decide (j.natAbs<=1000000)&&decide (i.natAbs<18446744073709551616)
def yO:=Bu yN λi j=>i^j.toNat
def EM:kl K (mI CB λi j=>.int<|i^j.toNat) yO:=EL λi j h=>by unfold yN at h;simp only[Ă,decide_eq_true_eq]at h;exact⟨h.1.1,by lia,by have:=h.2;simpa using this⟩
def sX(i j:Int):Bool:=decide (0<=j)&&decide (j.natAbs<=1000000)&&decide (i.natAbs<18446744073709551616)
def yP:=Bu sX λi j=>i*2^j.toNat
def Al:kl K (mI CB λi j=>.int<|i*2^j.toNat) yP:=EL λi j h=>by unfold sX at h;simp only[Ă,decide_eq_true_eq]at h;exact⟨h.1.1,by lia,by have:=h.2;simpa using this⟩
def sY(_ j:Int):Bool:=decide<|0<=j
def vc:=Bu sY λi j=>i/2^j.toNat
def EN:kl K (mI (λ_ j=>0<=j) λi j=>.int<|i/2^j.toNat) vc:=EL λi j h=>by unfold sY at h;simpa using h
def mL:=yB λi j=>gG i j
def BP:kl K (Ab λi j=>.int<|gG i j) mL:=Im
def Am:aA X (ŀ .LShift) (mI CB λi j=>.int<|i*2^j.toNat):=aA.wk Jq uS
def EO:aA X (ŀ .RShift) (mI (λ_ j=>0<=j) λi j=>.int<|i/2^j.toNat):=aA.wk Jr uS
def BQ:aA X (ŀ .BitAnd) (Ab λi j=>.int<|gG i j):=aA.wk Js pq
def kt:=Lp λi j=>decide<|i<j
def eO:=Lp λi j=>decide<|i<=j
def CW:=Lp λi j=>decide<|j<i
def EQ:=Lp λi j=>decide<|j<=i
def fT:kl K (Ab λi j=>.bl<|decide<|i<j) kt:=GX
def aX:kl K (Ab λi j=>.bl<|decide<|i<=j) eO:=GX
def BR:kl K (Ab λi j=>.bl<|decide<|j<i) CW:=GX
def MJ:kl K (Ab λi j=>.bl<|decide<|j<=i) EQ:=GX
def Ě(i j:Int):Bool:=decide (i.natAbs<18446744073709551616)||decide (j.natAbs<18446744073709551616)||(decide (bits i<=1048576)&&decide (bits j<=1048576))
def ER{i j:Int}(h:Ě i j=true):uT i j:=by
 unfold Ě at h;simp only[m_,Ă,decide_eq_true_eq]at h;rcases h with(h|h)|h
 ·exact .inl (.inl ⟨by lia,by lia⟩)
 ·exact .inl (.inr ⟨by lia,by lia⟩)
 ·exact .inr h
def ó:PV->PV->Option PV
 |.int i,.int j=>if Ě i j=true then some (.int<|i*j)else none|.str z,.int n=>if 0<=n/\n<=1000/\z.length<=1000then some (.str<|S (Ù n.toNat z.cps.toList).flatten)else none|_,_=>none
def J6:kl K Eu ó:=by
 intro c F H a U p q pv v u Q rel r1 r2 e k;unfold ó at e;split at e
 ·split at e
  ·rename_i hc;cases e;cases r1.int;cases r2.int;exact⟨ER hc,k _ F H rel č č Ĉ.int⟩
  ·cases e
 ·split at e
  ·rename_i hc;cases e;cases r1.str;cases r2.int;exact⟨hc,k _ F H rel č č Ĉ.str⟩
  ·cases e
 ·cases e
variable{E:Ċ->XK}{a b e:È}{pos:Pos}{ma:M PV}
def kx:PV->Option PV
 |.int i=>some<|.int<|-i|_=>none
def ky:VZ K (mU λi=>.int<|-i) kx:=by
 intro c F H d U p pv v Q rel r1 e k;unfold kx at e;split at e
 ·cases e;cases r1.int;exact k _ F H rel č č Ĉ.int
 ·cases e
mutual
def aE:PV->PV->Bool
 |.non,.non=>true|.bl a,.bl b=>a==b|.bl a,.int j=>(if a then 1 else 0)==j|.int i,.bl b=>i==(if b then 1 else 0)|.int i,.int j=>i==j|.str x,.str y=>x==y|.lst xs,.lst ys=>iA xs ys|.tup xs,.tup ys=>iA xs ys|_,_=>false
def iA:List PV->List PV->Bool
 |[],[]=>true|x::xs,y::ys=>aE x y&&iA xs ys|_,_=>false
end
mutual
def ŭ:PV->Bool
 |.non|.bl _|.int _=>true|.str x=>ĕ x|.lst xs=>ϻ xs|.tup xs=>ϻ xs|_=>false
def ϻ:List PV->Bool
 |[]=>true|x::xs=>ŭ x&&ϻ xs
end
mutual
def qh:PV->Nat
 |.lst xs=>pA xs+1|.tup xs=>pA xs+1|_=>0
def pA:List PV->Nat
 |[]=>0|x::xs=>max (qh x)<|pA xs
end
mutual
def ig:PV->Ϥ
 |.non=>.none|.bl b=>.bool b|.int i=>.int i|.str x=>.str x|.lst xs=>.list<|fU xs|.tup xs=>.tuple<|fU xs|_=>.none
def fU:List PV->List Ϥ
 |[]=>[]|x::xs=>ig x::fU xs
end
mutual
theorem gQ:∀p:PV,ŭ p=true->(ig p).canLay0=true
 |.non,_=>rfl|.bl _,_=>rfl|.int _,_=>rfl|.str x,h=>by unfold ŭ at h;unfold ig wP;exact h|.lst xs,h=>by unfold ŭ at h;unfold ig wP;exact iB xs h|.tup xs,h=>by unfold ŭ at h;unfold ig wP;exact iB xs h|.ins _ _ _,h=>by simp[ŭ]at h|.xc _ _ _,h=>by simp[ŭ]at h|.ty _,h=>by simp[ŭ]at h|.cls _,h=>by simp[ŭ]at h|.Dx _ _,h=>by simp[ŭ]at h
theorem iB:∀ps:List PV,ϻ ps=true->d_ (fU ps)=true
 |[],_=>rfl|p::ps,h=>by unfold ϻ at h;rw[Ă]at h;unfold fU d_;rw[gQ p h.1,iB ps h.2];rfl
end
mutual
theorem gR:∀p:PV,(ig p).depth=qh p
 |.non=>rfl|.bl _=>rfl|.int _=>rfl|.str x=>rfl|.lst xs=>by unfold ig PyData.depth qh;rw[sZ xs]|.tup xs=>by unfold ig PyData.depth qh;rw[sZ xs]|.ins _ _ _=>rfl|.xc _ _ _=>rfl|.ty _=>rfl|.cls _=>rfl|.Dx _ _=>rfl
theorem sZ:∀ps:List PV,PyData.depthAll (fU ps)=pA ps
 |[]=>rfl|p::ps=>by unfold fU PyData.depthAll pA;rw[gR p,sZ ps]
end
mutual
theorem s_:∀p q:PV,ŭ p=true->ŭ q=true->Ĭ (ig p) (ig q)=aE p q
 |.lst xs,.lst ys,h1,h2=>by unfold ŭ at h1 h2;unfold ig aE Ĭ;exact xH xs ys h1 h2|.tup xs,.tup ys,h1,h2=>by unfold ŭ at h1 h2;unfold ig aE Ĭ;exact xH xs ys h1 h2|.ins _ _ _,_,h,_=>by simp[ŭ]at h|.xc _ _ _,_,h,_=>by simp[ŭ]at h|.ty _,_,h,_=>by simp[ŭ]at h|.cls _,_,h,_=>by simp[ŭ]at h|.Dx _ _,_,h,_=>by simp[ŭ]at h|.non,q,_,h=>by cases q<;>first|rfl|(simp[ŭ]at h)|(simp[ig,aE,Ĭ])
 |.bl _,q,_,h=>by cases q<;>first|rfl|(simp[ŭ]at h)|(simp[ig,aE,Ĭ])
 |.int _,q,_,h=>by cases q<;>first|rfl|(simp[ŭ]at h)|(simp[ig,aE,Ĭ])
 |.str _,q,_,h=>by cases q<;>first|rfl|(simp[ŭ]at h;done)|(simp[ig,aE,Ĭ])
 |.lst _,.non,_,_=>by simp[ig,aE,Ĭ]|.lst _,.bl _,_,_=>by simp[ig,aE,Ĭ]|.lst _,.int _,_,_=>by simp[ig,aE,Ĭ]|.lst _,.str _,_,_=>by simp[ig,aE,Ĭ]|.lst _,.tup _,_,_=>by simp[ig,aE,Ĭ]|.lst _,.ins _ _ _,_,h=>by simp[ŭ]at h|.lst _,.xc _ _ _,_,h=>by simp[ŭ]at h|.lst _,.ty _,_,h=>by simp[ŭ]at h|.lst _,.cls _,_,h=>by simp[ŭ]at h|.lst _,.Dx _ _,_,h=>by simp[ŭ]at h|.tup _,.non,_,_=>by simp[ig,aE,Ĭ]|.tup _,.bl _,_,_=>by simp[ig,aE,Ĭ]|.tup _,.int _,_,_=>by simp[ig,aE,Ĭ]|.tup _,.str _,_,_=>by simp[ig,aE,Ĭ]|.tup _,.lst _,_,_=>by simp[ig,aE,Ĭ]|.tup _,.ins _ _ _,_,h=>by simp[ŭ]at h|.tup _,.xc _ _ _,_,h=>by simp[ŭ]at h|.tup _,.ty _,_,h=>by simp[ŭ]at h|.tup _,.cls _,_,h=>by simp[ŭ]at h|.tup _,.Dx _ _,_,h=>by simp[ŭ]at h
theorem xH:∀ps qs:List PV,ϻ ps=true->ϻ qs=true->nU (fU ps) (fU qs)=iA ps qs
 |[],[],_,_=>by simp[fU,iA,nU]|[],_::_,_,_=>by simp[fU,iA,nU]|_::_,[],_,_=>by simp[fU,iA,nU]|p::ps,q::qs,h1,h2=>by unfold ϻ at h1 h2;rw[Ă]at h1 h2;unfold fU iA nU;rw[s_ p q h1.1 h2.1,xH ps qs h1.2 h2.2]
end
mutual
theorem ES{F:Hp}:∀(p:PV) (v:V),ŭ p=true->Ĉ K F p v->Rp K.K F (ig p) v
 |.non,_,_,r=>by unfold Ĉ at r;unfold ig Rp;exact r|.bl _,_,_,r=>by unfold Ĉ at r;unfold ig Rp;exact r|.int _,_,_,r=>by unfold Ĉ at r;unfold ig Rp;exact r|.str _,_,_,r=>by unfold Ĉ at r;unfold ig Rp;exact r|.lst xs,_,h,r=>by unfold ŭ at h;unfold Ĉ at r;unfold ig Rp;obtain⟨a,vs,h1,h2,h3⟩:=r;exact⟨a,vs,h1,h2,jA xs vs h h3⟩|.tup xs,_,h,r=>by unfold ŭ at h;unfold Ĉ at r;unfold ig Rp;obtain⟨a,vs,h1,h2,h3⟩:=r;exact⟨a,vs,h1,h2,jA xs vs h h3⟩|.ins _ _ _,_,h,_=>by simp[ŭ]at h|.xc _ _ _,_,h,_=>by simp[ŭ]at h|.ty _,_,h,_=>by simp[ŭ]at h|.cls _,_,h,_=>by simp[ŭ]at h|.Dx _ _,_,h,_=>by simp[ŭ]at h
theorem jA{F:Hp}:∀(ps:List PV) (vs:List V),ϻ ps=true->é K F ps vs->lN K.K F (fU ps) vs
 |[],_,_,r=>by unfold é at r;unfold fU lN;exact r|p::ps,_,h,r=>by unfold ϻ at h;rw[Ă]at h;unfold é at r;unfold fU lN;obtain⟨x,t,h1,h2,h3⟩:=r;exact⟨x,t,h1,ES p x h.1 h2,jA ps t h.2 h3⟩
end
def jB{c:Ctx}{F H:Hp}{b:Ċ}{U:ċ}{p:PV}{v:V}(s:Þ F H)(h:ŭ p=true)(r:rR K c b U F H p v):Rp K.K H (ig p) v:=by
 rcases r with r|r
 ·exact Rp.same s _ _<|ES p v h r
 ·cases p with
  |lst ps=>obtain⟨a,vs,rfl,h3,h4⟩:=r;unfold ŭ at h;unfold ig Rp;exact⟨a,vs,rfl,ϱ.of h3,lN.same s _ _<|jA ps vs h h4⟩|ins C ns ps=>simp[ŭ]at h|_=>exact r.elim
noncomputable def tj(p q:PV):Bool:=ŭ p&&ŭ q&&decide (min (qh p) (qh q)<=60)
def ŉ(p q:PV):Option PV:=if tj p q=true then some (.bl<|aE p q)else none
def ϲ(p q:PV):Option PV:=if tj p q=true then some (.bl<|!aE p q)else none
def Io:kl K (GD K.K false) ŉ:=by
 intro c F H a U p q pv v u Q rel r1 r2 e k;unfold ŉ at e;split at e
 ·rename_i hz;cases e;unfold tj at hz;simp only[Ă,decide_eq_true_eq]at hz;refine⟨ig p,ig q,jB rel.sub hz.1.1 r1,jB rel.sub hz.1.2 r2,gQ p hz.1.1,gQ q hz.1.2,by rw[gR,gR];exact hz.2,?_⟩;rw[s_ p q hz.1.1 hz.1.2];exact k _ F H rel č č Ĉ.bl
 ·cases e
def ET:kl K (GD K.K true) ϲ:=by
 intro c F H a U p q pv v u Q rel r1 r2 e k;unfold ϲ at e;split at e
 ·rename_i hz;cases e;unfold tj at hz;simp only[Ă,decide_eq_true_eq]at hz;refine⟨ig p,ig q,jB rel.sub hz.1.1 r1,jB rel.sub hz.1.2 r2,gQ p hz.1.1,gQ q hz.1.2,by rw[gR,gR];exact hz.2,?_⟩;rw[s_ p q hz.1.1 hz.1.2];exact k _ F H rel č č Ĉ.bl
 ·cases e
noncomputable def ur:PV->Bool
 |.non=>true|_=>false
def tq(p q:PV):Option PV:=match q with
 |.non=>some<|.bl<|ur p|_=>none
def su(p q:PV):Option PV:=match q with
 |.non=>some<|.bl<|!ur p|_=>none
def BS{c:Ctx}{F H:Hp}{b:Ċ}{U:ċ}{p:PV}{v:V}(r:rR K c b U F H p v):decide (v=.non)=ur p:=by
 rcases r with r|r
 ·cases p<;>unfold Ĉ at r<;>first
   |(subst r;rfl)
   |(obtain⟨a,xs,rfl,_⟩:=r;rfl)
   |(obtain⟨a,xs,ys,rfl,_⟩:=r;rfl)
 ·cases p with
  |lst ps=>obtain⟨a,vs,rfl,_⟩:=r;rfl|ins C ns ps=>obtain⟨a,dx,fs,rfl,_⟩:=r;rfl|_=>exact r.elim
def tu:kl K (λx y H Q=>y=.non/\Q (.bl<|decide<|x=.non) H) tq:=by
 intro c F H a U p q pv v u Q rel r1 r2 e k;unfold tq at e;split at e
 ·cases e;refine⟨r2.non,?_⟩;rw[BS r1];exact k _ F H rel č č Ĉ.bl
 ·cases e
def EU:kl K (λx y H Q=>y=.non/\Q (.bl<|!decide (x=.non)) H) su:=by
 intro c F H a U p q pv v u Q rel r1 r2 e k;unfold su at e;split at e
 ·cases e;refine⟨r2.non,?_⟩;rw[BS r1];exact k _ F H rel č č Ĉ.bl
 ·cases e
def ß:PV->PV->Option PV
 |.lst ps,.int i=>pc ps i|.tup ps,.int i=>pc ps i|.str z,.int i=>if z.length<=16777216then(pc z.cps.toList i).map λc=>.str ⟨#[c]⟩else none
 |_,_=>none
def BU{F:Hp}{ps:List PV}{vs:List V}{i:Int}{p:PV}(r:é K F ps vs)(h:pc ps i=some p):∃v,pc vs i=some v/\Ĉ K F p v:=by
 unfold pc at h⊢;rw[r.length]at h;cases e:CK vs.length i with
 |none=>rw[e]at h;cases h|some j=>rw[e]at h;obtain⟨v,h1,h2⟩:=dJ r.pr h;exact⟨v,h1,h2⟩
def MK:kl K (VW K.K) ß:=by
 intro c F H b U p q pv v u Q rel r1 r2 e k;unfold ß at e;split at e
 ·obtain⟨a,vs,rfl,h1,h2⟩:=r1.lst rel.sub;cases r2.int;obtain⟨x,h3,h4⟩:=BU h2 e;exact⟨vs,x,.inl h1,h3,k _ F H rel č č h4⟩
 ·obtain⟨a,vs,rfl,h1,h2⟩:=r1.tup rel.sub;cases r2.int;obtain⟨x,h3,h4⟩:=BU h2 e;exact⟨vs,x,.inr h1,h3,k _ F H rel č č h4⟩
 ·split at e
  ·rename_i z i hz;cases r1.str;cases r2.int;cases ea:pc z.cps.toList i with
   |none=>rw[ea]at e;cases e|some cc=>rw[ea]at e;cases e;exact⟨cc,by rw[Ĝ];exact hz,ea,k _ F H rel č č Ĉ.str⟩
  ·cases e
 ·cases e
@[simp]def jC(U:ċ):ĳ (Option Int):=.ok none U
@[simp]def mP(m:M PV)(U:ċ):ĳ (Option Int):=(m U).bind fun p U1=>match p with
  |.int i=>.ok (some i) U1|_=>.bad
abbrev tP(K:KK)(E:Ċ->XK)(m:M (Option Int)):TO:=tG K E rI m
def aY:PO X none (tP (kk X cm) E jC):=λÇ s a H Q I h=>Gq Ç s a H Q I (by
 obtain⟨c,F,U,rel,h⟩:=h;exact h none F H rel č č rfl)
def Ĳ(ha:PE X e (tV (kk X cm) E ma)):PO X (some e) (tP (kk X cm) E<|mP ma):=λÇ s a H Q I h=>Em ha Ç s a H Q I (by
 obtain⟨c,F,U,rel,h⟩:=h;refine⟨c,F,U,rel,h.bind λp U1 v F1 H1 è _ _ r1 h1=>?_⟩;cases p with
 |int i=>
  have e:v=.int i:=by have sE:Ĉ (kk X cm) F1 (.int i) v:=r1;unfold Ĉ at sE;exact sE
  subst e;exact h1 (some i) F1 H1 è č č rfl
 |_=>exact h1.elim)
def cw{α:Type}(xs:List α)(lo hi:Option Int):List α:=(xs.drop<|HT.lC xs.length 0 lo).take (HT.lC xs.length xs.length hi-HT.lC xs.length 0 lo)
def Lq(p:PV)(lo hi:Option Int):Option RV:=match p with
 |.lst ps=>some<|.ow<|cw ps lo hi|.str z=>if z.length<=16777216then some (.sh<|.str<|S<|cw z.cps.toList lo hi)else none|_=>none
@[simp]def oB(ma:M PV)(ml mh:M (Option Int))(U:ċ):ĳ RV:=(ma U).bind λp U1=>(ml U1).bind λlo U2=>(mh U2).bind λhi U3=>ĳ.yJ (Lq p lo hi) U3
def Ĺ{ml mh:M (Option Int)}{lo hi:Option È}{p2:Pos}(ha:PE X a (tR (kk X cm) E ma))(hl:PO X lo (tP (kk X cm) E ml))(hh:PO X hi (tP (kk X cm) E mh)):PE X (.Subscript a (.Slice lo hi none p2) pos) (tO (kk X cm) E<|oB ma ml mh):=
 PE.wk (Eb YY ha hl hh) fun b H Q ⟨c,F,U,rel,h⟩=>⟨c,F,U,rel,h.bind fun p U1 v F1 H1 è _ _ r1 h1=>⟨c,F1,U1,è,h1.bind fun lo U2 lo' F2 H2 ę sF sH r2 h2=>⟨c,F2,U2,ę,h2.bind fun hi U3 zJ F3 H3 iz Pc V0 r3 h3=>by
   have e2:lo=lo':=r2;have e3:hi=zJ:=r3;subst e2 e3;have sE:rR (kk X cm) c b U3 F3 H3 p v:=r1.mono (sF.trans Pc)<|sH.trans V0;cases p with
   |lst ps=>
    obtain⟨a,vs,rfl,q1,q2⟩:=sE.lst iz.sub;refine⟨vs,q1,λd hd=>?_⟩;have e:é (kk X cm) F3 (cw ps lo hi) (yE vs lo hi):=by unfold cw yE;rw[q2.length];exact é.of<|BE _<|BF _ q2.pr
    obtain⟨z1,z2⟩:=iy iz hd e;exact h3 _ F3 _ z1 č (Þ.upd hd) z2
   |str z=>
    cases sE.str;unfold Lq at h3;dsimp only at h3;split at h3
    ·rename_i hz;exact⟨by rw[Ĝ];exact hz,h3 _ F3 H3 iz č č<|Ĉ.str (K:=kk X cm) (F:=F3)⟩
    ·exact h3.elim
   |_=>exact h3.elim⟩⟩⟩
def ut{c:Ctx}{F H:Hp}{a:Ċ}{U:ċ}{p:PV}{vs:List V}(h:JV K c a U F H [p] vs):∃v,vs=[v]/\rR K c a U F H p v:=by
 cases h with
 |cons r t=>cases t;exact⟨_,rfl,r⟩
def Pd{c:Ctx}{F H:Hp}{a:Ċ}{U:ċ}{p q:PV}{vs:List V}(h:JV K c a U F H [p,q] vs):∃v u,vs=[v,u]/\rR K c a U F H p v/\rR K c a U F H q u:=by
 cases h with
 |cons r t=>
  cases t with
  |cons r' t=>cases t;exact⟨_,_,rfl,r,r'⟩
noncomputable def aa:List PV->Option PV
 |[.lst ps]=>some<|.int ps.length|[.tup ps]=>some<|.int ps.length|[.str z]=>if z.length<=16777216then some (.int z.length)else none|_=>none
def Ň:dG K (JN K.K) aa:=by
 intro c F H b U ps pv vs Q rel r e k;unfold aa at e;split at e
 ·cases e;obtain⟨v,rfl,r1⟩:=ut r;obtain⟨a,xs,rfl,h1,h2⟩:=r1.lst rel.sub;refine⟨xs,.inl h1,?_⟩;rw[<-h2.length];exact k _ F H rel č č Ĉ.int
 ·cases e;obtain⟨v,rfl,r1⟩:=ut r;obtain⟨a,xs,rfl,h1,h2⟩:=r1.tup rel.sub;refine⟨xs,.inr h1,?_⟩;rw[<-h2.length];exact k _ F H rel č č Ĉ.int
 ·split at e
  ·rename_i hz;cases e;obtain⟨v,rfl,r1⟩:=ut r;cases r1.str;exact⟨by rw[Ĝ];exact hz,k _ F H rel č č Ĉ.int⟩
  ·cases e
 ·cases e
noncomputable def An:List PV->Option PV
 |[.int i]=>some<|.int<|if i<0then -i else i|_=>none
def xI:dG K K4 An:=by
 intro c F H a U ps pv vs Q rel r e k;unfold An at e;split at e
 ·cases e;obtain⟨v,rfl,r1⟩:=ut r;cases r1.int;exact k _ F H rel č č Ĉ.int
 ·cases e
noncomputable def BV:List PV->Option PV
 |[.int i,.int j]=>some<|.int<|if j<i then j else i|_=>none
noncomputable def BW:List PV->Option PV
 |[.int i,.int j]=>some<|.int<|if j>i then j else i|_=>none
def GY:dG K Ek BV:=by
 intro c F H a U ps pv vs Q rel r e k;unfold BV at e;split at e
 ·cases e;obtain⟨v,u,rfl,r1,r2⟩:=Pd r;cases r1.int;cases r2.int;exact k _ F H rel č č Ĉ.int
 ·cases e
def GZ:dG K El BW:=by
 intro c F H a U ps pv vs Q rel r e k;unfold BW at e;split at e
 ·cases e;obtain⟨v,u,rfl,r1,r2⟩:=Pd r;cases r1.int;cases r2.int;exact k _ F H rel č č Ĉ.int
 ·cases e
noncomputable def kz:List PV->Option RV
 |[.lst ps]=>some<|.ow ps|[.tup ps]=>some<|.ow ps|_=>none
def BX(K:Î):List V->Hp->VK->Prop:=λxs H Q=>∃p ys,xs=[.ref p]/\(ϱ K H p ys\/fL K H p ys)/\∀l,H l=none->Q (.ref l) (upd H l<|.lst ys)
def eo:ő X (.type "list") (BX X.K):=xu
def eA:EE K (BX K.K) kz:=by
 intro c F H b U ps pv vs Q rel r e k;unfold kz at e;split at e
 ·cases e;obtain⟨v,rfl,r1⟩:=ut r;obtain⟨a,xs,rfl,h1,h2⟩:=r1.lst rel.sub;refine⟨a,xs,rfl,.inl h1,λl hl=>?_⟩;obtain⟨q1,q2⟩:=iy rel hl h2;exact k _ F _ q1 č (Þ.upd hl) q2
 ·cases e;obtain⟨v,rfl,r1⟩:=ut r;obtain⟨a,xs,rfl,h1,h2⟩:=r1.tup rel.sub;refine⟨a,xs,rfl,.inr h1,λl hl=>?_⟩;obtain⟨q1,q2⟩:=iy rel hl h2;exact k _ F _ q1 č (Þ.upd hl) q2
 ·cases e
noncomputable def kA:PV->String->Option Bool
 |.int _,"int"=>some true|.int _,"bool"=>some false|.int _,"str"=>some false|.int _,"tuple"=>some false|.int _,"list"=>some false|.bl _,"int"=>some true|.bl _,"bool"=>some true|.lst _,"list"=>some true|.lst _,"tuple"=>some false|.lst _,"int"=>some false|.lst _,"str"=>some false|.tup _,"tuple"=>some true|.tup _,"list"=>some false|.tup _,"int"=>some false|.tup _,"str"=>some false|.str _,"str"=>some true|.str _,"int"=>some false|.str _,"list"=>some false|.str _,"tuple"=>some false|.non,"int"=>some false|.non,"str"=>some false|.non,"tuple"=>some false|.non,"list"=>some false|_,_=>none
end
theorem yQ{K:KK}{F:Hp}:∀ns:List Int,é K F (ns.map .int)<|ns.map V.int
 |[]=>é.nil|n::ns=>é.cons Ĉ.int<|yQ ns
def ML(K:Î):Sp:=λvs H Q _=>∃(sa:À) (ns:List Int),vs=[.ref sa]/\ϱ K H sa (ns.map V.int)/\ns.length<=63/\∀v H',v=.bl true->Q v H'
def EV{l:lA}{k:Nat}{x:Str}{CX:gJ}{m:MF}{q:ë}{l_:List Str}{XP:(Str->Option Á)->Ñ->Prop}{YP:â->Ñ->Prop}{d:DefRec}{K:gy->Î}(hn:l.most=some 63)(FZ:d.params.defaults=[])(hr:ϛ k gA)
 (hY:∀(w:â) (h:Ñ),YP w h->(K w.params).In h)
 (F:∀(w:â) (mg:Str→Option Á) (fa:À) (h:Ñ),(K w.params).In h→h.Ns ġ mg→mg d.name=some (.ref fa)→
   ∃fd:ĉ,(∀(s:Ä) (u:Á),fC s fd ⟨[u],[]⟩ [(x,u)])/\∀base:Ñ,(K w.params).In base->base.Ns ġ mg->∃cm,bO l.prog w (K w.params) mg base CX k fa fd [x] (u_ ⟨K w.params,cm⟩ 1 m))
 (ht:∀ns:List Int,ns.length<=63->m [.sh<|.lst<|ns.map .int]=.ret (.sh<|.bl true))
 (Mj:∀(H:Hp) (s:Ä) (e:Á) (s':Ä),CX [] H s (λ_ _ _=>False) e s'->False)
 (Ow:eS≠[]->∀w:â,w_ (K w.params)=true:=by intro z;exact absurd rfl z)(yl:∀y z,y∈eS->z∈eS->y=z:=by simp[eS])(K3:∀y,y∈eS->∃d,(recsOf q).find? (λe=>e.name==y)=some d:=by simp[eS]):
 rZ q l_ XP YP l.row.toRowW d [] (λf vs=>rz f vs):=by
 refine L2.Gx (n:=63) (k:=k) (x:=x) (CX:=λ_=>CX) (sp:=λw=>ML<|K w.params) hn (by decide) FZ hr hY (λw mg fa h h1 h2 h3=>?_) (λw H a ns hl _ hS=>⟨a,ns,rfl,hS,hl,λ_ _ z=>z⟩) (λw H s e s' z=>Mj H s e s' z) Ow yl K3;obtain⟨fd,hb,hF⟩:=F w mg fa h h1 h2 h3;refine⟨fd,hb,λbase k1 k2=>?_⟩;obtain⟨cm,G⟩:=hF base k1 k2;refine G.imp λvs H Q E hs=>?_;obtain⟨sa,ns,rfl,hS,hl,hq⟩:=hs;refine⟨H,[.sh<|.lst<|ns.map .int],rfl,Þ.refl _,.cons ?_ .nil,?_⟩
 ·show Ĉ _ _ _ _;unfold Ĉ;exact⟨sa,_,rfl,hS,yQ ns⟩
 ·rw[ht ns hl];intro v F' H' g rf;have e:v=.bl true:=sT (K:=⟨K w.params,cm⟩) (F:=F') rf;exact hq v H' e
section
variable{X:Cx}{K:KK}
def Pe(K:Î)(H:Hp)(x:V)(t:Á):Prop:=match x with
 |.non=>t=.type "NoneType"|.bl _=>t=.type "bool"|.int _=>t=.type "int"|.str _=>t=.type "str"|.ref a=>(t=.type "list"/\∃xs,ϱ K H a xs)\/(t=.type "tuple"/\∃xs,fL K H a xs)\/pk K H (.ref a) t|_=>False
def EW(K:Î):List V->Hp->VK->Prop:=λxs H Q=>match xs with
 |[x,.ty n]=>∃t b,Pe K H x t/\nY K t (.type n)=some b/\Q (.bl b) H|[x,.ref C]=>∃t b,Pe K H x t/\nY K t (.ref C)=some b/\Q (.bl b) H|_=>False
def BY{Ç:List (À×Obj)}{d:Ċ}{H:Hp}{s:Ä}{A:ì}{E:Á->Ä->Prop}{Q:Á->Ä->Prop}{c:Á}{b:Bool}{x:V}{u t:Á}(I:Inv X Ç d H s)(rx:RelV x u)(ty:Pe X.K H x t)(e:nY X.K t c=some b)(h:∀tk,Q (.bool b) {s with toks:=tk}):
 Ï (Ü X.prog X.w) A (call (.builtin "isinstance") [u,c]) Q E s:=by
 cases x with
 |non=>cases(show t=_ from ty);exact iq I rx .non e h|bl y=>cases(show t=_ from ty);exact iq I rx (.bl y) e h|int y=>cases(show t=_ from ty);exact iq I rx (.int y) e h|str y=>cases(show t=_ from ty);exact iq I rx (.str y) e h|ref a=>
  cases(show u=ń a from rx);rcases ty with⟨rfl,xs,hS⟩|⟨rfl,xs,hS⟩|ty
  ·obtain⟨ď,r,⟨o,n,h1,h2,_⟩,_⟩:=I.list hS;exact bE wZ I.mj ⟨o,h1,h2⟩ e (λz=>nomatch z) h
  ·obtain⟨ď,r,⟨o,h1,h2,_⟩,_⟩:=I.tuple hS;exact bE Bl I.mj ⟨o,h1,h2⟩ e (λz=>nomatch z) h
  ·exact iq I rx ty e h
 |_=>exact ty.elim
def mM:ő X (.builtin "isinstance") (EW X.K):=by
 intro Ç s a H xs us Q I r h;unfold EW at h;split at h
 ·obtain⟨t,b,h1,h2,h3⟩:=h;obtain⟨u,w',rfl,r1,r2⟩:=vals2 r;cases r2;exact BY I r1 h1 h2 λtk=>⟨.bl b,H,I.tok _,rfl,h3⟩
 ·obtain⟨t,b,h1,h2,h3⟩:=h;obtain⟨u,w',rfl,r1,r2⟩:=vals2 r;cases r2;exact BY I r1 h1 h2 λtk=>⟨.bl b,H,I.tok _,rfl,h3⟩
 ·exact h.elim
noncomputable def V2:PV->String
 |.non=>"NoneType"|.bl _=>"bool"|.int _=>"int"|.str _=>"str"|.lst _=>"list"|.tup _=>"tuple"|_=>""
def EX{F:Î}{p:PV}{n:String}{b:Bool}(h:kA p n=some b):nY F (.type<|V2 p) (.type n)=some b:=by
 unfold kA at h;split at h<;>first
  |(cases h;first|rfl|decide+kernel|kernel_rfl)
  |cases h
def G_{c:Ctx}{F H:Hp}{d:Ċ}{U:ċ}{p:PV}{v:V}(s:Þ F H)(r:rR K c d U F H p v)(h:∃n b,kA p n=some b):Pe K.K H v (.type<|V2 p):=by
 obtain⟨n,b,h⟩:=h;cases p with
 |non=>cases r.non;rfl|bl _=>cases r.bl;rfl|int _=>cases r.int;rfl|str _=>cases r.str;rfl|lst ps=>obtain⟨a,vs,rfl,h1,h2⟩:=r.lst s;exact .inl ⟨rfl,vs,h1⟩|tup ps=>obtain⟨a,vs,rfl,h1,h2⟩:=r.tup s;exact .inr<|.inl ⟨rfl,vs,h1⟩|ins _ _ _=>simp[kA]at h|xc _ _ _=>simp[kA]at h|ty _=>simp[kA]at h|cls _=>simp[kA]at h|Dx _ _=>simp[kA]at h
def ql:List PV->Option PV
 |[p,.ty n]=>(kA p n).map .bl|_=>none
def mN:dG K (EW K.K) ql:=by
 intro c F H a U ps pv vs Q rel r e k;unfold ql at e;split at e
 ·rename_i p n;obtain⟨v,u,rfl,r1,r2⟩:=Pd r;cases r2.ty;cases eb:kA p n with
  |none=>rw[eb]at e;cases e|some b=>rw[eb]at e;cases e;exact⟨_,b,G_ rel.sub r1 ⟨n,b,eb⟩,EX eb,k _ F H rel č č Ĉ.bl⟩
 ·cases e
noncomputable def jD:List PV->Option PV
 |[.lst ps]=>some<|.tup ps|[.tup ps]=>some<|.tup ps|_=>none
def EY(K:Î):List V->Hp->VK->Prop:=λxs H Q=>∃p ys,xs=[.ref p]/\((ϱ K H p ys/\∀l,H l=none->Q (.ref l) (upd H l<|.tup ys))\/(fL K H p ys/\Q (.ref p) H))
def kB:ő X (.type "tuple") (EY X.K):=uB
def kC:dG K (EY K.K) jD:=by
 intro c F H b U ps pv vs Q rel r e k;unfold jD at e;split at e
 ·cases e;obtain⟨v,rfl,r1⟩:=ut r;obtain⟨a,xs,rfl,h1,h2⟩:=r1.lst rel.sub;refine⟨a,xs,rfl,.inl ⟨h1,λl hl=>k _ _ _ (rel.alloc hl) (Þ.upd<|rel.sub.free hl) (Þ.upd hl) ?_⟩⟩;unfold Ĉ;exact⟨l,xs,rfl,fL.of ą,é.same (Þ.upd<|rel.sub.free hl) _ _ h2⟩
 ·cases e;obtain⟨v,rfl,r1⟩:=ut r;have sE:=r1;obtain⟨a,xs,rfl,h1,h2⟩:=r1.tup rel.sub;refine⟨a,xs,rfl,.inr ⟨h1,k _ F H rel č č ?_⟩⟩;rcases sE with q|q
  ·exact q
  ·exact q.elim
 ·cases e
noncomputable def dr:List PV->Option (List Bool)
 |[]=>some []|.bl b::ps=>(dr ps).map (b::·)|_::_=>none
theorem vd{F:Hp}:∀{ps:List PV}{vs:List V}{bs:List Bool},é K F ps vs->dr ps=some bs->vs=bs.map V.bl
 |[],vs,bs,r,h=>by cases h;have r':=r.pr;cases r';rfl|p::ps,vs,bs,r,h=>by
  cases p with
  |bl b=>
   unfold dr at h;cases eb:dr ps with
   |none=>rw[eb]at h;cases h|some cs=>
    rw[eb]at h;cases h;have r':=r.pr;cases r' with
    |cons r1 t=>rw[sT r1,vd (é.of t) eb];rfl
  |_=>simp[dr]at h
def kD:List PV->Option PV
 |[.lst ps]=>(dr ps).map λbs=>.bl<|bs.all id
 |_=>none
def ik:dG K (JP K.K) kD:=by
 intro c F H b U ps pv vs Q rel r e k;unfold kD at e;split at e
 ·rename_i ps;obtain⟨v,rfl,r1⟩:=ut r;obtain⟨a,xs,rfl,h1,h2⟩:=r1.lst rel.sub;cases eb:dr ps with
  |none=>rw[eb]at e;cases e|some bs=>rw[eb]at e;cases e;refine⟨bs,by rw[<-vd h2 eb];exact h1,k _ F H rel č č Ĉ.bl⟩
 ·cases e
noncomputable def BZ(_ j:Int):Bool:=decide (0<j)&&decide (j.natAbs<1073741824)
def gU:List PV->Option PV
 |[.int i,.int j]=>if BZ i j=true then some (.tup [.int<|i/j,.int<|i%j])else none|_=>none
def B_:List V->Hp->VK->Prop:=λxs H Q=>∃i j,xs=[.int i,.int j]/\L7 i j/\∀p,H p=none->Q (.ref p) (upd H p<|.tup [.int<|i/j,.int<|i%j])
def ve:ő X (.builtin "divmod") B_:=yC
def vf:dG K B_ gU:=by
 intro c F H a U ps pv vs Q rel r e k;unfold gU at e;split at e
 ·split at e
  ·rename_i i j hd;cases e;obtain⟨v,u,rfl,r1,r2⟩:=Pd r;cases r1.int;cases r2.int;unfold BZ at hd;simp only[Ă,decide_eq_true_eq]at hd;refine⟨i,j,rfl,⟨hd.1,by lia⟩,λl hl=>k _ _ _ (rel.alloc hl) (Þ.upd<|rel.sub.free hl) (Þ.upd hl) ?_⟩;unfold Ĉ;exact⟨l,_,rfl,fL.of ą,é.cons Ĉ.int<|é.cons Ĉ.int é.nil⟩
  ·cases e
 ·cases e
end
section
variable{α β:Type}{U:ċ}{i j n k:Nat}{p q:PV}{ps:List PV}{ma mb:M PV}{a b:M Fl}{ta:M Bool}{f:PV->PV->Option PV}{fo:PV->PV->Option RV}{g:Tg}{gs:DA}
@[simp]theorem R9:(cX:M α) U=.bad:=rfl
@[simp high]theorem g_0{β:Type _}{z:β}{l:List β}:(z::l)[0]?=some z:=rfl
@[simp high]theorem g_s{β:Type _}{z:β}{l:List β}{n:Nat}:(z::l)[n+1]?=l[n]?:=rfl
@[simp high]theorem lq1{β:Type _}{z:β}:[z].length=1:=rfl
@[simp high]theorem lq2{β:Type _}{y z:β}:[y,z].length=2:=rfl
@[simp high]theorem lq3{β:Type _}{x y z:β}:[x,y,z].length=3:=rfl
@[simp high]theorem lq4{β:Type _}{w x y z:β}:[w,x,y,z].length=4:=rfl
@[simp high]theorem lq5{β:Type _}{v w x y z:β}:[v,w,x,y,z].length=5:=rfl
def J7(r:ĳ Fl)(b:M Fl):ĳ Fl:=r.bind λf U1=>match f with|.nx=>b U1|f=>.ok f U1
@[simp]theorem Sa:æ a b U=J7 (a U) b:=rfl
@[simp]theorem V3:J7 (.ok .nx U) b=b U:=rfl
@[simp]theorem V4{r:RV}:J7 (.ok (.rt r) U) b=.ok (.rt r) U:=rfl
@[simp]theorem V5:J7 (.ok .bk U) b=.ok .bk U:=rfl
@[simp]theorem V6:J7 (.ok .ct U) b=.ok .ct U:=rfl
@[simp]theorem Sb:J7 .bad b=.bad:=rfl
@[simp]theorem Sc{x:PX}:J7 (.exc x U) b=.exc x U:=rfl
@[simp]theorem Sd:(RV.sh p).val=p:=rfl
@[simp]theorem Se:(RV.ow ps).val=.lst ps:=rfl
@[simp]theorem Sf:(RV.sh p).slot=.sh p:=rfl
@[simp]theorem Sg:(RV.ow ps).slot=.ow ps:=rfl
def MN{β:Type}(f:PV->PV->Option β)(p:PV)(r:ĳ PV):ĳ β:=r.bind λq U2=>ĳ.yJ (f p q) U2
def MO{β:Type}(f:PV->PV->Option β)(r:ĳ PV)(mb:M PV):ĳ β:=r.bind λp U1=>MN f p<|mb U1
@[simp]theorem Sh:Ê f ma mb U=MO f (ma U) mb:=rfl
@[simp]theorem V7{β:Type}{f:PV->PV->Option β}{p:PV}:MO f (.ok p U) mb=MN f p (mb U):=rfl
@[simp]theorem Si{β:Type}{f:PV->PV->Option β}{p q:PV}:MN f p (.ok q U)=ĳ.yJ (f p q) U:=rfl
@[simp]theorem Sj{β:Type}{f:PV->PV->Option β}:MO f .bad mb=.bad:=rfl
@[simp]theorem Pf{β:Type}{f:PV->PV->Option β}{p:PV}:MN f p .bad=.bad:=rfl
@[simp]theorem Sk{β:Type}{f:PV->PV->Option β}{x:PX}:MO f (.exc x U) mb=.exc x U:=rfl
@[simp]theorem Ph{β:Type}{f:PV->PV->Option β}{p:PV}{x:PX}:MN f p (.exc x U)=.exc x U:=rfl
@[simp]theorem Pj:Ą fo ma mb U=MO fo (ma U) mb:=rfl
@[simp]theorem Sn:gm ma mb U=(ma U).bind fun p U1=>match p with|.bl b=>if b=true then mb U1 else .ok (.bl false) U1|_=>.bad:=by
  unfold gm;congr
  funext p U1
  cases p with
  |bl b=>cases b<;>rfl|_=>rfl
@[simp]theorem V8:Pa ma mb U=(ma U).bind fun p U1=>match p with|.bl b=>if b=true then .ok (.bl true) U1 else mb U1|_=>.bad:=by
  unfold Pa;congr
  funext p U1
  cases p with
  |bl b=>cases b<;>rfl|_=>rfl
def Pk{β:Type}(r:ĳ Bool)(x y:M β):ĳ β:=r.bind λb U1=>if b=true then x U1 else y U1
@[simp]theorem V9{x y:M α}:ϴ ta x y U=Pk (ta U) x y:=rfl
@[simp]theorem Wa{x y:M α}{b:Bool}:Pk (.ok b U) x y=if b=true then x U else y U:=rfl
@[simp]theorem So{x y:M α}:Pk .bad x y=.bad:=rfl
@[simp]theorem Sq{x y:M α}{z:PX}:Pk (.exc z U) x y=.exc z U:=rfl
@[simp]theorem Wb:ä i U=(match U[i]?with|some (.sh p)=>.ok p U|some (.ow ps)=>.ok (.lst ps) (U.set i<|.sh<|.lst ps)|some (.bn qs rows)=>.ok (.lst (.lst qs::rows)) U|_=>.bad):=rfl
@[simp]theorem Wc:Â i U=(match U[i]?with|some (.sh p)=>.ok p U|some (.ow ps)=>.ok (.lst ps) U|some (.bw ps)=>.ok (.lst ps) U|some (.rc C ns ps)=>.ok (.ins C ns ps) U|some (.bn qs rows)=>.ok (.lst (.lst qs::rows)) U|some (.pw ps)=>.ok (.lst ps) U|_=>.bad):=rfl
@[simp]theorem We:dE i U=(match U[i]?with|some (.sh p)=>.ok (.sh p) U|some (.ow ps)=>.ok (.ow ps) (U.set i .no)|_=>.bad):=rfl
@[simp]theorem EZ:gN i p U=some (U.set i<|.sh p):=rfl
@[simp]theorem MP:ϒ [] U=some U:=rfl
@[simp]theorem Lr:ï g gs (p::ps) U=(g p U).bind λU1=>gs ps U1:=rfl
@[simp]theorem Wf:gT n gs (.tup ps) U=if ps.length=n then gs ps U else none:=rfl
@[simp]theorem Sr{lo hi:Option Int}:Lq (.lst ps) lo hi=some (.ow<|cw ps lo hi):=rfl
@[simp]theorem J8{mi:M (List PV)}:eN mi g b U=(mi U).bind λitems U1=>ĺ g b items U1:=rfl
@[simp]theorem Ss{Wg:M Fl}{as:List Slot}:Ď n k Wg as=if as.length=n then FR.of (Wg<|ľ k as)else .bad:=rfl
@[simp]theorem Su{r:RV}:FR.of (.ok (.rt r) U)=.ret r:=rfl
@[simp]theorem Sv:FR.of (.ok .nx U)=.ret (.sh .non):=rfl
@[simp]theorem Sw{x:PX}:FR.of (.exc x U)=.exc x:=rfl
@[simp]theorem Sx:FR.of .bad=.bad:=rfl
@[simp]theorem MQ{as:List Slot}:ľ k as=as++Ù (k-as.length) .no:=rfl
@[simp]theorem Sy:eM (.sh p)=some (.sh p):=rfl
@[simp]theorem Sz:eM (.ow ps)=some (.bw ps):=rfl
@[simp]theorem SA{qs rows:List PV}:eM (.bn qs rows)=some (.sh<|.lst (.lst qs::rows)):=rfl
@[simp]theorem SD:eM (.bw ps)=some (.bw ps):=rfl
@[simp]theorem SE:qk (.sh p)=.sh p:=rfl
@[simp]theorem SF:qk (.ow ps)=.bw ps:=rfl
@[simp]theorem SG:qk (.bw ps)=.bw ps:=rfl
@[simp]theorem SH{js:List Nat}{nl:Nat}:mK js nl U=js.map (λ(j:Nat)=>qk<|(U[j]?).getD .no)++Ù nl .no:=rfl
@[simp]theorem xJ:ı i U=(match U[i]?with
  |some (.bw ps)=>.ok ps U|some (.sh<|.lst ps)=>.ok ps U|some (.sh<|.tup ps)=>.ok ps U|some (.sh<|.str z)=>.ok (z.cps.toList.map λc=>.str ⟨#[c]⟩) U
  |some (.ow ps)=>.ok ps<|U.set i<|.sh<|.lst ps|_=>.bad):=rfl
@[simp]theorem Pm{x y:Int}:ü (.int x) (.int y)=some (.sh<|.int<|x+y):=rfl
@[simp]theorem Pn{x y:Int}:Œ (.int x) (.int y)=some (.int<|x-y):=rfl
@[simp]theorem Po{x y:Int}:ó (.int x) (.int y)=if Ě x y=true then some (.int<|x*y)else none:=rfl
@[simp]theorem Pp{x y:Int}:eY (.int x) (.int y)=if kr x y=true then some (.int<|x.fdiv y)else none:=rfl
@[simp]theorem Pq{x y:Int}:Ļ (.int x) (.int y)=if BO x y=true then some (.int<|x.fmod y)else none:=rfl
@[simp]theorem B0{x y:Int}:yO (.int x) (.int y)=if yN x y=true then some (.int<|x^y.toNat)else none:=rfl
@[simp]theorem Pr{x y:Int}:yP (.int x) (.int y)=if sX x y=true then some (.int<|x*2^y.toNat)else none:=rfl
@[simp]theorem Ps{x y:Int}:vc (.int x) (.int y)=if sY x y=true then some (.int<|x/2^y.toNat)else none:=rfl
@[simp]theorem Pu{x:Int}:kx (.int x)=some (.int<|-x):=rfl
@[simp]theorem SI{x y:Int}:kt (.int x) (.int y)=some (.bl<|decide<|x<y):=rfl
@[simp]theorem SJ{x y:Int}:eO (.int x) (.int y)=some (.bl<|decide<|x<=y):=rfl
@[simp]theorem SK{x y:Int}:CW (.int x) (.int y)=some (.bl<|decide<|y<x):=rfl
@[simp]theorem SM{x y:Int}:EQ (.int x) (.int y)=some (.bl<|decide<|y<=x):=rfl
@[simp]theorem SN{x y:Int}:ŉ (.int x) (.int y)=some (.bl<|decide<|x=y):=by
  have h:aE (.int x) (.int y)=decide (x=y):=by rw[aE.eq_def];rfl
  rw[<-h];rfl
@[simp]theorem SO{x y:Int}:ϲ (.int x) (.int y)=some (.bl<|!decide (x=y)):=by
  have h:aE (.int x) (.int y)=decide (x=y):=by rw[aE.eq_def];rfl
  rw[<-h];rfl
@[simp]theorem SQ{x y:Bool}:ŉ (.bl x) (.bl y)=some (.bl<|x==y):=rfl
@[simp]theorem SR{x y:Bool}:ϲ (.bl x) (.bl y)=some (.bl<|!(x==y)):=rfl
@[simp]theorem SS{p:PV}:tq p .non=some (.bl<|ur p):=rfl
@[simp]theorem Pw{p:PV}:su p .non=some (.bl<|!ur p):=rfl
@[simp]theorem SU{x:Int}:ß (.lst ps) (.int x)=pc ps x:=rfl
@[simp]theorem SV{x:Int}:ß (.tup ps) (.int x)=pc ps x:=rfl
@[simp]theorem oC:aa [.lst ps]=some (.int ps.length):=rfl
@[simp]theorem Px:aa [.tup ps]=some (.int ps.length):=rfl
@[simp]theorem SW{x:Int}:An [.int x]=some (.int<|if x<0then -x else x):=rfl
@[simp]theorem SX{x y:Int}:BV [.int x,.int y]=some (.int<|if y<x then y else x):=rfl
@[simp]theorem SY{x y:Int}:BW [.int x,.int y]=some (.int<|if y>x then y else x):=rfl
@[simp]theorem MS:kz [.lst ps]=some (.ow ps):=rfl
@[simp]theorem MT:kz [.tup ps]=some (.ow ps):=rfl
@[simp]theorem Py:jD [.lst ps]=some (.tup ps):=rfl
@[simp]theorem Pz:jD [.tup ps]=some (.tup ps):=rfl
@[simp]theorem S_{t:String}:ql [p,.ty t]=(kA p t).map .bl:=rfl
@[simp]theorem PC{x:Bool}:Ic (.bl x)=some x:=rfl
@[simp]theorem PD{x:Int}:Ic (.int x)=some (x !=0):=rfl
@[simp]theorem PF:Ic (.lst ps)=some (!ps.isEmpty):=rfl
@[simp]theorem E_(xs:List α)(n:Nat):pc xs (n:Int)=xs[n]?:=by
  unfold pc CK;rw[if_pos<|by lia];by_cases h:n<xs.length
  ·rw[if_pos<|by lia];simp
  ·rw[if_neg<|by lia];simp;lia
@[simp]theorem PH(xs:List α)(n:Nat):pc xs (no_index (Ÿ n):Int)=xs[(no_index (Ÿ n):Nat)]?:=E_ xs n
@[simp]theorem Ls{x y:Int}:BO x y=decide (y≠0):=rfl
end
def œ{x y:Int}(h1: -(2^64)<x)(h2:x<2^64):Ě x y=true:=by unfold Ě;rw[decide_eq_true (by lia:x.natAbs<18446744073709551616)];rfl
def Cq{x y:Int}(h1: -(2^64)<y)(h2:y<2^64):Ě x y=true:=by unfold Ě;rw[decide_eq_true (by lia:y.natAbs<18446744073709551616)];simp
def E0{x y:Int}(h1:bits x<=1048576)(h2:bits y<=1048576):Ě x y=true:=by unfold Ě;simp[h1,h2]
def yR{x y:Int}(h1:y≠0)(h2:bits y<=8000):kr x y=true:=by unfold kr;simp[h1,h2]
section
variable{g:Tg}{mb:M Fl}{mc mt:M Bool}{me:M PV}{items:List PV}{U:ċ}
def E1(I:Nat->ċ->Prop)(R:ĳ Fl->Prop)(h0:I 0 U)
 (hs:∀i p U,items[i]?=some p->I i U->∃U1,g p U=some U1/\((∃U2,(mb U1=.ok .nx U2\/mb U1=.ok .ct U2)/\I (i+1) U2)\/(∃r U2,mb U1=.ok (.rt r) U2/\R (.ok (.rt r) U2))\/(∃U2,mb U1=.ok .bk U2/\R (.ok .nx U2))\/∃x U2,mb U1=.exc x U2/\R (.exc x U2)))
 (hd:∀U,I items.length U->R (.ok .nx U)):R (ĺ g mb items U):=by
 induction items generalizing U I with
 |nil=>exact hd U h0|cons p ps ih=>
  obtain⟨U1,e1,h⟩:=hs 0 p U rfl h0;unfold ĺ;rw[e1];dsimp only;rcases h with⟨U2,e2,h2⟩|⟨r,U2,e2,h2⟩|⟨U2,e2,h2⟩|⟨x,U2,e2,h2⟩
  ·have go:R (ĺ g mb ps U2):=ih (λi=>I<|i+1) h2 (λi q U e hi=>hs (i+1) q U (by simpa using e) hi) (λU h=>hd U<|by simpa using h);rcases e2 with e2|e2
   ·rw[e2];exact go
   ·rw[e2];exact go
  ·rw[e2];exact h2
  ·rw[e2];exact h2
  ·rw[e2];exact h2
def tw(I:Nat->ċ->Prop)(h0:I 0 U)(hs:∀i p U,items[i]?=some p->I i U->∃U1 U2,g p U=some U1/\mb U1=.ok .nx U2/\I (i+1) U2):∃U',ĺ g mb items U=.ok .nx U'/\I items.length U':=
 E1 I (λr=>∃U',r=.ok .nx U'/\I items.length U') h0 (λi p U e hi=>by obtain⟨U1,U2,h1,h2,h3⟩:=hs i p U e hi;exact⟨U1,h1,.inl ⟨U2,.inl h2,h3⟩⟩) λU h=>⟨U,rfl,h⟩
theorem ē{α:Type}(c f:α->PV)(I:ċ->Prop):∀(xs:List α) (U:ċ) (acc:List PV),I U->acc.length+xs.length<=16777216->
 (∀x∈xs,∀U,I U->∃U1 U2 U3,g (c x) U=some U1/\mt U1=.ok true U2/\me U2=.ok (f x) U3/\I U3)->Ģ g mt me (xs.map c) U acc=some (acc++xs.map f)
 |[],U,acc,_,_,_=>by simp[Ģ]|x::xs,U,acc,h,hz,hs=>by obtain⟨U1,U2,U3,h1,h2,h3,h4⟩:=hs x ϝ U h;rw[á,Ģ,h1];dsimp only;rw[h2];dsimp only;rw[h3];dsimp only;rw[if_pos (by simp at hz;lia),ē c f I xs U3 (acc++[f x]) h4 (by simp at hz⊢;lia) λy hy=>hs y<|ð _ hy];simp
def Ao{β:Type}(st:β->ċ)(I:β->Prop)(μ:β->Nat)(hs:∀b,I b->mc (st b)=.ok false (st b)\/(mc (st b)=.ok true (st b)/\∃b',mb (st b)=.ok .nx (st b')/\I b'/\μ b'<μ b)){b:β}(h0:I b):
 ∃b',aC mc mb (st b)=.ok .nx (st b')/\I b'/\mc (st b')=.ok false (st b'):=by
 have go:∀n b,μ b<=n->I b->∃b',aC mc mb (st b)=.ok .nx (st b')/\I b'/\mc (st b')=.ok false (st b'):=by
  intro n
  induction n with
  |zero=>
   intro b hn hi;rcases hs b hi with e|⟨e,b',_,_,hl⟩
   ·exact⟨b,by rw[cF,e];rfl,hi,e⟩
   ·lia
  |succ n ih=>
   intro b hn hi;rcases hs b hi with e|⟨e,b',e2,zJ,hl⟩
   ·exact⟨b,by rw[cF,e];rfl,hi,e⟩
   ·obtain⟨b2,q1,q2⟩:=ih b' (by lia) zJ;refine⟨b2,?_,q2⟩;rw[cF,e];simp only[ĳ.aL,if_true,e2];exact q1
 exact go (μ b) b (ø _) h0
end
def Ap(Q:String->Prop):List String->Prop
 |[]=>True|c::cs=>Q c/\Ap Q cs
theorem Ap.get{Q:String->Prop}:∀{cs:List String}{C:String},Ap Q cs->cs.contains C=true->Q C
 |[],_,_,h=>by simp at h|c::cs,C,⟨h1,h2⟩,h=>by
  by_cases e:C=c
  ·rw[e];exact h1
  ·refine h2.get ?_;rw[wa]at h;have:(C==c)=false:=by simpa using e
   rw[this,Bool.false_or]at h;exact h
section
variable{X:Cx}{cm:String->À}{K:KK}{E:Ċ->XK}{a b e o:È}{es:List È}{pos cB:Pos}{m mb:M PV}{f:Str}
theorem tz{F:Hp}:∀{fs:List (Str×V)}{ps:List PV}{p:PV},é K F ps (fs.map (·.2))->((fs.map (·.1)).zip ps).lookup f=some p->∃v,fs.lookup f=some v/\Ĉ K F p v
 |[],ps,p,_,h=>by simp at h|(g,v)::fs,ps,p,r,h=>by
  have r':=r.pr;rw[á]at r';cases r' with
  |cons r1 t=>
   rename_i q qs;rw[á,List.zip_cons_cons,Ř]at h;rw[Ř];cases hg:f==g with
   |true=>simp only[hg]at h;cases h;exact⟨v,rfl,r1⟩|false=>simp only[hg]at h;exact tz (é.of t) h
theorem rR.ins{c:Ctx}{F H:Hp}{d:Ċ}{U:ċ}{C:String}{ns:List Str}{ps:List PV}{v:V}(s:Þ F H)(h:rR K c d U F H (.ins C ns ps) v):∃a dx fs,v=.ref a/\H a=some (.ins (K.cm C) dx fs)/\fs.map (·.1)=ns/\é K F ps (fs.map (·.2)):=by
 rcases h with h|h
 ·unfold Ĉ at h;obtain⟨a,dx,fs,h1,h2,h3,h4⟩:=h;exact⟨a,dx,fs,h1,s _ _ h2,h3,h4⟩
 ·exact h
noncomputable def Ŝ(cs:List String)(f:Str):PV->Option PV
 |.ins C ns ps=>if cs.contains C=true then(ns.zip ps).lookup f else none|_=>none
def MU(cs:List String)(K8:Ap (λC=>zu X.K (cm C)/\eU X.K (cm C) f) cs)(he:PE X e (tR (kk X cm) E m))(hb:cS e f X.env (eval e X.env)=eval e X.env:=by kernel_rfl):PE X (.Attribute e f pos) (tV (kk X cm) E<|fM (Ŝ cs f) m):=
 PE.wk (Jv he hb) fun d H Q ⟨c,F,U,rel,h⟩=>⟨c,F,U,rel,h.bind fun p U1 v F1 H1 è _ _ r1 h1=>by
   cases p with
   |ins C ns ps=>
    unfold Ŝ at h1;dsimp only at h1;split at h1
    ·rename_i hc;obtain⟨a,dx,fs,rfl,q2,q3,q4⟩:=r1.ins è.sub;cases el:(ns.zip ps).lookup f with
     |none=>rw[el]at h1;exact h1.elim|some q=>rw[el]at h1;subst q3;obtain⟨v,e1,e2⟩:=tz q4 el;obtain⟨k1,k2⟩:=K8.get hc;exact⟨a,_,dx,fs,v,rfl,q2,k1,k2,e1,h1 v F1 H1 è č č e2⟩
    ·exact h1.elim
   |_=>exact h1.elim⟩
def pB(X:Cx)(cm:String->À)(CX:gJ)(k n:Nat)(m:Str)(C:String)(mf:MF):Prop:=zu X.K (cm C)/\∃f fd ps,Dl X.K (cm C) m f/\bO X.prog X.w X.K X.mg X.base CX k f fd ps (u_ (kk X cm) n mf)/\Binds X.K fd ps []/\
 ∀{ps:List Slot},(∃r,mf ps=r/\∀z,r=z->z≠.bad)->ps.length=n
def tD(Q:String->MF->Prop):List (String×MF)->Prop
 |[]=>True|(c,mf)::cs=>Q c mf/\tD Q cs
theorem tD.get{Q:String->MF->Prop}:∀{cs:List (String×MF)}{C:String}{mf:MF},tD Q cs->cs.lookup C=some mf->Q C mf
 |[],_,_,_,h=>by simp at h|(c,g)::cs,C,mf,⟨h1,h2⟩,h=>by
  rw[Ř]at h;cases hc:C==c with
  |true=>
   rw[hc]at h;cases h;have:C=c:=by simpa using hc
   rw[this];exact h1
  |false=>rw[hc]at h;exact h2.get h
def jU(m:Str)(aj:List (String×MF))(mo:M PV)(ms:M (List Slot)):M RV:=λU=>(mo U).bind λp U1=>match p with
 |.ins C ns ps=>match aj.lookup C with
   |some mf=>if ns.contains m=true then .bad else(ms U1).bind λas U2=>match mf (.sh (.ins C ns ps)::as)with
    |.ret r=>.ok r U2|.exc x=>.exc x U2|.bad=>.bad
   |none=>.bad
 |_=>.bad
theorem vg{m:Str}:∀{fs:List (Str×V)},(fs.map (·.1)).contains m=false->fs.lookup m=none
 |[],_=>rfl|(g,v)::fs,h=>by rw[á,wa,Bool.or_eq_false_iff]at h;rw[Ř,h.1];exact vg h.2
variable{CX:gJ}{k n:Nat}{pX:Str}{aj:List (String×MF)}{ms:M (List Slot)}
def yS{c:Ctx}{F H:Hp}{d:Ċ}{U:ċ}{Q:VK}(rel:ĝ (kk X cm) c F H d U)(h:Ϸ (kk X cm) E (rO<|kk X cm) c F H d Q (jU pX aj m ms U))(mO:tD (λC mf=>pB X cm CX k n pX C mf) aj):
 Ϸ (kk X cm) E (rV<|kk X cm) c F H d (λx H1=>∃a C dx fs g fd ps mf,x=.ref a/\H1 a=some (.ins C dx fs)/\zu X.K C/\Dl X.K C pX g/\fs.lookup pX=none/\bO X.prog X.w X.K X.mg X.base CX k g fd ps (u_ (kk X cm) n mf)/\Binds X.K fd ps []/\
  tA (kk X cm) E ms d H1 λvs H2=>u_ (kk X cm) n mf (.ref a::vs) H2 Q<|E d) (m U):=
 Ϸ.bind h λp U1 v F1 H1 è _ _ r1 h1=>by
  cases p with
  |ins C ns ps=>
   dsimp only at h1;cases el:aj.lookup C with
   |none=>rw[el]at h1;exact h1.elim|some mf=>
    rw[el]at h1;dsimp only at h1;split at h1
    ·exact h1.elim
    ·rename_i hn;obtain⟨k1,f,fd,qs,k2,k3,k4,k5⟩:=mO.get el;have sE:Ĉ (kk X cm) F1 (.ins C ns ps) v:=r1;have r2:=sE;unfold Ĉ at r2;obtain⟨a,dx,fs,rfl,q2,q3,q4⟩:=r2;refine⟨a,_,dx,fs,f,fd,qs,mf,rfl,è.sub _ _ q2,k1,k2,vg (by rw[q3];simpa using hn),k3,k4,c,F1,U1,è,Ϸ.bind h1 λas U2 vs F2 H2 ę sF sH r3 h3=>?_⟩;exact sU (vs:=.ref a::vs) k5 ę (.cons (show dC _ _ _ (.sh _) _ from Ĉ.same sF _ _ sE) r3) h3
  |_=>exact h1.elim
def J9{pl:Sem Bool}(mO:tD (λC mf=>pB X cm CX k n pX C mf) aj)(hr:ϛ k X.A)(hx:cY CX X E)(he:PE X o (tV (kk X cm) E m))(ha:PA X (e::es) (tA (kk X cm) E ms))
 (mZ:Ð (e::es) X.env=(false,eval e X.env)::Ð es X.env:=by exact ŋ rfl)(hpl:(Ć pos<|Ð es X.env).any (·.1)=false:=by kernel_rfl)
 (ht:eval (.Call (.Attribute o pX cB) (e::es) [] pos) X.env=(do
   let ov<-eval o X.env
   gv cB.atName
   let (f,first)<-ca [ov] (lf ov pX pl)
   gC pos f first (Ć pos<|Ð (e::es) X.env) (bv pos<|bz [] X.env)):=by rfl):
 PE X (.Call (.Attribute o pX cB) (e::es) [] pos) (tO (kk X cm) E<|jU pX aj m ms):=by
 rintro Ç s d H Q I ⟨c,F,U,rel,h⟩;refine Bo (pl:=pl) (ϙ (he Ç s d H _ I ⟨c,F,U,rel,yS rel h mO⟩) λu s1 zz=>?_) ht;obtain⟨x,H1,I1,rx,a,C,dx,fs,g,fd,ps,mf,ex,ea,cl,k2,l,k3,k4,q⟩:=zz;subst ex;obtain rfl:u=ń a:=rx;refine sN I1 ea cl k2 l ?_;refine nZ (first:=[.ref a]) (h₀:=X.base) I.ok.mod.HU k2.kp (ϙ (ha pos Ç s1 d H1 _ I1 q) λus s2 ⟨vs,H2,I2,r,q2⟩=>⟨I2.mj,?_⟩) mZ hpl;exact oz (us:=.ref a::us) (vs:=.ref a::vs) k3 hr k4 hx I2 (.cons rfl r) q2
def G0{pl:Sem Bool}(mO:tD (λC mf=>pB X cm CX k n pX C mf) aj)(hr:ϛ k X.A)(hx:cY CX X E)(he:PE X o (tV (kk X cm) E m))
 (ht:eval (.Call (.Attribute o pX cB) [] [] pos) X.env=(do
   let ov<-eval o X.env
   gv cB.atName
   let (f,first)<-ca [ov] (lf ov pX pl)
   gC pos f first (Ć pos<|Ð [] X.env) (bv pos<|bz [] X.env)):=by rfl):
 PE X (.Call (.Attribute o pX cB) [] [] pos) (tO (kk X cm) E<|jU pX aj m Ú):=by
 rintro Ç s d H Q I ⟨c,F,U,rel,h⟩;refine Bo (pl:=pl) (ϙ (he Ç s d H _ I ⟨c,F,U,rel,yS rel h mO⟩) λu s1 zz=>?_) ht;obtain⟨x,H1,I1,rx,a,C,dx,fs,g,fd,ps,mf,ex,ea,cl,k2,l,k3,k4,q⟩:=zz;subst ex;obtain rfl:u=ń a:=rx;refine sN I1 ea cl k2 l ?_;obtain⟨c1,F1,U1,è,q⟩:=q;exact PySem.W.callWith_K0 (first:=[.ref a]) I1.mj k2.kp<|oz (us:=[.ref a]) (vs:=[.ref a]) k3 hr k4 hx I1 (.cons rfl .nil)<|q [] F1 H1 è č č .nil
noncomputable def putN(f:Str):List Str->List Str
 |[]=>[f]|g::r=>if g=f then g::r else g::putN f r
noncomputable def Aq(f:Str)(p:PV):List Str->List PV->List PV
 |[],_=>[p]|g::r,q::qs=>if g=f then p::qs else q::Aq f p r qs|_::_,[]=>[]
theorem B1{F:Hp}{p:PV}{y:V}(ry:Ĉ K F p y):∀{fs:List (Str×V)}{ps:List PV},é K F ps (fs.map (·.2))->(jt f y fs).map (·.1)=putN f (fs.map (·.1))/\é K F (Aq f p (fs.map (·.1)) ps) ((jt f y fs).map (·.2))
 |[],ps,r=>⟨rfl,é.cons ry é.nil⟩|(g,v)::fs,ps,r=>by
  have r':=r.pr;rw[á]at r';cases r' with
  |cons r1 t=>
   rename_i q qs;unfold jt;rw[á];unfold putN Aq;by_cases hg:g=f
   ·rw[if_pos hg,if_pos hg,if_pos hg];exact⟨rfl,é.cons ry<|é.of t⟩
   ·rw[if_neg hg,if_neg hg,if_neg hg];obtain⟨h1,h2⟩:=B1 ry<|é.of t;exact⟨by rw[á,h1],é.cons r1 h2⟩
@[simp]def jV(i:Nat)(cs:List String)(f:Str)(mv:M PV)(U:ċ):ĳ Fl:=(mv U).bind fun p U1=>match U1[i]?with
  |some (.rc C ns ps)=>if cs.contains C=true/\ns.length<1000then .ok .nx (U1.set i<|.rc C (putN f ns)<|Aq f p ns ps)else .bad|_=>.bad
def Ka{i:Nat}{x:Str}{px cA:Pos}(cs:List String)(K8:Ap (λC=>zu X.K (cm C)/\eU X.K (cm C) f) cs)(ho:PE X (.Name x px) (jm i))(he:PE X e (tV (kk X cm) E m))(hs:ū e (some<|.Attribute (.Name x px) f cA) pos.line X.env=ñ false:=by kernel_rfl):
 PS X (.Assign [.Attribute (.Name x px) f cA] e pos) (tS (kk X cm) E<|jV i cs f m):=PS.wk (Jw ho he hs) λD d H ⟨c,F,U,rel,h⟩=>⟨c,F,U,rel,ϸ.bind h λp U1 y F1 H1 è s1 ry h1=>by
 cases e1:U1[i]?with
 |none=>rw[e1]at h1;exact h1.elim|some sl=>
  rw[e1]at h1;cases sl with
  |rc C ns ps=>
   dsimp only at h1;split at h1
   ·rename_i hc;obtain⟨a,dx,fs,q1,q2,q3,q4,q5,q6,q7⟩:=è.slot i _ e1;subst q5;obtain⟨k1,k2⟩:=K8.get hc.1;refine⟨.ref a,ň q1,a,_,dx,fs,rfl,q2,k1,k2,by simpa using hc.2,?_⟩;obtain⟨z1,z2⟩:=B1 (f:=f) (p:=p) ry q6;exact h1 d F1 _ (è.write ⟨_,_,e1,ň q1,rfl⟩ (ň q1) ⟨a,dx,_,rfl,ą,q3,q4,z1,z2,q7⟩ λ_ z=>(V.ref.inj z).symm) č
   ·exact h1.elim
  |_=>exact h1.elim⟩
inductive IR where
 |ok (ns:List Str) (ps:List PV)|exc (x:PX)|bad
abbrev MI:=List Slot->IR
noncomputable def IR.of:ĳ Fl->IR
 |.ok .nx (.rc _ ns ps::_)=>.ok ns ps|.exc x _=>.exc x|_=>.bad
def dH(n k:Nat)(C:String)(mb:M Fl):MI:=λas=>if as.length+1=n then IR.of (mb (.rc C [] []::ľ (k-1) as))else .bad
structure PJ(a:À)(F H F' H':Hp):Prop where
 h:∀b u,b≠a->H b=some u->H' b=some u
 f:Þ F F'
 sub:Þ F' H'
 out:∀b,b≠a->H b≠none->F b=none->F' b=none
def S0(K:KK)(E:XK)(F H:Hp)(Q:VK)(a dx:À)(C:String):IR->Prop
 |.ok ns ps=>∀F' H' fs,PJ a F H F' H'->H' a=some (.ins (K.cm C) dx fs)->F' a=none->fs.map (·.1)=ns->é K F' ps (fs.map (·.2))->Q .non H'|.exc x=>∀C' d F' H',PJ a F H F' H'->CU K F' x C' d->E C' d H'|.bad=>False
def MV(K:KK)(n:Nat)(C:String)(mi:MI):Sp:=λvs H Q E=>∃F a dx yu as,vs=.ref a::yu/\as.length+1=n/\H a=some (.ins (K.cm C) dx [])/\F a=none/\Þ F H/\Paired (dC K F H) as yu/\S0 K E F H Q a dx C (mi as)
def G1(a dx:À)(C:String)(F H:Hp):Ctx:=⟨λb=>if b=a then none else H b,F,λb=>if b=a then none else(dO F H).L b,λa' Y0 C'=>a'=a/\Y0=dx/\C'=C⟩
def ĝ.Wh{c:Ċ}{U:ċ}{a dx:À}{C:String}{F H F' H':Hp}(r:ĝ K (G1 a dx C F H) F' H' c U):PJ a F H F' H':=
 ⟨λb u hb e=>r.base b u (by show(if b=a then none else H b)=_;rw[if_neg hb];exact e),r.f0,r.sub,λb hb h1 h2=>r.fP b (by show(if b=a then none else H b)≠none;rw[if_neg hb];exact h1) h2⟩
def ĝ.Kb{F H:Hp}{N:List Str}{as:List Slot}{vs:List V}{a dx:À}{C:String}(s:Þ F H)(ha:H a=some (.ins (K.cm C) dx []))(hF:F a=none)(h:Paired (dC K F H) as vs):
 ĝ K (G1 a dx C F H) F H (L2.start N (.ref a::vs)) (.rc C [] []::ľ (N.length-1) as):=by
 have r0:=ĝ.start (N:=N) (K:=K) s (as:=.sh (.int 0)::as) (vs:=.int 0::vs)<|.cons (Ĉ.int (K:=K) (F:=F) (i:=0)) h;have est:L2.start N (.ref a::vs)=some (.ref a)::(L2.start N (.int 0::vs)).tail:=by unfold L2.start;simp
 have S3:(L2.start N (V.int 0::vs)).tail.length=(ľ (N.length-1) as).length:=by unfold L2.start ľ;simp[Paired.length h];lia
 have tl:∀i:Nat,(L2.start N (.int 0::vs)).tail[i]?=(L2.start N (.int 0::vs))[i+1]?:=λi=>by simp
 have sp:∀i:Nat,(ľ (N.length-1) as)[i]?=(ľ N.length (.sh (.int 0)::as))[i+1]?:=λi=>by unfold ľ;simp only[dQ,qM,Ę];rw[show N.length-1-as.length=N.length-(as.length+1) by lia]
 have pY:∀(i:Nat) (s':Slot),(ľ (N.length-1) as)[i]?=some s'->s'.own=false:=λi s' e=>by
  unfold ľ at e;by_cases hi:i<as.length
  ·rw[fj hi]at e;obtain⟨v,_,h3⟩:=dJ h e;exact(dC.slot h3).2
  ·rw[kX (by lia),gt]at e;split at e
   ·cases e;rfl
   ·cases e
 rw[est];refine⟨s,λb u e=>?_,Þ.refl _,λ_ _ z=>z,λb u e=>?_,λb e=>?_,?_,λi s' e=>?_,λi j b h1 h2=>?_⟩
 ·have e':(if b=a then none else H b)=some u:=e;split at e'
  ·cases e'
  ·exact e'
 ·have e':(if b=a then none else(dO F H).L b)=some u:=e;split at e'
  ·cases e'
  ·exact aB e'
 ·show(if b=a then none else(dO F H).L b)=none;have e':(if b=a then none else H b)=none:=e;split
  ·rfl
  ·rename_i hb;rw[if_neg hb]at e';exact r0.lb b e'
 ·simp[S3]
 ·cases i with
  |zero=>cases e;exact⟨a,dx,[],rfl,ha,hF,by show(if a=a then none else H a)=none;rw[if_pos rfl],rfl,é.nil,rfl,rfl,rfl⟩|succ i=>
   have e':(ľ (N.length-1) as)[i]?=some s':=by simpa using e
   have q:=r0.slot (i+1) s' (by rw[<-sp];exact e');rw[<-tl]at q;show aT K (G1 a dx C F H) F H (((some (V.ref a)::(L2.start N (.int 0::vs)).tail)[i+1]?).getD none) s';rw[qM];cases s' with
   |no=>trivial|sh p=>exact q|bw ps=>obtain⟨b,ws,q1,q2,q3⟩:=q;refine⟨b,ws,q1,?_,q3⟩;show(if b=a then none else(dO F H).L b)=_;rw[if_neg (λz=>by have:=(aB q2).1;rw[z,ha]at this;cases this)];exact q2
   |ow ps=>have:=pY i _ e';cases this|rc C ns ps=>have:=pY i _ e';cases this|ot ps qs rs=>have:=pY i _ e';cases this|ol pS=>have:=pY i _ e';cases this|fr pS=>have:=pY i _ e';cases this|pw ps=>have:=pY i _ e';cases this|pin=>have:=pY i _ e';cases this|dw gL=>
    obtain⟨b,ts,q1,q2,q3⟩:=q;have lt:∀{x:À}{u:HO},(dO F H).L x=some u->(∀o,u=.ins (K.cm C) dx o->False)->(if x=a then none else(dO F H).L x)=some u:=fun{x u} e1 e2=>by rw[if_neg (λz=>by have:=(aB e1).1;rw[z,ha]at this;cases this;exact e2 _ rfl)];exact e1
    exact⟨b,ts,q1,lt q2 (λ_ z=>by cases z),lO q3 λt d _ ⟨xs,y,vs,k1,k2,k3,k4⟩=>⟨xs,y,vs,k1,k2,lt k3 (λ_ z=>by cases z),k4⟩⟩
   |bn qs rows=>
    obtain⟨v,q1,q2⟩:=q;refine⟨v,q1,q2.base λb u z=>?_⟩;have z':(if b=a then none else H b)=some u:=z;split at z'
    ·cases z'
    ·exact z'
 ·have Ym:∀{i},Ŭ F (some (.ref a)::(L2.start N (.int 0::vs)).tail) (Slot.rc C [] []::ľ (N.length-1) as) i b→i=0:=fun{i} ⟨s',y,q1,_,q2⟩=>by
   have q2:=mF q2;cases i with
   |zero=>rfl|succ i=>have:=pY i s' (by simpa using q1);rw[this]at q2;cases q2
  rw[Ym h1,Ym h2]
end
section
variable{P:ë}{w:â}{K:Î}{cm:String->À}{mg:Str->Option Á}{base:Ñ}{CX:gJ}
def Y1{x ō:Str}{st:ò}{f:À}{fd:ĉ}{N ps:List Str}{k n j:Nat}{C:String}{mb:M Fl}{mi:MI}(F:FN K x ō st f fd)(S:ż N ps (Ā st))(hn:ps.length=n)(hj:N.length=j)(hf:mi=dH n j C mb)
 (iU:∀(cdv:Á) (A:ì) (outer:List Env) (s:Ä) (H:Hp) (E:XK),ϛ k (A.deeper<|Ϗ ō (Ā st) s.heap.objs.size f cdv)→
   dB (sO CX P w K mg base N ō (Ā st) f cdv A outer s H E) (Ž st) (tS ⟨K,cm⟩ (λ_=>E) mb)):bO P w K mg base CX (k+1) f fd ps (MV ⟨K,cm⟩ n C mi):=by
 subst hn hj hf;obtain⟨oc,od,kV,doc,pm,an,cdv,ct,FY,rfl,lk,Dj⟩:=F.ex;refine D8 lk Dj S (λvs H Q E ⟨F,a,dx,yu,as,h1,h2,_,_,_,h3,_⟩=>by rw[h1,Ę,<-Paired.length h3];exact h2) λA outer s H vs Q E hr DF=>?_;obtain⟨F,a,dx,yu,as,rfl,h2,h3,h4,h5,h6,h7⟩:=DF;refine⟨_,iU cdv A outer s H E hr,G1 a dx C F H,F,_,ĝ.Kb h5 h3 h4 h6,?_⟩;unfold dH at h7;rw[if_pos h2]at h7;cases e:mb (.rc C [] []::ľ (N.length-1) as)with
 |bad=>rw[e]at h7;exact h7|exc x U'=>rw[e]at h7;exact λc C' d F' H' rel s1 q=>h7 C' d F' H' rel.Wh q
 |ok fl U'=>
  rw[e]at h7;cases fl with
  |nx=>
   cases U' with
   |nil=>exact h7.elim|cons sl U'=>
    cases sl with
    |rc C' ns qs=>intro c F' H' rel s1;obtain⟨b,dy,fs,q1,q2,q3,q4,q5,q6,rfl,rfl,rfl⟩:=rel.slot 0 _ rfl;exact h7 F' H' fs rel.Wh q2 q3 q5 q6|_=>exact h7.elim
  |bk=>exact h7.elim|ct=>exact h7.elim|rt r=>exact h7.elim
end
@[simp]def eP(C:String)(mi:MI)(ms:M (List Slot))(U:ċ):ĳ PV:=(ms U).bind fun as U1=>match mi as with
  |.ok ns ps=>.ok (.ins C ns ps) U1|.exc x=>.exc x U1|.bad=>.bad
section
variable{X:Cx}{cm:String->À}{E:Ċ->XK}{e:È}{es:List È}{pos p:Pos}{CX:gJ}{k n:Nat}{f:À}{fd:ĉ}{ps:List Str}{C:String}{mi:MI}{ms:M (List Slot)}{x:Str}
def E2{c:Ctx}{F1 H1:Hp}{a:Ċ}{U1:ċ}{Q:VK}{as:List Slot}{vs:List V}(hlen:(∃r,mi as=r/\∀z,r=z->z≠.bad)->as.length+1=n)(è:ĝ (kk X cm) c F1 H1 a U1)(r1:Paired (dC (kk X cm) F1 H1) as vs)
 (h:Ϸ (kk X cm) E (rV<|kk X cm) c F1 H1 a Q (match mi as with|.ok ns ps=>.ok (.ins C ns ps) U1|.exc x=>.exc x U1|.bad=>.bad)):
 ∀x dx,H1 x=none->H1 dx=none->dx≠x->MV (kk X cm) n C mi (.ref x::vs) (upd (upd H1 dx<|.own x) x<|.ins (cm C) dx []) (λv H2=>v=.non/\Q (.ref x) H2) (E a):=by
 intro x dx hx hdx iX;have up:∀b u,H1 b=some u->upd (upd H1 dx<|.own x) x (.ins (cm C) dx []) b=some u:=λb u e=>by rw[õ<|Ņ e hx,õ<|Ņ e hdx];exact e
 have G2:∀{F' H':Hp},PJ x F1 (upd (upd H1 dx<|.own x) x<|.ins (cm C) dx []) F' H'->Gr F1 H1 F' H':=fun{F' H'} g=>
  ⟨fun b u e=>g.h b u (Ņ e hx)<|up b u e,g.f,g.sub,fun b hb hf=>by
    obtain⟨u,hu⟩:∃u,H1 b=some u:=by
     cases q:H1 b with
     |none=>exact absurd q hb|some u=>exact⟨u,rfl⟩
    exact g.out b (Ņ hu hx) (by rw[up b u hu];intro z;cases z) hf⟩
 refine⟨F1,x,dx,vs,as,rfl,?_,ą,è.sub.free hx,λb u e=>up b u<|è.sub b u e,?_,?_⟩
 ·refine hlen ⟨_,rfl,λz hz hb=>?_⟩;rw[hz,hb]at h;exact h
 ·refine Paired.mono (λs v hs=>?_) r1;cases s with
  |sh p=>exact hs|bw qs=>obtain⟨b,ws,q1,q2,q3,q4⟩:=hs;exact⟨b,ws,q1,up b _ q2,q3,q4⟩|dw gL=>obtain⟨b,ts,q1,q2,q3,q4⟩:=hs;exact⟨b,ts,q1,up b _ q2,q3,lO q4 λt d _ ⟨xs,y,ws,k1,k2,k3,k4⟩=>⟨xs,y,ws,k1,k2,⟨up y _ k3.1,k3.2⟩,k4⟩⟩
  |_=>exact hs.elim
 ·cases em:mi as with
  |bad=>rw[em]at h;exact h|exc y=>rw[em]at h;exact λC' d F' H' g rx=>h C' d F' H' (è.call<|G2 g) g.f rx
  |ok ns qs=>rw[em]at h;intro F' H' fs g Q1 Vg hn hr;have r2:=è.call<|G2 g;have r3:=r2.freeze Q1 (è.base.free hx) Vg<|è.mG (G2 g).f (è.fresh hx);refine⟨rfl,h _ _ H' r3 (g.f.trans<|Þ.upd Vg) (G2 g).h ?_⟩;show Ĉ _ _ _ _;unfold Ĉ;exact⟨x,dx,fs,rfl,ą,hn,é.same (Þ.upd Vg) qs _ hr⟩
def CY{Ç:List (À×Obj)}{a:Ċ}{H:Hp}{s:Ä}{Q:VK}{us:List Á}{vs:List V}{sp:Sp}{C:À}(M:Mk X.K C f)(F:bO X.prog X.w X.K X.mg X.base CX k f fd ps sp)(hr:ϛ (k+1) X.A)(hb:Binds X.K fd ps [])
 (hx:cY CX X E)(I:Inv X Ç a H s)(r:ł vs us)
 (h:∀x dx,H x=none->H dx=none->dx≠x->sp (.ref x::vs) (upd (upd H dx<|.own x) x<|.ins C dx []) (λv H2=>v=.non/\Q (.ref x) H2) (E a)):
 Ï (Ü X.prog X.w) X.A (call (.ref C) us) (EP X Ç a Q) X.xe s:=by
 have hq:=h (s.heap.objs.size+1) s.heap.objs.size (I.hok.fresh<|wj _) (I.hok.fresh<|ø _)<|ŏ<|qW _;have I2:=Inv.made (C:=C) I;have r2:ł (V.ref (s.heap.objs.size+1)::vs) (ń (s.heap.objs.size+1)::us):=.cons rfl r;have hl:(ń (s.heap.objs.size+1)::us++[]).length=ps.length:=by have e:=r2.length;rw[F.len _ _ _ _ hq]at e;rw[kW];exact e.symm
 have OB:=hb {s with heap:=(s.heap.push ei).push (fF C s.heap.objs.size)} (ń (s.heap.objs.size+1)::us) I2.mj hl;rw[kW]at OB;refine wpAny_call<|D4 (f:=f) I.mj M.makes M.init (beq_iff_eq.mp M.fn)<|lj (F.run _ X.stack _ _ ⟨ń (s.heap.objs.size+1)::us,[]⟩ _ _ _ (E a) (hr.make C us []) (I2.env0.make C us []) OB r2 hq) λr s' OE=>?_;cases r with
 |error e=>exact hx Ç a _ _ e s' I2 OE|ok fl=>
  cases fl with
  |ret u=>obtain⟨v,H',I3,rv,ev,q3⟩:=I2.after OE;subst ev;exact⟨rv,⟨V.ref<|s.heap.objs.size+1,H',I3,rfl,q3⟩⟩|next=>exact aG OE|brk=>exact aG OE|cont=>exact aG OE
def CZ{n k:Nat}{C:String}{mb:M Fl}{as:List Slot}(h:∃r,dH n k C mb as=r/\∀z,r=z->z≠.bad):as.length+1=n:=by
 obtain⟨r,h1,h2⟩:=h;unfold dH at h1;by_cases hl:as.length+1=n
 ·exact hl
 ·rw[if_neg hl]at h1;exact absurd h1.symm (λz=>h2 .bad (by rw[<-h1]) rfl)
def Kd(M:Mk X.K (cm C) f)(F:bO X.prog X.w X.K X.mg X.base CX k f fd ps (MV (kk X cm) n C mi))(hlen:∀{as:List Slot},(∃r,mi as=r/\∀z,r=z->z≠.bad)->as.length+1=n)(hr:ϛ (k+1) X.A)(hg:Gl X x)(hm:X.mg x=some (.ref<|cm C))(hb:Binds X.K fd ps [])(hx:cY CX X E)
 (ha:PA X (e::es) (tA (kk X cm) E ms))(pN:(x==("__debug__":Str))=false:=by kernel_rfl)(he:Ð (e::es) X.env=(false,eval e X.env)::Ð es X.env:=by exact ŋ rfl)(hpl:(Ć pos<|Ð es X.env).any (·.1)=false:=by kernel_rfl):
 PE X (.Call (.Name x p) (e::es) [] pos) (tV (kk X cm) E<|eP C mi ms):=by
 rintro Ç s a H Q I ⟨c,F',U,rel,h⟩;refine lg<|se I hg hm ?_ pN;refine nZ (h₀:=X.base) I.ok.mod.HU M.kp (ϙ (ha pos Ç s a H (λvs H1=>∀x dx,H1 x=none->H1 dx=none->dx≠x->MV (kk X cm) n C mi (.ref x::vs) (upd (upd H1 dx<|.own x) x<|.ins (cm C) dx []) (λv H2=>v=.non/\Q (.ref x) H2) (E a)) I
  ⟨c,F',U,rel,Ϸ.bind h λas U1 vs F1 H1 è _ _ r1 h1=>E2 hlen è r1 h1⟩) λus s1 ⟨vs,H1,I1,r,q⟩=>⟨I1.mj,?_⟩) he hpl
 exact CY M F hr hb hx I1 r q
end
def n_.sub{P:ë}{w:â}{H:Hp}{h B:Ñ}(x:n_ P w H h)(k:∀b o u,H b=some u->h.get? b=some o->B.get? b=some o):n_ P w H B:=λa o e=>
 (x a o e).stay (fun b u hb q=>by
   rcases hb with rfl|hb
   ·exact k _ _ _ e q
   ·exact k _ _ _ hb q) (λ_ q=>q) λ_ _ q=>q
noncomputable def C_(X:Cx)(xe:Á->Ä->Prop)(Ç:List (À×Obj)):Cx:={X with xe:=xe,pn:=X.pn++Ç}
section
variable{X:Cx}{Ç:List (À×Obj)}{σ:Ċ}{H:Hp}{s:Ä}{xe:Á->Ä->Prop}
def Inv.MX(I:Inv X Ç σ H s):Inv (C_ X xe Ç) [] σ H s:=
 ⟨⟨I.ok.mod,I.ok.kind,I.ok.glob,I.ok.blt,I.ok.above,I.ok.inj,I.ok.has,I.ok.cab,I.ok.hd,I.ok.frames,I.ok.stk,I.ok.O1,I.ok.bs,I.ok.DJ,I.ok.yz,I.ok.Cu,I.ok.oa,I.ok.Gd,I.ok.tb⟩,
   I.os,I.bare,I.base,I.loc,I.cell,I.free,I.jT,λp hp=>I.pin p (by simpa[C_]using hp),I.hok,I.len⟩
def Inv.vh{uI:List (À×Obj)}(I:Inv (C_ X xe Ç) uI σ H s):Inv X Ç σ H s:=
 ⟨⟨I.ok.mod,I.ok.kind,I.ok.glob,I.ok.blt,I.ok.above,I.ok.inj,I.ok.has,I.ok.cab,I.ok.hd,I.ok.frames,I.ok.stk,I.ok.O1,I.ok.bs,I.ok.DJ,I.ok.yz,I.ok.Cu,I.ok.oa,I.ok.Gd,I.ok.tb⟩,
   I.os,I.bare,I.base,I.loc,I.cell,I.free,I.jT,λp hp=>I.pin p<|kU _ hp,I.hok,I.len⟩
theorem SP.vh{uI:List (À×Obj)}{D:Ends}{f:Flow}(h:SP (C_ X xe Ç) uI D f s):SP X Ç D f s:=by
 cases f with
 |next=>obtain⟨a,H',I,q⟩:=h;exact⟨a,H',Inv.vh I,q⟩|brk=>obtain⟨a,H',I,q⟩:=h;exact⟨a,H',Inv.vh I,q⟩|cont=>obtain⟨a,H',I,q⟩:=h;exact⟨a,H',Inv.vh I,q⟩|ret u=>obtain⟨v,a,H',I,r,q⟩:=h;exact⟨v,a,H',Inv.vh I,r,q⟩
end
abbrev MH:=PX->ċ->ĳ Fl
open Builtin Builtin.ObjectAttr
section
variable{X:Cx}{K:KK}
def E3:List V->Hp->VK->Prop:=λxs H Q=>(∃i,xs=[.int i]/\Q (.int i) H)\/∃k,xs=[.bl k]/\Q (.int<|if k then 1 else 0) H
def Ke:ő X (.type "int") E3:=CG
noncomputable def yU:List PV->Option PV
 |[.int i]=>some<|.int i|[.bl k]=>some<|.int<|if k then 1 else 0|_=>none
def Kf:dG K E3 yU:=by
 intro c F H a U ps pv vs Q rel r e k;unfold yU at e;split at e
 ·cases e;obtain⟨v,rfl,r1⟩:=ut r;cases r1.int;exact .inl ⟨_,rfl,k _ F H rel č č Ĉ.int⟩
 ·cases e;obtain⟨v,rfl,r1⟩:=ut r;cases r1.bl;exact .inr ⟨_,rfl,k _ F H rel č č Ĉ.int⟩
 ·cases e
def E4:List V->Hp->VK->Prop:=λxs H Q=>∃i,xs=[.int i]/\i.natAbs.log2<1920/\Q (.str<|fG i) H
def Kg:ő X (.type "str") E4:=xp
noncomputable def G3:List PV->Option PV
 |[.int i]=>if i.natAbs.log2<1920then some (.str<|fG i)else none|_=>none
def Kh:dG K E4 G3:=by
 intro c F H a U ps pv vs Q rel r e k;unfold G3 at e;split at e
 ·split at e
  ·rename_i hz;cases e;obtain⟨v,rfl,r1⟩:=ut r;cases r1.int;exact⟨_,rfl,hz,k _ F H rel č č Ĉ.str⟩
  ·cases e
 ·cases e
theorem cE:∀{ns:List Int}{ď:List Á},ł (ns.map V.int) ď->k_ ď ns
 |[],ď,h=>by cases h;exact .nil|n::ns,ď,h=>by
  cases h with
  |cons r t=>obtain⟨k,e⟩:=(show ∃k,_=nV n k from r);subst e;exact .cons n k<|cE t
def MY(K:Î):List V->Hp->VK->Prop:=λxs H Q=>∃(p:À) (ns:List Int),xs=[.ref p]/\ϱ K H p (ns.map V.int)/\Q (.int ns.sum) H
def xK(hc:X.calm=true):ő X (.builtin "sum") (MY X.K):=by
 intro Ç s a H xs us Q I r h;obtain⟨p,ns,rfl,hS,q⟩:=h;obtain⟨u,rfl,ru⟩:=vals1 r;cases ru;obtain⟨ď,rv,pl,hz⟩:=I.list hS;have hi:=cE rv;obtain⟨ys,e⟩:=hi.allInts.items;have zw:ns=ys.toList.map (·.1):=by rw[<-hi.numsOf,<-rC,<-e]
 have hl:=pl.isList;rw[e]at hl;refine sum_intListG (show X.A.handled=none from I.ok.hd hc) hl λh' tk t' hk=>?_;refine⟨.int ns.sum,H,I.kept hk,⟨t',?_⟩,q⟩;rw[preSum_eq,vW (by simp),<-zw]
section
variable{prog:ë}{w:â}{A:ì}{E:Á->Ä->Prop}{s:Ä}{l:À}{xs:Array (Int×Tok)}
def yV{Q:Á->Ä->Prop}(hl:s.heap.IsTuple l (gE xs))
 (h:∀s₂:Ä,s₂={s with heap:=s.heap.push {cls:=.type "tuple_iterator",data:=.fields #[.ref l,.int 0 0]}}→
   (s₂.heap.IsTupleIter s.heap.objs.size l 0/\s₂.heap.IsTuple l (gE xs))->(∀b∈[s.heap.objs.size,l],b<s₂.heap.objs.size)->l≠s.heap.objs.size->(∀h':Ñ,(∀b o,b∉[s.heap.objs.size]->s₂.heap.get? b=some o->h'.get? b=some o)->∀b o,s.heap.get? b=some o->h'.get? b=some o)->Q (.ref s.heap.objs.size) s₂):
 Ï (Ü prog w) A (gw<|.ref l) Q E s:=by
 have mW:l<s.heap.objs.size:=by obtain⟨_,e,_⟩:=hl;exact ā e
 refine wD hl<|h _ rfl ⟨⟨_,Į _ rfl,rfl,rfl⟩,hl.push _⟩ (λb hb=>?_) (ŏ mW) λh' hk b o e=>?_
 ·show b<(s.heap.push _).objs.size;rw[Ϧ];rcases ö.mp hb with rfl|hb
  ·exact qW _
  ·rcases ö.mp hb with rfl|hb
   ·exact qX mW
   ·cases hb
 ·refine hk b o (λhm=>?_)<|ă _ e;rcases ö.mp hm with e1|hm
  ·exact absurd (e1▸ā e)<|dR _
  ·cases hm
def Ar{Q:Á->Ä->Prop}(hh:A.handled=none)(hl:s.heap.IsTuple l (gE xs))(iX:0<xs.size)
 (h:∀v h' tk,(gE xs)[argBest (λi j=>decide<|cT xs i>cT xs j)<|xs.size-1]?=some v->(∀b o,s.heap.get? b=some o->h'.get? b=some o)->Q v {s with heap:=h',toks:=tk}):
 Ï (Ü prog w) A (call (.builtin "max") [.ref l]) Q E s:=by
 refine call_max_walk<|yV hl λs₂ e st hfp hlI hk0=>?_;subst e;refine⟨_,_,_,_,_,_,_,rfl,Walks.tuple (A:=A.in1) hh _ l hlI<|gE xs,st,hfp,by simpa[gE]using iX,CmpOf.ints_gt (cT xs)<|λ_ _=>intItems_at,λv h' tk hP hk=>?_⟩;exact h v h' tk (by simpa[gE]using hP)<|hk0 h' hk
end
def MZ(K:Î):List V->Hp->VK->Prop:=λxs H Q=>∃(p:À) (ns:List Int),xs=[.ref p]/\(ϱ K H p (ns.map V.int)\/fL K H p (ns.map V.int))/\0<ns.length/\∀M,M∈ns->(∀a∈ns,a<=M)->Q (.int M) H
def E5(hc:X.calm=true):ő X (.builtin "max") (MZ X.K):=by
 intro Ç s c H xs us Q I r h;obtain⟨p,ns,rfl,hS,iX,q⟩:=h;obtain⟨u,rfl,ru⟩:=vals1 r;cases ru;have mV:∀(ys:Array (Int×Tok)),ns=ys.toList.map (·.1)->0<ys.size->∀v h' tk,(gE ys)[argBest (λi j=>decide<|cT ys i>cT ys j)<|ys.size-1]?=some v->(∀b o,s.heap.get? b=some o->h'.get? b=some o)->EP X Ç c Q v {s with heap:=h',toks:=tk}:=by
  intro ys zw ph v h' tk hv hk;obtain⟨t,rfl⟩:=intItems_at hv;obtain⟨h1,h2⟩:=argBest_gt (cT ys)<|ys.size-1;refine⟨.int _,H,I.kept hk,⟨t,rfl⟩,q _ ?_ λa ha=>?_⟩
  ·rw[zw,numAt_eq];have hj:argBest (λi j=>decide<|cT ys i>cT ys j) (ys.size-1)<(ys.toList.map (·.1)).length:=by rw[ħ,cI];lia
   rw[Ϡ,ũ hj];exact Ū _
  ·rw[zw]at ha;obtain⟨j,hj,rfl⟩:=qJ.mp ha;rw[ħ,cI]at hj;have:=h2 j (by lia);rw[numAt_eq ys j,Ϡ,ũ (by rw[ħ,cI];exact hj)]at this;exact this
 rcases hS with hS|hS
 ·obtain⟨ď,rv,pl,hz⟩:=I.list hS;have hi:=cE rv;obtain⟨ys,e⟩:=hi.allInts.items;have zw:ns=ys.toList.map (·.1):=by rw[<-hi.numsOf,<-rC,<-e]
  have hl:=pl.isList;rw[e]at hl;have ph:0<ys.size:=by rw[zw,ħ,cI]at iX;exact iX
  exact max_intList (show X.A.handled=none from I.ok.hd hc) hl ph<|mV ys zw ph
 ·obtain⟨ď,rv,pl,hz⟩:=I.tuple hS;have hi:=cE rv;obtain⟨ys,e⟩:=hi.allInts.items;have zw:ns=ys.toList.map (·.1):=by rw[<-hi.numsOf,<-rC,<-e]
  have hl:s.heap.IsTuple p ď.toArray:=pl;rw[e]at hl;have ph:0<ys.size:=by rw[zw,ħ,cI]at iX;exact iX
  exact Ar (show X.A.handled=none from I.ok.hd hc) hl ph<|mV ys zw ph
def M_(K:Î):List V->Hp->VK->Prop:=λxs H Q=>∃(p:À) (ns:List Int),xs=[.ref p]/\ϱ K H p (ns.map V.int)/\0<ns.length/\∀M,M∈ns->(∀a∈ns,M<=a)->Q (.int M) H
def E6(hc:X.calm=true):ő X (.builtin "min") (M_ X.K):=by
 intro Ç s b H xs us Q I r h;obtain⟨p,ns,rfl,hS,iX,q⟩:=h;obtain⟨u,rfl,ru⟩:=vals1 r;cases ru;obtain⟨ď,rv,pl,hz⟩:=I.list hS;have hi:=cE rv;obtain⟨ys,e⟩:=hi.allInts.items;have zw:ns=ys.toList.map (·.1):=by rw[<-hi.numsOf,<-rC,<-e]
 have hl:=pl.isList;rw[e]at hl;have ph:0<ys.size:=by rw[zw,ħ,cI]at iX;exact iX
 refine min_intList (show X.A.handled=none from I.ok.hd hc) hl ph λv h' tk hv hk=>?_;obtain⟨t,rfl⟩:=intItems_at hv;obtain⟨h1,h2⟩:=argBest_lt (cT ys)<|ys.size-1;refine⟨.int _,H,I.kept hk,⟨t,rfl⟩,q _ ?_ λa ha=>?_⟩
 ·rw[zw,numAt_eq];have hj:argBest (λi j=>decide<|cT ys i<cT ys j) (ys.size-1)<(ys.toList.map (·.1)).length:=by rw[ħ,cI];lia
  rw[Ϡ,ũ hj];exact Ū _
 ·rw[zw]at ha;obtain⟨j,hj,rfl⟩:=qJ.mp ha;rw[ħ,cI]at hj;have:=h2 j (by lia);rw[numAt_eq ys j,Ϡ,ũ (by rw[ħ,cI];exact hj)]at this;exact this
noncomputable def cC:List PV->Option (List Int)
 |[]=>some []|.int b::ps=>(cC ps).map (b::·)|_::_=>none
@[simp]theorem fV:∀ns:List Int,cC (ns.map PV.int)=some ns
  |[]=>rfl|n::ns=>by rw[á,cC,fV ns];rfl
theorem pb{F:Hp}:∀{ps:List PV}{vs:List V}{bs:List Int},é K F ps vs->cC ps=some bs->vs=bs.map V.int
 |[],vs,bs,r,h=>by cases h;cases r.pr;rfl|p::ps,vs,bs,r,h=>by
  cases r.pr with
  |cons r1 t=>
   cases p with
   |int b=>unfold cC at h;obtain⟨cs,e,rfl⟩:=fk.mp h;rw[pb (é.of t) e,show _=V.int b from r1];rfl|_=>cases h
def ym(f:Int->Int->Int):List Int->Option Int
 |[]=>none|n::ns=>some<|ns.foldl f n
theorem vF:∀(ns:List Int) (n:Int),ns.foldl max n∈n::ns/\∀a∈n::ns,a<=ns.foldl max n
 |[],n=>by simp|m::ns,n=>by
  obtain⟨h1,h2⟩:=vF ns<|max n m;rw[ϡ];refine⟨?_,λa ha=>?_⟩
  ·rcases ö.mp h1 with e|e
   ·rw[e];by_cases h:n<=m
    ·rw[Int.max_eq_right h];simp
    ·rw[Int.max_eq_left<|by lia];simp
   ·simp[e]
  ·have hm:=h2 (max n m) ϝ;rcases ö.mp ha with rfl|ha
   ·lia
   ·rcases ö.mp ha with rfl|ha
    ·lia
    ·exact h2 a<|ð _ ha
theorem vG:∀(ns:List Int) (n:Int),ns.foldl min n∈n::ns/\∀a∈n::ns,ns.foldl min n<=a
 |[],n=>by simp|m::ns,n=>by
  obtain⟨h1,h2⟩:=vG ns<|min n m;rw[ϡ];refine⟨?_,λa ha=>?_⟩
  ·rcases ö.mp h1 with e|e
   ·rw[e];by_cases h:n<=m
    ·rw[Int.min_eq_left h];simp
    ·rw[Int.min_eq_right<|by lia];simp
   ·simp[e]
  ·have hm:=h2 (min n m) ϝ;rcases ö.mp ha with rfl|ha
   ·lia
   ·rcases ö.mp ha with rfl|ha
    ·lia
    ·exact h2 a<|ð _ ha
def tE:List PV->Option PV
 |[.lst ps]=>(cC ps).map λns=>.int ns.sum
 |_=>none
def vi:List PV->Option PV
 |[.lst ps]=>((cC ps).bind (ym max)).map .int|[.tup ps]=>((cC ps).bind (ym max)).map .int|_=>none
def vj:List PV->Option PV
 |[.lst ps]=>((cC ps).bind (ym min)).map .int|_=>none
def xL:dG K (MY K.K) tE:=by
 intro c F H b U ps pv vs Q rel r e k;unfold tE at e;split at e
 ·rename_i ps;obtain⟨v,rfl,r1⟩:=ut r;obtain⟨a,xs,rfl,h1,h2⟩:=r1.lst rel.sub;obtain⟨ns,eb,rfl⟩:=fk.mp e;exact⟨a,ns,rfl,by rw[<-pb h2 eb];exact h1,k _ F H rel č č Ĉ.int⟩
 ·cases e
def E7:dG K (MZ K.K) vi:=by
 intro c F H b U ps pv vs Q rel r e k;have mV:∀(ps:List PV) (xs:List V),é K F ps xs->((cC ps).bind (ym max)).map PV.int=some pv->∃ns:List Int,xs=ns.map V.int/\0<ns.length/\∀M,M∈ns->(∀a∈ns,a<=M)->Q (.int M) H:=by
  intro ps xs h2 e;obtain⟨m,em,rfl⟩:=fk.mp e;obtain⟨ns,eb,hb⟩:=nD.mp em;cases ns with
  |nil=>cases hb|cons n ns=>cases hb;obtain⟨z1,z2⟩:=vF ns n;refine⟨n::ns,pb h2 eb,by simp,λM m1 m2=>?_⟩;have:M=ns.foldl max n:=Int.le_antisymm (z2 M m1)<|m2 _ z1;rw[this];exact k _ F H rel č č Ĉ.int
 unfold vi at e;split at e
 ·rename_i ps;obtain⟨v,rfl,r1⟩:=ut r;obtain⟨a,xs,rfl,h1,h2⟩:=r1.lst rel.sub;obtain⟨ns,rfl,hl,hq⟩:=mV ps xs h2 e;exact⟨a,ns,rfl,.inl h1,hl,hq⟩
 ·rename_i ps;obtain⟨v,rfl,r1⟩:=ut r;obtain⟨a,xs,rfl,h1,h2⟩:=r1.tup rel.sub;obtain⟨ns,rfl,hl,hq⟩:=mV ps xs h2 e;exact⟨a,ns,rfl,.inr h1,hl,hq⟩
 ·cases e
def E8:dG K (M_ K.K) vj:=by
 intro c F H b U ps pv vs Q rel r e k;unfold vj at e;split at e
 ·rename_i ps;obtain⟨v,rfl,r1⟩:=ut r;obtain⟨a,xs,rfl,h1,h2⟩:=r1.lst rel.sub;obtain⟨m,em,rfl⟩:=fk.mp e;obtain⟨ns,eb,hb⟩:=nD.mp em;cases ns with
  |nil=>cases hb|cons n ns=>cases hb;obtain⟨z1,z2⟩:=vG ns n;refine⟨a,n::ns,rfl,by rw[<-pb h2 eb];exact h1,by simp,λM m1 m2=>?_⟩;have:M=ns.foldl min n:=Int.le_antisymm (m2 _ z1)<|z2 M m1;rw[this];exact k _ F H rel č č Ĉ.int
 ·cases e
@[simp]theorem PK{i:Int}:yU [.int i]=some (.int i):=rfl
@[simp]theorem PL{b:Bool}:yU [.bl b]=some (.int<|if b then 1 else 0):=rfl
@[simp]theorem PM{i:Int}:G3 [.int i]=if i.natAbs.log2<1920then some (.str<|fG i)else none:=rfl
@[simp]theorem eB{ps:List PV}:tE [.lst ps]=(cC ps).map λns=>.int ns.sum:=rfl
@[simp]theorem G4{ps:List PV}:vi [.lst ps]=((cC ps).bind (ym max)).map .int:=rfl
@[simp]theorem G5{ps:List PV}:vj [.lst ps]=((cC ps).bind (ym min)).map .int:=rfl
@[simp]theorem PN{f:Int->Int->Int}{n:Int}{ns:List Int}:ym f (n::ns)=some (ns.foldl f n):=rfl
end
noncomputable def M0(K:Î)(C:À):Bool:=nW K C Str.empty&&rY K C&&wW K C&&Ż K (.ref C) "__setattr__"==some (some<|.builtin "object.__setattr__")
def Ki{K:Î}{C:À}(h:M0 K C=true):zu K C:=by unfold M0 at h;simp only[Ă,beq_iff_eq]at h;exact⟨h.1.1.1,h.1.1.2,h.1.2,h.2⟩
noncomputable def E9(K:Î)(C:À)(m:Str)(f:À):Bool:=Ż K (.ref C) m==some (some<|.ref f)&&nX K (.ref f)&&bC K (.ref f)
def G6{K:Î}{C f:À}{m:Str}(h:E9 K C m f=true):Dl K C m f:=by unfold E9 at h;simp only[Ă,beq_iff_eq]at h;exact⟨h.1.1,h.1.2,h.2⟩
noncomputable def S4(K:Î)(C f:À):Bool:=wY K C&&Ż K (.ref C) "__init__"==some (some<|.ref f)&&nX K (.ref f)&&bC K (.ref C)
def M1{K:Î}{C f:À}(h:S4 K C f=true):Mk K C f:=by unfold S4 at h;simp only[Ă,beq_iff_eq]at h;exact⟨h.1.1.1,h.1.1.2,h.1.2,h.2⟩
section
variable{U:ċ}{n k:Nat}{C:String}{cs:List String}{f m:Str}{mo:M PV}{ms:M (List Slot)}{mb:M Fl}{aj:List (String×MF)}{as:List Slot}{ns:List Str}{ps:List PV}
@[simp]theorem PP:dH n k C mb as=if as.length+1=n then IR.of (mb (.rc C [] []::ľ (k-1) as))else .bad:=rfl
@[simp]theorem S5{C:String}:IR.of (.ok .nx (.rc C ns ps::U))=.ok ns ps:=rfl
@[simp]theorem S6:Ŝ cs f (.ins C ns ps)=if cs.contains C=true then(ns.zip ps).lookup f else none:=rfl
@[simp]theorem G7:jU m aj mo ms U=(mo U).bind fun p U1=>match p with
  |.ins C ns ps=>match aj.lookup C with
    |some mf=>if ns.contains m=true then .bad else(ms U1).bind λas U2=>match mf (.sh (.ins C ns ps)::as)with
     |.ret r=>.ok r U2|.exc x=>.exc x U2|.bad=>.bad
    |none=>.bad
  |_=>.bad:=rfl
end
end P
namespace M3
open PySem PySem.Spec PyProof.Rows L2 M2
section
variable{X:Cx}{elt tg iter:È}{ifs:List È}{scope:ý}{pos:Pos}{wi:TI}{g:TG}{tt:TT}{te:TE}
def G8{iv:Nat}{y:Str}{py zx:Pos}(hN:X.N.Nodup)(Y2:X.N[iv]?=some y)(hy:X.env.scope.names.lookup y=some .local)(OI:ū (.ListComp elt [⟨tg,iter,ifs,0⟩] scope pos) (some<|.Name y py) zx.line X.env=ñ true)(N':List Str)(js:List Nat)(nl:Nat)(sc:ý)(AI:X.env.scope=sc)(hcalm:X.calm=true)
 (hi:PI X.ϧ tg iter wi)(hg:∀cl C s H fp,PG (im X.ϧ N' scope cl C s H fp) tg g)(ht:∀cl C s H fp,Du (im X.ϧ N' scope cl C s H fp) ifs tt)(he:∀cl C s H fp,PE (im X.ϧ N' scope cl C s H fp) elt te)
 (hcap:ki X.ϧ sc scope N' js)(hlen:js.length+nl=N'.length:=by rfl)
 (hk:scope.kind=.function:=by rfl)(hcell:∀y∈scope.names,y.2=.cell->scope.names.lookup y.1=some .cell:=by decide+kernel)(hnames:∀y∈scope.names,y.2=.local->scope.names.lookup y.1=some .local:=by decide+kernel)
 (hfree:∀y∈scope.names,y.2=.free->(sc.names.lookup y.1=some .cell\/sc.names.lookup y.1=some .free):=by decide+kernel)
 (hs:∀x,cR iter X.env x=ñ x:=by intro _;rfl):
 PS X.ϧ (.Assign [.Name y py] (.ListComp elt [⟨tg,iter,ifs,0⟩] scope pos) zx) (λD a H=>uV js nl wi g tt te a H λv H'=>D.nx (a.set iv<|some v) H'):=by
 intro Ç s a H DD I h;rw[exec_Assign_Name_used _ _ _ _<|show ū _ _ _ X.ϧ.env=ñ true from OI];refine Ò<|nJ<|Ò ?_;show Ï _ X.A (do let _<-comprehension (.ListComp elt [⟨tg,iter,ifs,0⟩] scope pos) scope X.ϧ.env _ (newList []) false (eval iter X.ϧ.env) (some<|cO (.Name y py) X.ϧ.env)) _ _ s;refine Ò<|bu (uW (QQ:=λ_ s'=>SP X.ϧ Ç DD .next s') (use:=some<|cO (.Name y py) X.ϧ.env) N' js nl sc AI hcalm hi hg ht he hcap hlen hk hcell hnames hfree hs I h λD C m s6 H5 hm kp Yn Yo Y3 hnC ph qn _=>?_) (λ_ s' hq=>Č<|Č hq) λ_ _ e=>e;have I7:Inv X.ϧ Ç a H5 s6:=kp s6.heap λb u _ e=>e;refine wpAny_assign_Name<|uJ (X:=X.ϧ) (i:=iv) I7 hN Y2 (.inl hy) (v:=.ref D) rfl (λs8 I8 zz=>?_)<|.inr hy;obtain⟨a8,Y4,S7⟩:=zz;have Y5:C≠a8:=by
  rcases S7 with rfl|S7
  ·exact Yn
  ·exact λz=>Yo _ _ S7 z.symm
 refine⟨m,hm.sameBut Y4 Y5,λh' Do=>⟨_,H5,?_,qn⟩⟩;have kp:∀b o,b≠C->s8.heap.get? b=some o->h'.get? b=some o:=λb o hb e=>Do.extBut b o hb e;have S8:∀b o,b∉[C]->s8.heap.get? b=some o->h'.get? b=some o:=λb o hb e=>kp b o (λz=>hb (by rw[z];exact ϝ)) e;refine I8.call' (ch:=[C]) (s':={s8 with heap:=h'}) rfl ⟨λb o e _ _ hx=>S8 b o hx e,λb o e _ _ hx=>⟨o.slots,S8 b o hx e⟩,λb o _ n _=>n,λb o e hx=>⟨o,S8 b o hx e⟩,λ_ _ q=>q,λ_ _ _ q=>q,λ_ ps q=>q⟩ (BA I8.hok hnC kp) I8.bare λb hb=>?_;cases kZ.mp hb;exact⟨.inr ph,Yn,Yo,Y3⟩
end
end M3
namespace P
open PySem PySem.Spec PyProof.Rows L2 M2 M3 M4
section
variable{X:Cx}{cm:String->À}{E:Ċ->XK}{elt tg iter:È}{ifs:List È}{scope:ý}{pos:Pos}{mi:M (List PV)}{g:Tg}{mt:M Bool}{me:M PV}
theorem PS.ϧ{st:ò}{t:TS}(h:PS X.ϧ st t):PS X st t:=λÇ s a H D I hw=>
 bu (h Ç s a H D (I.wish _) hw) (λ_ _ q=>q.jp) λ_ _ z=>aG z
def Kj{i:Nat}{y:Str}{py zx:Pos}(hN:X.N.Nodup)(Vj:X.N[i]?=some y)(hy:X.env.scope.names.lookup y=some .local)(N':List Str)(js:List Nat)(nl:Nat)(sc:ý)(AI:X.env.scope=sc)(hcalm:X.calm=true)
 (hi:PI X.ϧ tg iter (tI (kk X cm) E mi))(hg:∀cl C s H fp,PG (im X.ϧ N' scope cl C s H fp) tg<|tT (kk X cm) g)(ht:∀cl C s H fp,Du (im X.ϧ N' scope cl C s H fp) ifs<|tB (kk X cm) EF mt)(he:∀cl C s H fp,PE (im X.ϧ N' scope cl C s H fp) elt<|tV (kk X cm) EF me)
 (hcap:ki X.ϧ sc scope N' js)(hlen:js.length+nl=N'.length:=by rfl)
 (hk:scope.kind=.function:=by rfl)(hcell:∀y∈scope.names,y.2=.cell->scope.names.lookup y.1=some .cell:=by decide+kernel)(hnames:∀y∈scope.names,y.2=.local->scope.names.lookup y.1=some .local:=by decide+kernel)
 (hfree:∀y∈scope.names,y.2=.free->(sc.names.lookup y.1=some .cell\/sc.names.lookup y.1=some .free):=by decide+kernel)
 (hs:∀x,cR iter X.env x=ñ x:=by intro _;rfl)(OI:ū (.ListComp elt [⟨tg,iter,ifs,0⟩] scope pos) (some<|.Name y py) zx.line X.env=ñ true:=by rfl):
 PS X (.Assign [.Name y py] (.ListComp elt [⟨tg,iter,ifs,0⟩] scope pos) zx) (tS (kk X cm) E<|ć i<|ģ js nl mi g mt me):=
 PS.wk (PS.ϧ<|G8 hN Vj hy OI N' js nl sc AI hcalm (Ih hi) hg ht he hcap hlen hk hcell hnames hfree hs) fun D b H ⟨c,F,U,rel,h⟩=>yM ⟨c,F,U,rel,ϸ.bind h fun r U1 v F1 H1 è s1 q h1=>by
   cases r with
   |sh p=>exact h1 _ F1 H1 (è.put rfl ⟨v,rfl,q⟩) č|ow ps=>obtain⟨a,vs,rfl,q1,q2,q3,q4,q5⟩:=q;exact h1 _ F1 H1 (è.CT ⟨a,vs,rfl,q1,q2,q3,q5⟩ λ_ z=>V.ref.inj z▸q4) č
   |ot ps qs rs=>obtain⟨p,a,xs,vs,ys,rfl,q0,qx,q1,q2,q3,q4,q5,q6⟩:=q;exact h1 _ F1 H1 (è.CT (s:=.ot ps qs rs) ⟨p,a,xs,vs,ys,rfl,q0,qx,q1,q2,q3,q5,q6⟩ λ_ z=>om (ps:=ps) (qs:=qs) (rs:=rs) z ⟨p,xs,ys,rfl,q0,qx.length.symm⟩▸q4) č
   |bn t ps qs rows=>exact h1 _ F1 H1 (è.JY q) č⟩
end
def M6(K:KK)(r:V->List V->Hp->VK->Prop)(f:PV->List PV->Option PV):Prop:=∀{c:Ctx}{F H:Hp}{a:Ċ}{U:ċ}{p:PV}{ps:List PV}{pv:PV}{v:V}{vs:List V}{Q:VK},ĝ K c F H a U->rR K c a U F H p v->JV K c a U F H ps vs->f p ps=some pv->
 (∀z F' H',ĝ K c F' H' a U->Þ F F'->Þ H H'->Ĉ K F' pv z->Q z H')->r v vs H Q
@[simp]def Ha(f:PV→List PV→Option PV)(mo:M PV)(ms:M (List PV))(U:ċ):ĳ PV:=(mo U).bind fun p U1=>match p with
  |.str _=>(ms U1).bind λps U2=>ĳ.yJ (f p ps) U2
  |_=>.bad
section
variable{X:Cx}{cm:String->À}{K:KK}{E:Ċ->XK}{o e:È}{es:List È}{name:Str}{cB dq:Pos}{id:String}{r:V->List V->Hp->VK->Prop}{f:PV->List PV->Option PV}{mo:M PV}{ms:M (List PV)}
def C0(pa:rn "str")(slot:wE "str" name id)(ke:typeOf (.builtin id)=ñ (.type "method_descriptor"))(hf:M6 (kk X cm) r f)(hm:H_ X id r)(ho:PE X o (tR (kk X cm) E mo))(ha:PA X (e::es) (EC (kk X cm) E ms))
 (iV:cS o name X.env (eval o X.env)=eval o X.env:=by kernel_rfl)
 (pO:((Ć dq<|Ð (e::es) X.env).all (fun x=>!x.1)&&(bv dq<|bz [] X.env).all (fun x=>x.1.isSome)
   &&decide ((e::es).length+([]:List ϣ).length+(if([]:List ϣ).isEmpty then 0 else 1)<30))=true:=by rfl)
 (iW:(cB.endLine==dq.line)=true:=by rfl)(hs:Ð (e::es) X.env=(false,eval e X.env)::Ð es X.env:=by exact ŋ rfl)(jQ:(Ć dq<|Ð es X.env).any (·.1)=false:=by kernel_rfl):
 PE X (.Call (.Attribute o name cB) (e::es) [] dq) (tV (kk X cm) E<|Ha f mo ms):=
 PE.wk (fQ pa slot ke hm ho ha iV pO iW hs jQ) fun a H Q ⟨c,F,U,rel,h⟩=>⟨c,F,U,rel,Ϸ.bind h fun p U1 v F1 H1 è _ _ r1 h1=>by
   cases p with
   |str z=>
    cases r1.str;refine⟨rfl,c,F1,U1,è,Ϸ.bind h1 λps U2 vs F2 H2 ę sF sH r2 h2=>?_⟩;cases ef:f (.str z) ps with
    |none=>rw[ef]at h2;exact h2.elim|some pv=>rw[ef]at h2;exact hf ę (.inl<|Ĉ.str (K:=kk X cm) (F:=F2)) r2 ef λz F' H' ž s1 s2 q'=>h2 z F' H' ž s1 s2 q'
   |_=>exact h1.elim⟩
noncomputable def kS:List PV->Option (List<|List Nat)
 |[]=>some []|.str z::ps=>(kS ps).map (z.cps.toList::·)|_::_=>none
theorem yW{F:Hp}:∀{ps:List PV}{vs:List V}{bs:List (List Nat)},é K F ps vs->kS ps=some bs->vs=bs.map λl=>V.str<|S l
 |[],vs,bs,r,h=>by cases h;cases r.pr;rfl|p::ps,vs,bs,r,h=>by
  cases r.pr with
  |cons r1 t=>
   cases p with
   |str z=>unfold kS at h;obtain⟨cs,e,rfl⟩:=fk.mp h;rw[yW (é.of t) e,show _=V.str z from r1,á,JQ]|_=>cases h
def iC:PV->List PV->Option PV
 |.str z,[.lst ps]=>(kS ps).bind λys=>if(ys.map cJ).sum+ys.length*z.length<=16777216then some (.str<|S<|ţ z.cps.toList ys)else none
 |_,_=>none
def sv:M6 K (Ev K.K) iC:=by
 intro c F H b U p ps pv v vs Q rel r1 r2 e k;unfold iC at e;split at e
 ·rename_i z qs;cases r1.str;obtain⟨u,rfl,r3⟩:=ut r2;obtain⟨a,xs,rfl,h1,h2⟩:=r3.lst rel.sub;obtain⟨ys,eb,e⟩:=nD.mp e;split at e
  ·rename_i hz;cases e;exact⟨ys,by rw[<-yW h2 eb];exact h1,hz,k _ F H rel č č Ĉ.str⟩
  ·cases e
 ·cases e
noncomputable def oE:PV->List PV->Option PV
 |.str z,[.str y]=>some<|.bl<|decide<|z.cps.toList.take y.cps.toList.length=y.cps.toList|_,_=>none
def vk:M6 K xA oE:=by
 intro c F H a U p ps pv v vs Q rel r1 r2 e k;unfold oE at e;split at e
 ·cases r1.str;obtain⟨u,rfl,r3⟩:=ut r2;cases r3.str;cases e;exact k _ F H rel č č Ĉ.bl
 ·cases e
end
end P
namespace PySem
open AutoSeq1 (wpAny_loadPart')
namespace PQ
def M7(a:Á)(t:Tok):checkTypeCall "enumerate" ⟨[a],[(Æ "start",.int 1 t)]⟩=ñ ():=by kernel_rfl
def M8(a:Á)(t:Tok):checkBuiltinCall "enumerate.__new__" ⟨[.type "enumerate",a],[(Æ "start",.int 1 t)]⟩=ñ ():=by kernel_rfl
def Vk(l:À)(items:Array Á)(n:Nat)(t:Tok)(Vl:Option À)(sl:Array (Option Á)):
 Meets (lm.«enumerate.__new__» ⟨[.type "enumerate",.ref l],[(Æ "start",.int 1 t)]⟩) (λ_ R s=>s.heap.get? l=some {cls:=.type "list",dict:=Vl,data:=.seq items n,slots:=sl}/\
  R (.ok<|.ret<|.ref (s.heap.push {cls:=.type "list_iterator",data:=.fields #[.ref l,.int 0 0]}).objs.size)
    {s with heap:=(s.heap.push {cls:=.type "list_iterator",data:=.fields #[.ref l,.int 0 0]}).push {cls:=.type "enumerate",data:=.fields #[.none,.bool false,.ref s.heap.objs.size,cQ 1,.none,.none]}}):=
 .of_wp fun prog w A R s h=>by
   obtain⟨hp,g,d,tk,os⟩:=s;obtain⟨hl,h⟩:=h;have HK:=sub_enumerate;have hL:Heap.IsList (wQ ⟨hp,g,d,tk,os⟩) l items:=⟨_,hl,rfl,n,rfl⟩
   wp_walk using wpAny_loadPart' hl
   refine wpAny_stack_any λst=>Č ?_;split
   ·rename_i c _ _ _ _ _;cases(c==wS "enumerate")
    ·wp_walk using wpAny_loadPart' hl,ll hL
     exact⟨_,rfl,h⟩
    ·wp_walk using wpAny_loadPart' hl,ll hL
     exact⟨_,rfl,h⟩
   ·wp_walk using wpAny_loadPart' hl,ll hL
    exact⟨_,rfl,h⟩
section
variable{prog:ë}{w:â}{A:ì}{E:Á->Ä->Prop}{s:Ä}
def M9{self a:Á}{t:Tok}:Meets (lm.«object.__init__» ⟨[self,a],[(Æ "start",.int 1 t)]⟩) (λ_ R s=>s.TypeIs self "enumerate"/\R (.ok<|.ret .none) s):=by
 have hl:=wM.init.lookup;have hm:=wM.made;refine Meets.of_wp λprog w A R s hs=>?_;obtain⟨hT,hq⟩:=hs
 repeat (any_goals (first|assumption|wp_step))
 exact⟨_,rfl,hq⟩
def Nc(a b:Á)(t:Tok):argsOk "object.__init__" ⟨[a,b],[(Æ "start",.int 1 t)]⟩:=by unfold argsOk;kernel_rfl
def Nd{l:À}{items:Array Á}{t:Tok}{Q:Á->Ä->Prop}(hL:s.heap.IsList l items)
 (h:∀h',bA h' (s.heap.objs.size+1) s.heap.objs.size 1 .none->h'.IsListIter s.heap.objs.size l 0->h'.objs.size=s.heap.objs.size+2->(∀b o,s.heap.get? b=some o->h'.get? b=some o)->Q (.ref<|s.heap.objs.size+1) {s with heap:=h'}):
 Ï (Ü prog w) A (call (.type "enumerate") [.ref l] [(Æ "start",.int 1 t)]) Q E s:=by
 obtain⟨⟨c,Vl,dt,sl⟩,hl,hc,n,hd⟩:=hL
 replace hc:c=.type "list":=hc
 replace hd:dt=.seq items n:=hd
 subst hc hd;have ft:=wM;obtain⟨c,tl,Zaf⟩:=ft.mro;have Yp:=ft.made;have HK:=ft.sub;have hct:=M7 (.ref l) t;refine wpAny_call<|codeAny_of_tree ?_;show Ï _ _ (callAny (.type "enumerate") _) _ _ _;refine Č ⟨Code.quiet_builtin _ (by decide+kernel),codeAny_builtin F.entry_type_call ?_⟩;rw[Around.under_plain (weight_type_call_type "enumerate" [.ref l] [(Æ "start",.int 1 t)])<|units_type_call_type "enumerate" [.ref l] [(Æ "start",.int 1 t)]];have h1:=ft.notType;have h2:=ft.canCreate
 repeat (any_goals (first|assumption|wp_step))
 refine lj (codeAny_call_builtin ft.plain F.entry_enumerate_new<|wpAny_of_eq (M8 (.ref l) t)<|Vk l items n t Vl sl prog w A.in1 (wants (λobj s₁=>s₁.TypeIs obj "enumerate"/\Q obj s₁) E) s ⟨hl,?_⟩) λr s₁ hr=>?_
 ·have hz:(s.heap.push {cls:=.type "list_iterator",data:=.fields #[.ref l,.int 0 0]}).objs.size=s.heap.objs.size+1:=Ϧ ..;show _/\_;rw[hz];have he:bA ((s.heap.push {cls:=.type "list_iterator",data:=.fields #[.ref l,.int 0 0]}).push {cls:=.type "enumerate",data:=.fields #[.none,.bool false,.ref s.heap.objs.size,cQ 1,.none,.none]}) (s.heap.objs.size+1) s.heap.objs.size 1 .none:=by
   have:=Į (s.heap.push {cls:=.type "list_iterator",data:=.fields #[.ref l,.int 0 0]}) (o:={cls:=.type "enumerate",data:=.fields #[.none,.bool false,.ref s.heap.objs.size,cQ 1,.none,.none]}) rfl;rw[hz]at this;exact this
  exact⟨⟨_,he,rfl⟩,h _ he ⟨_,ă _<|Į _ rfl,rfl,rfl⟩ (by rw[Ϧ,hz]) λb o x=>ă _<|ă _ x⟩
 ·cases r with
  |error e=>exact hr|ok fl=>
   cases fl with
   |ret obj=>
    obtain⟨hT,hq⟩:=hr;have hli:=ft.init.lookup;have LM:=ft.init.bind obj
    repeat (any_goals (first|assumption|wp_step))
    refine lj (codeAny_call_builtin ft.init.plain F.entry_object_init<|ft.init.check _ _ _ _ _ _ _ _ hT (Nc _ _ t)<|M9 prog w A.in1 (wants (λr s₂=>r=.none/\Q obj s₂) E) s₁ ⟨hT,rfl,hq⟩) λr₂ s₂ Vm=>?_;cases r₂ with
    |error e=>exact Vm|ok fl₂=>
     cases fl₂ with
     |ret r=>
      obtain⟨rfl,hq⟩:=Vm
      repeat (any_goals (first|assumption|wp_step))
     |_=>exact Vm.elim
   |_=>exact hr.elim
def Dq{e it l:À}{i:Nat}{k:Int}{items:Array Á}{x qw:Á}{Q:Á->Ä->Prop}(he:bA s.heap e it k qw)(mX:s.heap.IsListIter it l i)(hl:s.heap.IsList l items)(hx:items[i]?=some x)(iX:e≠it)
 (hQ:∀h',IsEnumOut h' e it (k+1) x s.heap.objs.size->h'.IsListIter it l (i+1)->h'.get? s.heap.objs.size=some {cls:=.type "tuple",data:=.seq #[.int k s.toks,x]}->h'.objs.size=s.heap.objs.size+1->(∀b o,b≠e->b≠it->s.heap.get? b=some o->h'.get? b=some o)->Q (.ref s.heap.objs.size) {s with heap:=h',toks:=s.toks+1}):
 Ï (Ü prog w) A (lm.«enumerate.__next__» ⟨[.ref e],[]⟩) (λmV s'=>∃v,mV=.done (.ret v)/\Q v s') E s:=by
 obtain⟨hp,g,d,tk,os⟩:=s;show Ï _ _ (ce (.ref e) 2>>=_) _ _ _;refine Ò<|ź he rfl (x:=.ref it) rfl ?_;refine Ò (wpAny_nextOf_list_item mX hl hx λha OJ sa=>?_)
 replace sa:Ţ it hp ha:=sa
 have ea:bA ha e it k qw:=(sa.2 e iX).trans he;show Ï _ _ (ce (.ref e) 3>>=_) _ _ ⟨ha,g,d,tk,os⟩;refine Ò<|ź ea rfl (x:=cQ k) rfl ?_;show Ï _ _ (ce (.ref e) 4>>=_) _ _ ⟨ha,g,d,tk,os⟩;refine Ò<|ź ea rfl (x:=.none) rfl ?_;show Ï _ _ (mkInt k>>=_) _ _ ⟨ha,g,d,tk,os⟩;refine Ò<|wpAny_mkInt ?_;show Ï _ _ (setField (.ref e) 3 (cQ<|k+1)>>=_) _ _ ⟨ha,g,d,tk+1,os⟩;refine Ò (cU ea (by simp) λhb eb sb=>?_)
 replace sb:Ţ e ha hb:=sb
 replace eb:bA hb e it (k+1) qw:=eb
 show Ï _ _ (setField (.ref e) 4 .none>>=_) _ _ ⟨hb,g,d,tk+1,os⟩;refine Ò (cU eb (by simp) λhc ec sc=>?_)
 replace sc:Ţ e hb hc:=sc
 replace ec:bA hc e it (k+1) qw:=ec
 show Ï _ _ (newTuple [.int k tk,x]>>=_) _ _ ⟨hc,g,d,tk+1,os⟩;refine Ò<|wpAny_newTuple ?_;have ed:bA (hc.push {cls:=.type "tuple",data:=.seq #[.int k tk,x]}) e it (k+1) qw:=ă _ ec;generalize OK:hc.push {cls:=.type "tuple",data:=.seq #[.int k tk,x]}=hd at ed;have ph:hc.objs.size=hp.objs.size:=by rw[sc.1,sb.1,sa.1]
 have Vn:e<hp.objs.size:=ā he;have td:hd.get? hp.objs.size=some {cls:=.type "tuple",data:=.seq #[.int k tk,x]}:=by rw[<-OK,<-ph];exact Į _ rfl
 have zd:hd.objs.size=hp.objs.size+1:=by rw[<-OK,Ϧ,ph]
 have kd:∀b o,b≠e->b≠it->hp.get? b=some o->hd.get? b=some o:=λb o yr LM q=>by rw[<-OK];exact ă _<|sc.extBut b o yr<|sb.extBut b o yr<|sa.extBut b o LM q
 have Y6:hd.IsListIter it l (i+1):=by rw[<-OK];obtain⟨o,ho,r⟩:=(OJ.extBut sb.extBut<|Ē iX).extBut sc.extBut (Ē iX);exact⟨o,ă _ ho,r⟩
 show Ï _ _ (lv (.ref e)>>=_) _ _ ⟨hd,g,d,tk+1,os⟩;rw[ph];clear OK ec sc eb sb ea sa OJ ph hc hb ha;refine Ò ?_
 ·unfold lv;refine Ò<|ź ed rfl (x:=.none) rfl<|Č ?_;simp only[if_true];refine Ò<|rD ?_;refine Ò<|ź ed rfl (x:=qw) rfl ?_;refine Ò (cU ed (by simp) λh5 e5 s5=>?_)
  replace s5:Ţ e hd h5:=s5
  replace e5:bA h5 e it (k+1) x:=e5
  show Ï _ _ (rK (.ref e) (.ref hp.objs.size)>>=_) _ _ ⟨h5,g,d,tk+1,os⟩;refine Ò ?_
  ·unfold rK;refine Ò (cU e5 (by simp) λh6 e6 s6=>?_)
   replace s6:Ţ e h5 h6:=s6
   replace e6:IsEnumOut h6 e it (k+1) x hp.objs.size:=e6
   refine cU e6 (by simp) λh7 e7 s7=>?_
   replace s7:Ţ e h6 h7:=s7
   replace e7:IsEnumOut h7 e it (k+1) x hp.objs.size:=e7
   refine Ò<|rE<|Č ⟨_,rfl,hQ h7 e7 ?_ ?_ ?_ ?_⟩
   ·exact((Y6.extBut s5.extBut<|Ē iX).extBut s6.extBut (Ē iX)).extBut s7.extBut (Ē iX)
   ·exact s7.extBut _ _ (cL Vn)<|s6.extBut _ _ (cL Vn)<|s5.extBut _ _ (cL Vn) td
   ·rw[s7.1,s6.1,s5.1,zd]
   ·exact λb o yr LM q=>s7.extBut b o yr<|s6.extBut b o yr<|s5.extBut b o yr<|kd b o yr LM q
def Kk{e it l:À}{i:Nat}{k:Int}{items:Array Á}{x qw:Á}{Q:Option Á->Ä->Prop}(he:bA s.heap e it k qw)(mX:s.heap.IsListIter it l i)(hl:s.heap.IsList l items)(hx:items[i]?=some x)(iX:e≠it)
 (hQ:∀h',IsEnumOut h' e it (k+1) x s.heap.objs.size->h'.IsListIter it l (i+1)->h'.get? s.heap.objs.size=some {cls:=.type "tuple",data:=.seq #[.int k s.toks,x]}->h'.objs.size=s.heap.objs.size+1->(∀b o,b≠e->b≠it->s.heap.get? b=some o->h'.get? b=some o)->Q (some<|.ref s.heap.objs.size) {s with heap:=h',toks:=s.toks+1}):
 Ï (Ü prog w) A (cP<|.ref e) Q E s:=by
 have hT:s.TypeIs (.ref e) "enumerate":=⟨_,he,rfl⟩;unfold cP;exact Ò<|rG<|lq (name:=Æ "__next__") hT rM<|lr rM hT A8 (Dq he mX hl hx iX λh' a b c d k=>Č<|hQ h' a b c d k)<|A9 _
def As{e it l:À}{i:Nat}{k:Int}{items:Array Á}{qw:Á}{Q:Option Á->Ä->Prop}(hh:A.handled=none)(he:bA s.heap e it k qw)(mX:s.heap.IsListIter it l i)(hl:s.heap.IsList l items)(hx:items[i]?=none)
 (hQ:∀h',rW it s.heap h'->Q none {s with heap:=h'}):Ï (Ü prog w) A (cP<|.ref e) Q E s:=by
 have hT:s.TypeIs (.ref e) "enumerate":=⟨_,he,rfl⟩;unfold cP;refine Ò<|rG<|lq (name:=Æ "__next__") hT rM<|lr rM hT A8 ?_ (A9 _);show Ï _ _ (ce (.ref e) 2>>=_) _ _ _;refine Ò<|ź he rfl (x:=.ref it) rfl ?_;refine Ò<|wpAny_nextOf_list_end hh mX hl hx λh' x Vo Q1=>?_;obtain⟨o,ho,hc⟩:=Q1;refine Ò<|wpAny_isInstance (T:="StopIteration") (b:=true) ⟨o,ho,hc⟩ isSubtype_stop ?_;exact Č<|hQ _ Vo
end
end PQ
end PySem
namespace P
open PySem PySem.Spec PyProof.Rows L2 M2 M3 M4
section
variable{X:Cx}{Ç:List (À×Obj)}{σ:Ċ}{H:Hp}{s:Ä}{h':Ñ}
def turns{t':Nat}{fp:List À}(I:Inv X Ç σ H s)(k:∀b o,b∉fp->s.heap.get? b=some o->h'.get? b=some o)(hf:∀b∈fp,my X Ç H b):Inv X Ç σ H {s with heap:=h',toks:=t'}:=by
 have LW:∀b u,H b=some u->b∉fp:=λb u e z=>by rw[(hf b z).1]at e;cases e
 have hL:X.env.locals∉fp:=λz=>(hf _ z).2.1 rfl;refine I.step (g':=s.gens) (d':=s.drawn) (ch:=fp) (λb hb=>?_) (λb o _ _ hc e _=>k b o hc e) (λb o _ _ hc e _=>⟨o.slots,k b o hc e⟩) (λ_ _ _ _ n=>n)
  (λb o hc e=>⟨o,k b o hc e⟩) (λ_ _ e=>e) (λ_ _ _ e=>e) (λb ps e=>e) (λm hm=>?_) (λb u e=>?_) I.bare
 ·obtain⟨f0,f1,f2,f3,f4,f5⟩:=hf b hb;exact⟨f3,f1,f4,f5⟩
 ·obtain⟨o,es,ep,ho,r⟩:=hm;exact⟨o,es,ep,k _ o hL ho,r⟩
 ·refine(I.hok b u e).stay (λc v hc q=>k c v ?_ q) (λ_ q=>q) λ_ _ q=>q;rcases hc with z|z
  ·rw[z];exact LW b u e
  ·exact LW c _ z
def Kl{a b:À}{o:HO}(f:my X Ç H b)(h:b≠a):my X Ç (upd H a o) b:=⟨by rw[õ h];exact f.1,f.2⟩
def tF{t':Nat}{fp:List À}{u1 u2:Á}{x1 x2:V}(I:Inv X Ç σ H s)(r1:RelV x1 u1)(r2:RelV x2 u2)(ht:∃o,h'.get? s.heap.objs.size=some o/\o={cls:=.type "tuple",data:=.seq #[u1,u2]})
 (k:∀b o,b∉fp->s.heap.get? b=some o->h'.get? b=some o)(hf:∀b∈fp,my X Ç H b)(mW:∀b∈fp,b<s.heap.objs.size):
 Inv X Ç σ (upd H s.heap.objs.size<|.tup [x1,x2]) {s with heap:=h',toks:=t'}:=by
 have I1:Inv X Ç σ (upd H s.heap.objs.size<|.tup [x1,x2]) {s with heap:=s.heap.push {cls:=.type "tuple",data:=.seq #[u1,u2]},toks:=s.toks}:=
  I.laid (t':=s.toks) (λb u e=>ă _ e) (ø _) ⟨by show 2<=sizeLine;decide,[u1,u2],.cons r1<|.cons r2 .nil,⟨_,Į _ rfl,rfl,_,rfl⟩⟩
 refine turns (fp:=fp) (s:={s with heap:=s.heap.push {cls:=.type "tuple",data:=.seq #[u1,u2]},toks:=s.toks}) (h':=h') (t':=t') I1 (λb o hb e=>?_) λb hb=>Kl (hf b hb)<|ŏ<|mW b hb;rcases Heap.get?_push_cases e with⟨rfl,rfl⟩|e
 ·obtain⟨o,h1,h2⟩:=ht;rw[h1,h2]
 ·exact k b o hb e
end
def Hb(z:Nat)(K:Î)(a:À):It:=
 ⟨λi H=>∃xs x,ϱ K H a xs/\xs[i]?=some x,λi H y H'=>∃x T,(∀xs,ϱ K H a xs->xs[i]?=some x)/\H T=none/\y=.ref T/\H'=upd H T (.tup [.int ((i+z:Nat):Int),x]),λi H=>∃xs,ϱ K H a xs/\xs.length<=i⟩
abbrev Yq:=Hb 0
def vm(z:Nat){P:ë}{w:â}{K:Î}{elts:List È}{k:Nat}{pos:Pos}(a e it:À)(iX:e≠it):AG P w K (.Tuple elts k pos) (Hb z K a) [e,it] e (λi h=>(∃qw,bA h e it (((i+z:Nat):Int)) qw)/\h.IsListIter it a i) where
 mem:=by simp
 obj:=λi h st b hb=>by
  obtain⟨⟨qw,he⟩,mX⟩:=st;rcases ö.mp hb with rfl|hb
  ·exact⟨_,he,fun v z=>by have z':wK _=nR v:=z;cases z'⟩
  ·have e':b=it:=by simpa using hb
   subst e';obtain⟨o,e1,c,d⟩:=mX;exact⟨o,e1,λv z=>by rw[d]at z;cases z⟩
 keep:=λi h h' st k=>⟨let ⟨qw,he⟩:=st.1;⟨qw,k e (by simp) _ he⟩,st.2.at λo q=>k it (by simp) o q⟩
 item:=by
  intro X hP hw hK hc i Ç s f H E I hf st hg;subst hP hw hK;obtain⟨⟨qw,he⟩,mX⟩:=st;obtain⟨xs,x,hq,hx⟩:=hg;obtain⟨ď,rv,p,hz⟩:=I.list hq;obtain⟨u,hu,ru⟩:=rv.get hx;have elt:e<s.heap.objs.size:=ā he;have Y7:it<s.heap.objs.size:=by obtain⟨_,q,_⟩:=mX;exact ā q
  refine PQ.Kk he mX p.isList (x:=u) (by simpa using hu) iX λh' ho K9 hT ph hk=>?_;refine⟨.ref s.heap.objs.size,rfl,wpAny_letOwnedTupleGo_enum ho λLa Vo Do=>?_⟩;have uq:Ţ e h' La:=Do;have mW:∀b∈[e,it],b<s.heap.objs.size:=λb hb=>by
   rcases ö.mp hb with rfl|hb
   ·exact elt
   ·have e':b=it:=by simpa using hb
    subst e';exact Y7
  have I2:=tF (fp:=[e,it]) (h':=La) (t':=s.toks+1) (x1:=.int<|((i+z:Nat):Int)) I ⟨s.toks,rfl⟩ ru ⟨_,(uq.2 _<|cL elt).trans hT,rfl⟩ (λb o hb q=>by have yr:b≠e:=λz=>hb (by simp[z]);have LM:b≠it:=λz=>hb (by simp[z]);exact(uq.2 b yr).trans (hk b o yr LM q)) hf mW;refine⟨.ref s.heap.objs.size,_,I2,rfl,⟨x,s.heap.objs.size,λys hy=>by rw[I.sI hy hq];exact hx,I.fresh,rfl,rfl⟩,⟨⟨u,?_⟩,K9.at λo q=>(uq.2 it iX.symm).trans q⟩,λb hb=>?_⟩
  ·have he2:bA La e it ((((i+z:Nat):Int))+1) u:=Vo;show bA La e it (((i+1+z:Nat):Int)) u;rw[show(((i+1+z:Nat):Int))=((i+z:Nat):Int)+1 by lia];exact he2
  ·rw[õ<|ŏ<|mW b hb];exact(hf b hb).1
 done:=by intro X hP hw hK hc i Ç s f H E I hf st hg;subst hP hw hK;obtain⟨⟨qw,he⟩,mX⟩:=st;obtain⟨xs,hq,hx⟩:=hg;obtain⟨ď,rv,p,hz⟩:=I.list hq;have hl:=rv.length;refine PQ.As (I.ok.hd hc) he mX p.isList (by simp;lia) λh' eb=>⟨rfl,turns (fp:=[e,it]) (t':=s.toks) I (λb o hb q=>eb b o (λz=>hb<|by simp[z]) q) hf⟩
 self:=λ_ _ _ _ _ st h=>let ⟨_,he⟩:=st.1;wF he h
section
variable{X:Cx}{elts:List È}{k:Nat}{tp:Pos}
def Nf(K:Î)(ta:TA):TI:=λb H R=>ta b H λvs H1=>∃a,vs=[.ref a]/\(∃xs,ϱ K H1 a xs)/\R (Yq K a) H1
def Hd{l:È}{ta:TA}{p pos:Pos}(hg:Gl X "enumerate")(hm:X.mg "enumerate"=none)(ha:PA X [l] ta)(hs:Ð [l] X.env=[(false,eval l X.env)]:=by exact ŋ rfl):PI X (.Tuple elts k tp) (.Call (.Name "enumerate" p) [l] [] pos) (Nf X.K ta):=by
 intro Ç s c H R I h;refine Call_<|mq I hg hm boot_enumerate<|rh (ϙ (ha pos Ç s c H _ I h) λus s1 zz=>?_) hs rfl;obtain⟨vs,H1,I1,r1,q1⟩:=zz;obtain⟨a,e,⟨xs,hq⟩,q⟩:=q1;subst e;obtain⟨u,rfl,ru⟩:=r1.one;cases ru;obtain⟨ď,rv,pl,hz⟩:=I1.list hq;refine call_enumerate_list pl.isList λh' he mX ph hk=>?_;have I2:Inv X Ç c H1 {s1 with heap:=h'}:=I1.kept (t':=s1.toks) hk;refine wF (s:={s1 with heap:=h'}) he ⟨s1.heap.objs.size+1,[s1.heap.objs.size+1,s1.heap.objs.size],_,_,H1,rfl,I2,vm 0 a _ _<|Nat.succ_ne_self _,⟨⟨_,he⟩,mX⟩,λb hb=>?_,q⟩;have DG:s1.heap.objs.size<=b:=by
  rcases ö.mp hb with rfl|hb
  ·exact wj _
  ·have e':b=s1.heap.objs.size:=by simpa using hb
   exact qV e'.symm
 exact I1.zM DG<|I1.hok.fresh DG
end
def Ng(K:KK):RR (List PV) V:=λc _ _ F H items v=>∃a,v=.ref a/\(∃xs,ϱ K.K H a xs)/\ij K c.L F (HV K.K a) items
def Y8(K:KK):RR (List PV) V:=λc _ _ F H items v=>∃a,v=.ref a/\(∃xs,fL K.K H a xs)/\ij K c.L F (L5 K.K a) items
def PR(K:KK):RR (List PV) V:=λc a U F H items v=>Ng K c a U F H items v\/Y8 K c a U F H items v
def kE{K:KK}{L F:Hp}{ps:List PV}{v:V}(h:Ĉ K F (.lst ps) v):∃a,v=.ref a/\(∃xs,ϱ K.K F a xs)/\ij K L F (HV K.K a) ps:=by unfold Ĉ at h;obtain⟨a,vs,rfl,e1,e2⟩:=h;refine⟨a,rfl,⟨vs,e1⟩,?_⟩;intro c' i F2 H2 b U2 ę sF _;have hq:ϱ K.K H2 a vs:=(sF.trans ę.sub).seq e1;refine⟨λp hp=>?_,λhi=>⟨vs,hq,by rw[hi,e2.length];exact ø _⟩⟩;obtain⟨u,hu,ru⟩:=dJ e2.pr hp;refine⟨⟨vs,u,hq,hu⟩,λx H' zz=>?_⟩;obtain⟨hH,hx⟩:=zz;subst hH;have:vs[i]?=some x:=hx vs hq;rw[hu]at this;cases this;exact⟨F2,ę,Þ.refl _,Þ.refl _,Ĉ.same sF p u ru⟩
def Fa{K:KK}{L F:Hp}{ps:List PV}{v:V}(h:Ĉ K F (.tup ps) v):∃a,v=.ref a/\(∃xs,fL K.K F a xs)/\ij K L F (L5 K.K a) ps:=by unfold Ĉ at h;obtain⟨a,vs,rfl,e1,e2⟩:=h;refine⟨a,rfl,⟨vs,e1⟩,?_⟩;intro c' i F2 H2 b U2 ę sF _;have hq:fL K.K H2 a vs:=Þ.tup (sF.trans ę.sub) e1;refine⟨λp hp=>?_,λhi=>⟨vs,hq,by rw[hi,e2.length];exact ø _⟩⟩;obtain⟨u,hu,ru⟩:=dJ e2.pr hp;refine⟨⟨vs,u,hq,hu⟩,λx H' zz=>?_⟩;obtain⟨hH,hx⟩:=zz;subst hH;have:vs[i]?=some x:=hx vs hq;rw[hu]at this;cases this;exact⟨F2,ę,Þ.refl _,Þ.refl _,Ĉ.same sF p u ru⟩
def vn{K:KK}{c:Ctx}{F:Hp}{a:À}{vs:List V}{ps:List PV}(h2:c.L a=some (.lst vs))(h3:é K F ps vs):ij K c.L F (HV K.K a) ps:=by intro c' j F2 H2 b U2 ę sF sL;have hq:ϱ K.K H2 a vs:=ϱ.of<|sL a _ h2;refine⟨λp hp=>?_,λhi=>⟨vs,hq,by rw[hi,h3.length];exact ø _⟩⟩;obtain⟨u,hu,ru⟩:=dJ h3.pr hp;refine⟨⟨vs,u,hq,hu⟩,λx H' zz=>?_⟩;obtain⟨hH,hx⟩:=zz;subst hH;have:vs[j]?=some x:=hx vs hq;rw[hu]at this;cases this;exact⟨F2,ę,Þ.refl _,Þ.refl _,Ĉ.same sF p u ru⟩
def ij.mono{K:KK}{L F F1:Hp}{J:It}{ps:List PV}(h:ij K L F J ps)(s:Þ F F1):ij K L F1 J ps:=λc i F2 H a U rel sF sL=>h c i F2 H a U rel (s.trans sF) sL
@[simp]def PU(m:M PV)(U:ċ):ĳ (List PV):=(m U).bind fun p U1=>match p with
  |.lst ps=>.ok ps U1|_=>.bad
noncomputable def He(i:Nat):M (List PV):=λU=>match U[i]?with
 |some (.bw ps)=>.ok ps U|some (.sh<|.lst ps)=>.ok ps U|some (.ow ps)=>.ok ps<|U.set i<|.sh<|.lst ps|_=>.bad
noncomputable def Fb(i:Nat):M (List PV):=λU=>match U[i]?with
 |some (.bw ps)=>.ok ps U|some (.sh<|.lst ps)=>.ok ps U|some (.sh<|.tup ps)=>.ok ps U|some (.ow ps)=>.ok ps<|U.set i<|.sh<|.lst ps|_=>.bad
section
variable{X:Cx}{cm:String->À}{E:Ċ->XK}{e:È}{m:M PV}
def S9(h:PE X e (tV (kk X cm) E m)):PE X e (tG (kk X cm) E (Ng<|kk X cm)<|PU m):=PE.wk h λb H Q ⟨c,F,U,rel,h⟩=>⟨c,F,U,rel,h.bind λp U1 v F1 H1 è s1 s2 q h1=>by
 cases p with
 |lst ps=>obtain⟨a,e1,⟨xs,e2⟩,e3⟩:=kE (L:=c.L) (show Ĉ (kk X cm) F1 (.lst ps) v from q);exact h1 v F1 H1 è č č ⟨a,e1,⟨xs,è.sub.seq e2⟩,e3⟩|_=>exact h1.elim⟩
def Ip(i:Nat){x:Str}{px:Pos}(hk:Cw X i x=true:=by kernel_rfl):PE X (.Name x px) (tG (kk X cm) E (PR<|kk X cm)<|Fb i):=PE.wk (lM hk)<|by
 rintro b H Q ⟨c,F,U,rel,h⟩;unfold Fb at h;cases e:U[i]?with
 |none=>rw[e]at h;exact h.elim|some sl=>
  rw[e]at h;cases sl with
  |no=>exact h.elim|rc C ns ps=>exact h.elim|ot ps qs rs=>exact h.elim|ol pS=>exact h.elim|fr pS=>exact h.elim|pw ps=>exact h.elim|pin=>exact h.elim|bn qs rows=>exact h.elim|dw gL=>exact h.elim|ow ps=>obtain⟨a,vs,z1,z2,z3,z4⟩:=rel.share e;obtain⟨a',e1,⟨xs,e2⟩,e3⟩:=kE (L:=c.L) z3;cases e1;exact⟨.ref a,z1,h _ _ H z4 (Þ.upd z2) č<|.inl ⟨a,rfl,⟨xs,z4.sub.seq e2⟩,e3⟩⟩|bw ps=>obtain⟨a,vs,h1,h2,h3⟩:=rel.slot i _ e;exact⟨.ref a,ň h1,h _ F H rel č č<|.inl ⟨a,rfl,⟨vs,ϱ.of (rel.lent a _ h2).1⟩,vn h2 h3⟩⟩|sh p=>
   obtain⟨v,h1,h2⟩:=rel.slot i _ e;cases p with
   |lst ps=>obtain⟨a,e1,⟨xs,e2⟩,e3⟩:=kE (L:=c.L) h2;exact⟨v,ň h1,h v F H rel č č<|.inl ⟨a,e1,⟨xs,rel.sub.seq e2⟩,e3⟩⟩|tup ps=>obtain⟨a,e1,⟨xs,e2⟩,e3⟩:=Fa (L:=c.L) h2;exact⟨v,ň h1,h v F H rel č č<|.inr ⟨a,e1,⟨xs,Þ.tup rel.sub e2⟩,e3⟩⟩|_=>exact h.elim
def Nh(i:Nat){x:Str}{px:Pos}(hk:Cw X i x=true:=by kernel_rfl):PE X (.Name x px) (tG (kk X cm) E (Ng<|kk X cm)<|He i):=PE.wk (lM hk)<|by
 rintro b H Q ⟨c,F,U,rel,h⟩;unfold He at h;cases e:U[i]?with
 |none=>rw[e]at h;exact h.elim|some sl=>
  rw[e]at h;cases sl with
  |no=>exact h.elim|rc C ns ps=>exact h.elim|ot ps qs rs=>exact h.elim|ol pS=>exact h.elim|fr pS=>exact h.elim|pw ps=>exact h.elim|pin=>exact h.elim|bn qs rows=>exact h.elim|dw gL=>exact h.elim|ow ps=>obtain⟨a,vs,z1,z2,z3,z4⟩:=rel.share e;obtain⟨a',e1,⟨xs,e2⟩,e3⟩:=kE (L:=c.L) z3;cases e1;exact⟨.ref a,z1,h _ _ H z4 (Þ.upd z2) č ⟨a,rfl,⟨xs,z4.sub.seq e2⟩,e3⟩⟩|bw ps=>obtain⟨a,vs,h1,h2,h3⟩:=rel.slot i _ e;exact⟨.ref a,ň h1,h _ F H rel č č ⟨a,rfl,⟨vs,ϱ.of (rel.lent a _ h2).1⟩,vn h2 h3⟩⟩|sh p=>
   obtain⟨v,h1,h2⟩:=rel.slot i _ e;cases p with
   |lst ps=>obtain⟨a,e1,⟨xs,e2⟩,e3⟩:=kE (L:=c.L) h2;exact⟨v,ň h1,h v F H rel č č ⟨a,e1,⟨xs,rel.sub.seq e2⟩,e3⟩⟩|_=>exact h.elim
noncomputable def bQ:Nat->List PV->List PV
 |_,[]=>[]|k,p::ps=>.tup [.int k,p]::bQ (k+1) ps
theorem vo:∀(k:Nat) (ps:List PV),(bQ k ps).length=ps.length
 |_,[]=>rfl|k,_::ps=>congrArg (·+1)<|vo (k+1) ps
theorem vp:∀(k:Nat) (ps:List PV) (i:Nat),(bQ k ps)[i]?=ps[i]?.map λp=>.tup [.int ((k+i:Nat):Int),p]
 |_,[],_=>rfl|k,p::ps,0=>rfl|k,p::ps,i+1=>by show(bQ (k+1) ps)[i]?=_;rw[vp (k+1) ps i,qM,show k+1+i=k+(i+1) by lia]
@[simp]def Iq(m:M (List PV))(U:ċ):ĳ (List PV):=(m U).bind λps U1=>.ok (bQ 0 ps) U1
def B2{K:KK}{c:Ctx}{F H:Hp}{a:Ċ}{U:ċ}{T:À}{p q:PV}{x y:V}(rel:ĝ K c F H a U)(hT:H T=none)(r1:Ĉ K F p x)(r2:Ĉ K F q y):ĝ K c (upd F T<|.tup [x,y]) (upd H T<|.tup [x,y]) a U/\Ĉ K (upd F T<|.tup [x,y]) (.tup [p,q]) (.ref T):=by have hF:=rel.sub.free hT;refine⟨rel.alloc hT,?_⟩;unfold Ĉ;exact⟨T,[x,y],rfl,fL.of ą,é.cons (Ĉ.same (Þ.upd hF) p x r1)<|é.cons (Ĉ.same (Þ.upd hF) q y r2) é.nil⟩
def tH(z:Nat){K:KK}{L F:Hp}{a:À}{ps:List PV}(h:ij K L F (HV K.K a) ps):ij K L F (Hb z K.K a) (bQ z ps):=by
 intro c i F2 H b U rel sF sL;obtain⟨g,st⟩:=h c i F2 H b U rel sF sL;refine⟨λp hp=>?_,λhi=>st<|by rw[hi,vo]⟩;rw[vp,nB z i]at hp;cases eq:ps[i]?with
 |none=>rw[eq]at hp;cases hp|some q=>rw[eq]at hp;cases hp;obtain⟨⟨xs,x,hq,hx⟩,g2⟩:=g q eq;refine⟨⟨xs,x,hq,hx⟩,λy H' zz=>?_⟩;obtain⟨x',T,h1,hT,ey,eH⟩:=zz;subst ey eH;obtain⟨F3,iz,s3,_,rp⟩:=g2 x' H ⟨rfl,h1⟩;obtain⟨r1,r2⟩:=B2 (p:=.int ((i+z:Nat):Int)) (x:=.int ((i+z:Nat):Int)) iz hT (by unfold Ĉ;rfl) rp;exact⟨_,r1,s3.trans<|Þ.upd<|iz.sub.free hT,Þ.upd hT,r2⟩
def C1{K:KK}{L F:Hp}{a:À}{ps:List PV}(h:ij K L F (HV K.K a) ps):ij K L F (Yq K.K a) (bQ 0 ps):=tH 0 h
def Km{elts:List È}{k:Nat}{tp p pos:Pos}{mi:M (List PV)}(hg:Gl X "enumerate")(hm:X.mg "enumerate"=none)(hl:PE X e (tG (kk X cm) E (Ng<|kk X cm) mi))(hs:Ð [e] X.env=[(false,eval e X.env)]:=by exact ŋ rfl):
 PI X (.Tuple elts k tp) (.Call (.Name "enumerate" p) [e] [] pos) (tI (kk X cm) E<|Iq mi):=λÇ s b H R I h=>Hd hg hm (Ϩ hl cu hs) hs Ç s b H R I (by
 obtain⟨c,F,U,rel,h⟩:=h;refine⟨c,F,U,rel,h.bind λps U1 v F1 H1 è s1 s2 q h1=>?_⟩;obtain⟨a,e1,e2,e3⟩:=q;subst e1;exact⟨a,rfl,e2,h1 _ F1 H1 è č č<|C1 e3⟩)
@[simp]def C2(i:Nat)(mo:M RV)(U:ċ):ĳ Fl:=match U[i]?with
  |some (.ow _)=>(mo U).bind λr U1=>match U1[i]?,r with
   |some (.ow ps),.ow qs=>if ps.length+qs.length<=16777216then .ok .nx (U1.set i<|.ow<|ps++qs)else .bad|_,_=>.bad
  |_=>.bad
def B3{i:Nat}{mo:M RV}{D:Ends}{d:Ċ}{H:Hp}(h:tS (kk X cm) E (C2 i mo) D d H):sJ (Lj X.K "list" Bx (jm i) (D6 (tO (kk X cm) E mo) D5)) D d H:=by
 obtain⟨c,F,U,rel,h⟩:=h;unfold C2 at h;cases e1:U[i]?with
 |none=>rw[e1]at h;exact h.elim|some sl=>
  rw[e1]at h;cases sl with
  |ow R0=>
   obtain⟨a,R1,z1,z2,z3,z4,z5,z6⟩:=rel.ow e1;refine⟨.ref a,z1,.inl ⟨rfl,_,ϱ.of z2⟩,c,F,U,rel,?_⟩;refine ϸ.bind h λr U1 v F1 H1 è s1 q h1=>?_;cases e2:U1[i]?with
   |none=>simp only[e2]at h1;exact h1.elim|some Dp=>
    simp only[e2]at h1;cases Dp with
    |ow ps=>
     cases r with
     |ow qs=>
      obtain⟨b,us,eb,hb1,hb2,hb3,hb4,Wi⟩:=q;subst eb;obtain⟨a2,vs,w1,w2,w3,w4,w5,w6⟩:=è.ow e2;rw[z1]at w1;cases w1;dsimp only at h1;split at h1
      ·rename_i hz;refine⟨a,b,vs,us,rfl,rfl,w2,hb1,by rw[<-w5.length,<-Wi.length,Ĝ];exact hz,h1 d F1 _ (è.write w6 z1 ⟨a,vs++us,rfl,ą,w3,w4,é.append w5 Wi⟩ λ_ z=>(V.ref.inj z).symm) č⟩
      ·exact h1.elim
     |_=>exact h1.elim
    |_=>exact h1.elim
  |_=>exact h.elim
@[simp]theorem Ta{i:Nat}{U:ċ}:He i U=(match U[i]?with
  |some (.bw ps)=>.ok ps U|some (.sh<|.lst ps)=>.ok ps U|some (.ow ps)=>.ok ps<|U.set i<|.sh<|.lst ps|_=>.bad):=rfl
@[simp]theorem Tb{i:Nat}{U:ċ}:Fb i U=(match U[i]?with
  |some (.bw ps)=>.ok ps U|some (.sh<|.lst ps)=>.ok ps U|some (.sh<|.tup ps)=>.ok ps U|some (.ow ps)=>.ok ps<|U.set i<|.sh<|.lst ps|_=>.bad):=rfl
end
def Ni{X:Cx}:VN X .BitOr (YJ λi j=>nQ i j):=by intro Ç s a H x y v u Q I r1 r2 h;obtain⟨i,j,e1,e2,q⟩:=h;subst e1;subst e2;obtain⟨t,rfl⟩:=r1;obtain⟨t',rfl⟩:=r2;exact ior_int ⟨.int _,H,I.tok _,⟨_,rfl⟩,q⟩
@[simp]def B4(i:Nat)(m:M PV)(U:ċ):ĳ Fl:=match U[i]?with
  |some (.sh<|.int _)=>(m U).bind λq U1=>match U1[i]?,q with
   |some (.sh<|.int k),.int j=>.ok .nx<|U1.set i<|.sh<|.int<|nQ k j|_,_=>.bad
  |_=>.bad
section
variable{X:Cx}{cm:String->À}{E:Ċ->XK}{e:È}{m:M PV}{pos:Pos}
def xM{K:KK}{F:Hp}{i:Int}{v:V}(h:Ĉ K F (.int i) v):v=.int i:=by unfold Ĉ at h;exact h
def Fc{i:Nat}{x:Str}{cA:Pos}(hN:X.N.Nodup)(hi:X.N[i]?=some x)(hx:Loc X.env.scope x)(he:PE X e (tV (kk X cm) E m))(hf:X.fn x=true\/X.env.scope.names.lookup x=some .local:=by first|exact .inl rfl|exact .inr rfl|assumption):
 PS X (.AugAssign (.Name x cA) .BitOr e pos) (tS (kk X cm) E<|B4 i m):=PS.wk (Jj hN hi hx he Ni hf)<|by
 rintro D a H ⟨c,F,U,rel,h⟩;unfold B4 at h;cases e1:U[i]?with
 |none=>rw[e1]at h;exact h.elim|some sl=>
  rw[e1]at h;cases sl with
  |sh p=>
   cases p with
   |int k0=>
    obtain⟨v,h1,h2⟩:=rel.slot i _ e1;cases xM h2;refine⟨.int k0,ň h1,c,F,U,rel,ϸ.bind h λq U1 u F1 H1 è s1 rq qy=>?_⟩;cases e2:U1[i]?with
    |none=>simp only[e2]at qy;exact qy.elim|some Dp=>
     simp only[e2]at qy;cases Dp with
     |sh p2=>
      cases p2 with
      |int k=>
       cases q with
       |int j=>obtain⟨v2,w1,w2⟩:=è.slot i _ e2;cases xM w2;rw[h1]at w1;cases w1;cases xM rq;exact⟨k0,j,rfl,rfl,qy _ F1 H1 (è.put rfl ⟨_,rfl,Ĉ.int⟩) č⟩|_=>exact qy.elim
      |_=>exact qy.elim
     |_=>exact qy.elim
   |_=>exact h.elim
  |_=>exact h.elim
end
section
variable{prog:ë}{w:â}{A:ì}{E:Á->Ä->Prop}{s:Ä}
def oG{it l:À}{i:Nat}{items}{x:Á}{Q:Á->Ä->Prop}(mX:s.heap.IsTupleIter it l i)
 (hl:s.heap.IsTuple l items)(hx:items[i]?=some x)
 (hQ:∀h',h'.IsTupleIter it l (i+1)->Ţ it s.heap h'->Q x {s with heap:=h'}):
 Ï (Ü prog w) A (gH<|.ref it) Q E s:=by
 obtain⟨o,ho,hc,hd⟩:=id mX;obtain⟨ol,Vp,_,nl,Vq⟩:=hl;unfold gH;refine Ò (lq (name:=Æ "__next__") mX.typeIs rN
  (lr rN mX.typeIs Ba ?_ (Bb _)))
 show Ï _ _ (ce (.ref it) 0>>=_) _ _ s;refine Ò<|ź ho hd (x:=.ref l) rfl ?_;show Ï _ _ (if(ń l==Value.none)=true then _ else _) _ _ s;rw[if_neg<|show ¬((ń l==Value.none)=true)from bZ];show Ï _ _ (ce (.ref it) 1>>=_) _ _ s;refine Ò<|ź ho hd (x:=.int i 0) rfl ?_;show Ï _ _ (seqItems? (.ref l)>>=_) _ _ s;refine Ò<|gF Vp Vq ?_;simp only[vM,hx];refine Ò (wpAny_setField ho hd (by simp)<|Č ⟨x,rfl,Č<|hQ _ ?_ (Bi ..)⟩);exact⟨_,Bg _ ho<|Obj.isFreed_of_fields<|Obj.data_mapFields hd _,(Obj.cls_mapFields ..).trans hc,by
  rw[Obj.data_mapFields hd];simp[cQ]⟩
def pC{it l:À}{i:Nat}{items}{Q:Á->Ä->Prop}(hh:A.handled=none)
 (mX:s.heap.IsTupleIter it l i)(hl:s.heap.IsTuple l items)(hx:items[i]?=none)
 (hE:∀h' e,rW it s.heap h'->(∃o,h'.get? e=some o/\o.cls=.type "StopIteration")->E (.ref e) {s with heap:=h'}):
 Ï (Ü prog w) A (gH<|.ref it) Q E s:=by
 obtain⟨o,ho,hc,hd⟩:=id mX;obtain⟨ol,Vp,_,nl,Vq⟩:=hl;unfold gH;refine Ò (lq (name:=Æ "__next__") mX.typeIs rN
  (lr rN mX.typeIs Ba ?_ (Bb _)))
 show Ï _ _ (ce (.ref it) 0>>=_) _ _ s;refine Ò<|ź ho hd (x:=.ref l) rfl ?_;show Ï _ _ (if(ń l==Value.none)=true then _ else _) _ _ s;rw[if_neg<|show ¬((ń l==Value.none)=true)from bZ];show Ï _ _ (ce (.ref it) 1>>=_) _ _ s;refine Ò<|ź ho hd (x:=.int i 0) rfl ?_;show Ï _ _ (seqItems? (.ref l)>>=_) _ _ s;refine Ò<|gF Vp Vq ?_;simp only[vM,hx];refine Ò (rD<|Ò<|wpAny_setField ho hd (by simp) ?_);show Ï _ _ (newExc (.type "StopIteration") []>>=_) _ _ _;refine Ò ?_;simp only[newExc,newTuple];refine Ò (wA ?_ (by size_fits));refine Ò (m:=firstArgMember _ _) (wpAny_of_eq (a:=Value.none) (by first|rfl|(simp only[firstArgMember];rfl)) ?_);refine wA ?_ (by size_fits);simp only[raiseNew];refine Ò (wpAny_handled ?_)
 first|rw[show A.in1.handled=none from hh]|rw[hh]
 refine Ò<|Č<|wpAny_throw ?_;exact hE _ _ (((Bi ..).extBut.push _).push _) ⟨_,Į _ rfl,rfl⟩
end
def yX{prog:ë}{w:â}{A:ì}(hh:A.handled=none)(it l:À)(iX:l≠it)(items:Array Á):
 dX prog w A it [it,l] items.size (λi v=>items[i]?=some v) (λi h=>h.IsTupleIter it l i/\h.IsTuple l items) where
 live:=λ_ _ st=>let ⟨o,ho,_⟩:=st.1;⟨o,ho⟩
 frame:=λ_ _ _ st hk=>⟨let ⟨o,ho,r⟩:=st.1;⟨o,hk it (by simp) o ho,r⟩,let ⟨o,ho,r⟩:=st.2;⟨o,hk l (by simp) o ho,r⟩⟩
 item:=λi s Q E hi st hQ=>by refine oG st.1 st.2 (x:=items[i]) (by simp[hi]) λh' K9 Do=>?_;exact hQ _ h' s.toks (by simp[hi]) ⟨K9,st.2.extBut Do.extBut iX⟩ Do
 done:=λs Q E st hE=>pC hh st.1 st.2 (by simp) hE
structure Lu(z TI TO i1 i2:À)(f1 f2:List À):Prop where
 TIz:TI≠z
 TOz:TO≠z
 i1z:i1≠z
 i2z:i2≠z
 TITO:TI≠TO
 TIi1:TI≠i1
 TIi2:TI≠i2
 TOi1:TO≠i1
 TOi2:TO≠i2
 i12:i1≠i2
 z1:z∉f1
 z2:z∉f2
 t1:TO∉f1
 t2:TO∉f2
 a1:i1∉f2
 a2:i2∉f1
section
variable{prog:ë}{w:â}{A:ì}{E:Á->Ä->Prop}{s:Ä}
def tJ{z TI TO i1 i2:À}{f1 f2:List À}{n1 n2 k1 k2:Nat}{P1 P2:Nat->Á->Prop}{S1 S2:Nat->Ñ->Prop}{a b:Á}{Q:Á->Ä->Prop}(D:Lu z TI TO i1 i2 f1 f2)
 (D1:dX prog w A i1 f1 n1 P1 S1)(D2:dX prog w A i2 f2 n2 P2 S2)
 (hz:ϥ s.heap z TI TO .none)(yn:Ő s.heap TI (.ref i1) (.ref i2))(yx:Ő s.heap TO a b)(h1:S1 k1 s.heap)(h2:S2 k2 s.heap)(OL:k1<n1)(Vr:k2<n2)
 (hQ:∀x y h' tk,P1 k1 x→P2 k2 y→ϥ h' z TI TO (cQ s.heap.objs.size)→Ő h' TO x y→S1 (k1+1) h'→S2 (k2+1) h'→Ő h' s.heap.objs.size x y→h'.objs.size=s.heap.objs.size+1→
   (∀c o,c≠z->c≠TO->c≠i1->c≠i2->s.heap.get? c=some o->h'.get? c=some o)->Q (.ref s.heap.objs.size) {s with heap:=h',toks:=tk}):
 Ï (Ü prog w) A (lm.«zip.__next__» ⟨[.ref z],[]⟩) (λmV s'=>∃v,mV=.done (.ret v)/\Q v s') E s:=by
 have Ir:∀{b},b∈f1->b≠z/\b≠TO/\b≠i2:=λhb=>⟨λe=>D.z1<|e▸hb,λe=>D.t1<|e▸hb,λe=>D.a2<|e▸hb⟩;have Hf:∀{b},b∈f2->b≠z/\b≠TO/\b≠i1:=λhb=>⟨λe=>D.z2<|e▸hb,λe=>D.t2<|e▸hb,λe=>D.a1<|e▸hb⟩;obtain⟨hp,g,d,Yr,os⟩:=s;show Ï _ _ (ce (.ref z) 2>>=_) _ _ _;refine Ò<|ź hz rfl (x:=.bool false) rfl ?_;show Ï _ _ (ce (.ref z) 3>>=_) _ _ _;refine Ò<|ź hz rfl (x:=.ref TI) rfl ?_;refine Ò<|gF yn rfl ?_;show Ï _ _ (lv (.ref z)>>=_) _ _ _;refine Ò ?_;unfold lv;refine Ò<|ź hz rfl (x:=.none) rfl<|Č ?_;simp only[if_true];refine Ò<|rD ?_;refine Ò<|ź hz rfl (x:=.ref TO) rfl ?_;refine Ò (cU hz (by simp) λh₁ IL zK=>?_)
 replace zK:Ţ z hp h₁:=zK
 replace IL:ϥ h₁ z TI TO .ellipsis:=IL
 refine Ò ?_;simp only[List.zipIdx_cons,List.zipIdx_nil,nn,vU];refine Ò<|Ò<|rH ?_;show Ï _ _ (gH (.ref i1)>>=_) _ _ _;refine Ò (D1.item k1 _ _ _ OL (D1.frame _ _ _ h1 λb hb o e=>zK.extBut b o (Ir hb).1 e) λx h₂ tk Q2 Ys yo=>Č ?_)
 replace yo:Ţ i1 h₁ h₂:=yo
 have FK:Ő h₂ TO a b:=yo.extBut _ _ D.TOi1<|zK.extBut _ _ D.TOz yx;refine Ò<|gF FK rfl ?_;refine Ò (wG FK λh₃ HL zL=>?_)
 replace zL:Ţ TO h₂ h₃:=zL
 replace HL:Ő h₃ TO x b:=HL
 refine Ò<|rE<|Č ?_;refine Ò<|Ò<|rH ?_;show Ï _ _ (gH (.ref i2)>>=_) _ _ _;refine Ò (D2.item k2 _ _ _ Vr (D2.frame _ _ _ h2 λb hb o e=>zL.extBut b o (Hf hb).2.1 (yo.extBut b o (Hf hb).2.2 (zK.extBut b o (Hf hb).1 e))) λy h₄ tk' Vs Zag DH=>Č ?_)
 replace DH:Ţ i2 h₃ h₄:=DH
 have OM:Ő h₄ TO x b:=DH.extBut _ _ D.TOi2 HL;refine Ò<|gF OM rfl ?_;refine Ò (wG OM λh₅ HM F0=>?_)
 replace F0:Ţ TO h₄ h₅:=F0
 replace HM:Ő h₅ TO x y:=HM
 refine Ò<|rE<|Č<|Č ?_;refine Ò<|gF HM rfl ?_;refine Ò<|wpAny_newTuple ?_;have ph:h₅.objs.size=hp.objs.size:=by rw[F0.1,DH.1,zL.1,yo.1,zK.1]
 have Yt:ϥ h₅ z TI TO .ellipsis:=F0.extBut _ _ D.TOz.symm<|DH.extBut _ _ D.i2z.symm<|zL.extBut _ _ D.TOz.symm<|yo.extBut _ _ D.i1z.symm IL;have Zah:∀c o,c≠z->c≠TO->c≠i1->c≠i2->hp.get? c=some o->h₅.get? c=some o:=λc o c1 c2 c3 c4 e=>
  F0.extBut _ _ c2 (DH.extBut _ _ c4<|zL.extBut _ _ c2<|yo.extBut _ _ c3<|zK.extBut _ _ c1 e)
 have Zai:S1 (k1+1) h₅:=D1.frame _ _ _ Ys λb hb o e=>F0.extBut b o (Ir hb).2.1 (DH.extBut b o (Ir hb).2.2 (zL.extBut b o (Ir hb).2.1 e));have Zaj:S2 (k2+1) h₅:=D2.frame _ _ _ Zag λb hb o e=>F0.extBut b o (Hf hb).2.1 e;have ON:z<h₅.objs.size:=ā Yt;show Ï _ _ (rK (.ref z) (.ref h₅.objs.size)>>=_) _ _ _;refine Ò ?_;unfold rK;have Zak:ϥ (h₅.push {cls:=.type "tuple",data:=.seq #[x,y]}) z TI TO .ellipsis:=ă _ Yt;refine Ò (cU Zak (by simp) λh₇ Vt Vu=>?_)
 replace Vt:ϥ h₇ z TI TO (cQ h₅.objs.size):=Vt
 refine cU Vt (by simp) λh₈ Q3 Vv=>?_
 replace Q3:ϥ h₈ z TI TO (cQ h₅.objs.size):=Q3
 have up:∀c o,c≠z->h₅.get? c=some o->h₈.get? c=some o:=λc o c1 e=>Vv.extBut _ _ c1<|Vu.extBut _ _ c1<|ă _ e;have Yu:Ő h₈ h₅.objs.size x y:=Vv.extBut _ _ (cL ON)<|Vu.extBut _ _ (cL ON)<|Į _ rfl;have Yw:h₈.objs.size=h₅.objs.size+1:=by rw[Vv.1,Vu.1,Ϧ]
 rw[ph]at Q3 Yu Yw;refine Č ⟨_,rfl,?_⟩;show Q (.ref h₅.objs.size) _;rw[ph];exact hQ x y h₈ tk' Q2 Vs Q3 (up _ _ D.TOz HM) (D1.frame _ _ _ Zai λb hb o e=>up b o (Ir hb).1 e) (D2.frame _ _ _ Zaj λb hb o e=>up b o (Hf hb).1 e) Yu Yw λc o c1 c2 c3 c4 e=>up c o c1<|Zah c o c1 c2 c3 c4 e
def uD{z TI TO i1 i2:À}{f1 f2:List À}{n1 n2 k1 k2:Nat}{P1 P2:Nat->Á->Prop}{S1 S2:Nat->Ñ->Prop}{a b:Á}{Q:Fin->Ä->Prop}(D:Lu z TI TO i1 i2 f1 f2)
 (D1:dX prog w A i1 f1 n1 P1 S1)(D2:dX prog w A i2 f2 n2 P2 S2)
 (hz:ϥ s.heap z TI TO .none)(yn:Ő s.heap TI (.ref i1) (.ref i2))(yx:Ő s.heap TO a b)(h1:S1 k1 s.heap)(h2:S2 k2 s.heap)(HN:k1=n1\/(k1<n1/\k2=n2))
 (hE:∀h' e tk,(∀c o,c≠z->c≠TO->c≠i1->c≠i2->s.heap.get? c=some o->h'.get? c=some o)->(∃o,h'.get? e=some o/\o.cls=.type "StopIteration")->E (.ref e) {s with heap:=h',toks:=tk}):
 Ï (Ü prog w) A (lm.«zip.__next__» ⟨[.ref z],[]⟩) Q E s:=by
 have Ir:∀{b},b∈f1->b≠z/\b≠TO/\b≠i2:=λhb=>⟨λe=>D.z1<|e▸hb,λe=>D.t1<|e▸hb,λe=>D.a2<|e▸hb⟩;have Hf:∀{b},b∈f2->b≠z/\b≠TO/\b≠i1:=λhb=>⟨λe=>D.z2<|e▸hb,λe=>D.t2<|e▸hb,λe=>D.a1<|e▸hb⟩;obtain⟨hp,g,d,Yr,os⟩:=s;show Ï _ _ (ce (.ref z) 2>>=_) _ _ _;refine Ò<|ź hz rfl (x:=.bool false) rfl ?_;show Ï _ _ (ce (.ref z) 3>>=_) _ _ _;refine Ò<|ź hz rfl (x:=.ref TI) rfl ?_;refine Ò<|gF yn rfl ?_;show Ï _ _ (lv (.ref z)>>=_) _ _ _;refine Ò ?_;unfold lv;refine Ò<|ź hz rfl (x:=.none) rfl<|Č ?_;simp only[if_true];refine Ò<|rD ?_;refine Ò<|ź hz rfl (x:=.ref TO) rfl ?_;refine Ò (cU hz (by simp) λh₁ IL zK=>?_)
 replace zK:Ţ z hp h₁:=zK
 replace IL:ϥ h₁ z TI TO .ellipsis:=IL
 refine Ò ?_;simp only[List.zipIdx_cons,List.zipIdx_nil,nn,vU];refine Ò<|Ò<|rH ?_;show Ï _ _ (gH (.ref i1)>>=_) _ _ _;rcases HN with rfl|⟨OL,rfl⟩
 ·refine Ò<|D1.done _ _ _ (D1.frame _ _ _ h1 λb hb o e=>zK.extBut b o (Ir hb).1 e) λh₂ e yo he=>?_;obtain⟨oe,Lb,OP⟩:=he
  replace yo:rW i1 h₁ h₂:=yo
  have Yx:ϥ h₂ z TI TO .ellipsis:=yo _ _ D.i1z.symm IL;have Vw:e≠z:=λx=>by subst x;rw[Yx]at Lb;cases Lb;simp at OP
  exact cU Yx (by simp) λh₃ _ zL=>hE h₃ e Yr (λc o c1 _ c3 _ x=>zL.extBut _ _ c1<|yo _ _ c3<|zK.extBut _ _ c1 x) ⟨oe,zL.extBut _ _ Vw Lb,OP⟩
 ·refine Ò (D1.item k1 _ _ _ OL (D1.frame _ _ _ h1 λb hb o e=>zK.extBut b o (Ir hb).1 e) λx h₂ tk Q2 Ys yo=>Č ?_)
  replace yo:Ţ i1 h₁ h₂:=yo
  have FK:Ő h₂ TO a b:=yo.extBut _ _ D.TOi1<|zK.extBut _ _ D.TOz yx;refine Ò<|gF FK rfl ?_;refine Ò (wG FK λh₃ HL zL=>?_)
  replace zL:Ţ TO h₂ h₃:=zL
  refine Ò<|rE<|Č ?_;refine Ò<|Ò<|rH ?_;show Ï _ _ (gH (.ref i2)>>=_) _ _ _;refine Ò<|D2.done _ _ _ (D2.frame _ _ _ h2 λb hb o e=>zL.extBut b o (Hf hb).2.1 (yo.extBut b o (Hf hb).2.2 (zK.extBut b o (Hf hb).1 e))) λh₄ e DH he=>?_;obtain⟨oe,Lb,OP⟩:=he
  replace DH:rW i2 h₃ h₄:=DH
  have Yy:ϥ h₄ z TI TO .ellipsis:=DH _ _ D.i2z.symm<|zL.extBut _ _ D.TOz.symm<|yo.extBut _ _ D.i1z.symm IL;have Vw:e≠z:=λx=>by subst x;rw[Yy]at Lb;cases Lb;simp at OP
  exact cU Yy (by simp) λh₅ _ F0=>hE h₅ e tk (λc o c1 c2 c3 c4 x=>F0.extBut _ _ c1<|DH _ _ c4<|zL.extBut _ _ c2<|yo.extBut _ _ c3<|zK.extBut _ _ c1 x) ⟨oe,F0.extBut _ _ Vw Lb,OP⟩
end
section
variable{prog:ë}{w:â}{A:ì}{E:Á->Ä->Prop}{s:Ä}
def pE{z TI TO i1 i2:À}{f1 f2:List À}{n1 n2 k1 k2:Nat}{P1 P2:Nat->Á->Prop}{S1 S2:Nat->Ñ->Prop}{a b:Á}{Q:Option Á->Ä->Prop}(D:Lu z TI TO i1 i2 f1 f2)
 (D1:dX prog w A.in1 i1 f1 n1 P1 S1)(D2:dX prog w A.in1 i2 f2 n2 P2 S2)
 (hz:ϥ s.heap z TI TO .none)(yn:Ő s.heap TI (.ref i1) (.ref i2))(yx:Ő s.heap TO a b)(h1:S1 k1 s.heap)(h2:S2 k2 s.heap)(OL:k1<n1)(Vr:k2<n2)
 (hQ:∀x y h' tk,P1 k1 x→P2 k2 y→ϥ h' z TI TO (cQ s.heap.objs.size)→Ő h' TO x y→S1 (k1+1) h'→S2 (k2+1) h'→Ő h' s.heap.objs.size x y→h'.objs.size=s.heap.objs.size+1→
   (∀c o,c≠z->c≠TO->c≠i1->c≠i2->s.heap.get? c=some o->h'.get? c=some o)->Q (some<|.ref s.heap.objs.size) {s with heap:=h',toks:=tk}):
 Ï (Ü prog w) A (cP<|.ref z) Q E s:=by
 have hT:s.TypeIs (.ref z) "zip":=⟨_,hz,rfl⟩;unfold cP;exact Ò<|rG (lq (name:=Æ "__next__") hT rP
  (lr rP hT F.entry_zip_next
    (tJ D D1 D2 hz yn yx h1 h2 OL Vr λx y h' tk a0 b0 a1 a2 a3 a4 a5 a6 a7=>Č<|hQ x y h' tk a0 b0 a1 a2 a3 a4 a5 a6 a7) (F.args_zip_next_1 _)))
def qm{z TI TO i1 i2:À}{f1 f2:List À}{n1 n2 k1 k2:Nat}{P1 P2:Nat->Á->Prop}{S1 S2:Nat->Ñ->Prop}{a b:Á}{Q:Option Á->Ä->Prop}(D:Lu z TI TO i1 i2 f1 f2)
 (D1:dX prog w A.in1 i1 f1 n1 P1 S1)(D2:dX prog w A.in1 i2 f2 n2 P2 S2)
 (hz:ϥ s.heap z TI TO .none)(yn:Ő s.heap TI (.ref i1) (.ref i2))(yx:Ő s.heap TO a b)(h1:S1 k1 s.heap)(h2:S2 k2 s.heap)(HN:k1=n1\/(k1<n1/\k2=n2))
 (hQ:∀h' tk,(∀c o,c≠z->c≠TO->c≠i1->c≠i2->s.heap.get? c=some o->h'.get? c=some o)->Q none {s with heap:=h',toks:=tk}):Ï (Ü prog w) A (cP<|.ref z) Q E s:=by
 have hT:s.TypeIs (.ref z) "zip":=⟨_,hz,rfl⟩;unfold cP;refine Ò<|rG (lq (name:=Æ "__next__") hT rP
  (lr rP hT F.entry_zip_next (uD D D1 D2 hz yn yx h1 h2 HN λh' e tk hk he=>?_)<|F.args_zip_next_1 _))
 obtain⟨o,ho,hc⟩:=he;refine Ò<|wpAny_isInstance (T:="StopIteration") (b:=true) ⟨o,ho,hc⟩ isSubtype_stop ?_;exact Č<|hQ _ _ hk
end
def uu(K:Î)(b:Bool)(H:Hp)(a:À)(xs:List V):Prop:=if b=true then fL K H a xs else ϱ K H a xs
def jW(b:Bool)(h:Ñ)(it l:À)(i:Nat):Prop:=if b=true then h.IsTupleIter it l i else h.IsListIter it l i
def C3(b:Bool)(h:Ñ)(l:À)(ď:Array Á):Prop:=if b=true then h.IsTuple l ď else h.IsList l ď
noncomputable def Lv(b:Bool):String:=if b=true then "tuple_iterator"else "list_iterator"
def sx{prog:ë}{w:â}{A:ì}(b:Bool)(hh:A.handled=none)(it l:À)(iX:l≠it)(items:Array Á):
 dX prog w A it [it,l] items.size (λi v=>items[i]?=some v) (λi h=>jW b h it l i/\C3 b h l items):=by
 cases b with
 |true=>exact yX hh it l iX items|false=>exact Draws.list hh it l iX items
def jW.ex{b:Bool}{h:Ñ}{it l:À}{i:Nat}(x:jW b h it l i):∃o,h.get? it=some o/\o.cls=.type (Lv b)/\o.data=.fields #[.ref l,.int i 0]:=by
 cases b with
 |true=>exact x|false=>exact x
def jW.of{b:Bool}{h:Ñ}{it l:À}{i:Nat}{o:Obj}(h1:h.get? it=some o)(h2:o.cls=.type (Lv b))(h3:o.data=.fields #[.ref l,.int i 0]):jW b h it l i:=by
 cases b with
 |true=>exact⟨o,h1,h2,h3⟩|false=>exact⟨o,h1,h2,h3⟩
def jW.keep{b:Bool}{h h':Ñ}{it l:À}{i:Nat}(x:jW b h it l i)(k:∀o,h.get? it=some o->h'.get? it=some o):jW b h' it l i:=by obtain⟨o,h1,h2,h3⟩:=x.ex;exact .of (k o h1) h2 h3
def Hg(K:Î)(b:Bool)(H:Hp)(l:À)(i:Nat)(xs:List V):Prop:=xs.length<=i/\∀j,j<i->∃ys y,uu K b H l ys/\ys[j]?=some y
def Tc(K:Î)(b1 b2:Bool)(l1 l2:À):It:=
 ⟨λi H=>(∃xs x,uu K b1 H l1 xs/\xs[i]?=some x)/\∃ys y,uu K b2 H l2 ys/\ys[i]?=some y,
  λi H z H'=>∃x y T,(∀xs,uu K b1 H l1 xs->xs[i]?=some x)/\(∀ys,uu K b2 H l2 ys->ys[i]?=some y)/\H T=none/\z=.ref T/\H'=upd H T (.tup [x,y]),
  λi H=>(∃xs,uu K b1 H l1 xs)/\(∃ys,uu K b2 H l2 ys)/\((∃xs,uu K b1 H l1 xs/\Hg K b1 H l1 i xs)\/((∃xs x,uu K b1 H l1 xs/\xs[i]?=some x)/\∃ys,uu K b2 H l2 ys/\Hg K b2 H l2 i ys))⟩
section
variable{X:Cx}{Ç:List (À×Obj)}{σ:Ċ}{H:Hp}{s:Ä}
def vq{b:Bool}{a:À}{xs:List V}(I:Inv X Ç σ H s)(h:uu X.K b H a xs):∃ď:List Á,ł xs ď/\C3 b s.heap a ď.toArray/\xs.length<=sizeLine:=by
 cases b with
 |true=>obtain⟨ď,r,p,z⟩:=I.tuple h;exact⟨ď,r,p,z⟩|false=>obtain⟨ď,r,p,z⟩:=I.list h;exact⟨ď,r,p.isList,z⟩
def vt{b:Bool}{a:À}{xs ys:List V}(I:Inv X Ç σ H s)(h:uu X.K b H a xs)(h':uu X.K b H a ys):xs=ys:=by
 cases b with
 |true=>exact I.uK h h'|false=>exact I.sI h h'
def Iu{b:Bool}{l:À}{i:Nat}{xs:List V}(I:Inv X Ç σ H s)(h:uu X.K b H l xs)(q:Hg X.K b H l i xs):xs.length=i:=by
 obtain⟨h1,h2⟩:=q;refine Nat.le_antisymm h1 ?_;cases i with
 |zero=>lia|succ i=>obtain⟨ys,y,e1,e2⟩:=h2 i (by lia);rw[vt I e1 h]at e2;have:=(fh.mp e2).1;lia
def B5{bb:Bool}{a b:À}{xs:List V}(I:Inv X Ç σ H s)(f:my X Ç H b)(h:uu X.K bb H a xs):a≠b:=by
 intro e;subst e;have hk:∀o,X.K.lookup a=some o->False:=λo e=>by
  have hb:=I.ok.mod.HU a o e;rcases f.2.2.2.1 with z|z
  ·exact I.ok.yz a o hb z
  ·exact absurd (Š (ā (I.ok.bs a o hb).1) z)<|dR _
 have hr:∀u,Rd H a u->False:=λu r=>by rcases r with r|⟨o,r⟩<;>(rw[f.1]at r;cases r)
 cases bb with
 |true=>
  have h':fL X.K H a xs:=h;rcases h' with q|⟨o,_,_,q,_⟩
  ·exact hr _ q
  ·exact hk o q
 |false=>
  have h':ϱ X.K H a xs:=h;rcases h' with q|⟨o,_,_,q,_⟩
  ·exact hr _ q
  ·exact hk o q
end
def Fd{P:ë}{w:â}{K:Î}{elts:List È}{k:Nat}{pos:Pos}(b1 b2:Bool)(l1 l2 z TI TO i1 i2:À)(nd:[z,TI,TO,i1,i2].Nodup):
 AG P w K (.Tuple elts k pos) (Tc K b1 b2 l1 l2) [z,TI,TO,i1,i2] z (λi h=>ϥ h z TI TO .none/\Ő h TI (.ref i1) (.ref i2)/\(∃a b,Ő h TO a b)/\jW b1 h i1 l1 i/\jW b2 h i2 l2 i) where
 mem:=by simp
 obj:=λi h st b hb=>by
  obtain⟨hz,yn,⟨x,y,yx⟩,h1,h2⟩:=st;simp only[ö,br,or_false]at hb;rcases hb with rfl|rfl|rfl|rfl|rfl
  ·exact⟨_,hz,λv z=>by have z':wK _=nR v:=z;cases z'⟩
  ·exact⟨_,yn,λv z=>by have z':Data.seq _ _=nR v:=z;cases z'⟩
  ·exact⟨_,yx,λv z=>by have z':Data.seq _ _=nR v:=z;cases z'⟩
  ·obtain⟨o,e1,c,d⟩:=h1.ex;exact⟨o,e1,λv z=>by rw[d]at z;cases z⟩
  ·obtain⟨o,e1,c,d⟩:=h2.ex;exact⟨o,e1,λv z=>by rw[d]at z;cases z⟩
 keep:=λi h h' st k=>by obtain⟨hz,yn,⟨x,y,yx⟩,h1,h2⟩:=st;exact⟨k z (by simp) _ hz,k TI (by simp) _ yn,⟨x,y,k TO (by simp) _ yx⟩,h1.keep λo q=>k i1 (by simp) o q,h2.keep λo q=>k i2 (by simp) o q⟩
 item:=by
  intro X hP hw hK hc i Ç s f H E I hf st hg;subst hP hw hK;obtain⟨hz,yn,⟨a,b,yx⟩,h1,h2⟩:=st;obtain⟨⟨xs,x,F7,hx⟩,ys,y,Cr,hy⟩:=hg;obtain⟨Au,PZ,p1,_⟩:=vq I F7;obtain⟨gn,P_,p2,_⟩:=vq I Cr;obtain⟨u1,F8,Td⟩:=PZ.get hx;obtain⟨u2,IM,Te⟩:=P_.get hy;have FI:∀b∈[z,TI,TO,i1,i2],l1≠b:=λb hb=>B5 I (hf b hb) F7;have FJ:∀b∈[z,TI,TO,i1,i2],l2≠b:=λb hb=>B5 I (hf b hb) Cr;have hh:X.A.in1.handled=none:=I.ok.hd hc;simp only[b_,ö,br,or_false,not_or,List.nodup_nil,not_false_eq_true,and_true]at nd;obtain⟨⟨n1,n2,n3,n4⟩,⟨n5,n6,n7⟩,⟨n8,n9⟩,Lc⟩:=nd;have D:Lu z TI TO i1 i2 [i1,l1] [i2,l2]:=by
   refine⟨Ē n1,Ē n2,Ē n3,Ē n4,n5,n6,n7,n8,n9,Lc,?_,?_,?_,?_,?_,?_⟩<;>simp only[ö,br,or_false,not_or]
   ·exact⟨n3,(FI z<|by simp).symm⟩
   ·exact⟨n4,(FJ z<|by simp).symm⟩
   ·exact⟨n8,(FI TO<|by simp).symm⟩
   ·exact⟨n9,(FJ TO<|by simp).symm⟩
   ·exact⟨Lc,(FJ i1<|by simp).symm⟩
   ·exact⟨Ē Lc,(FI i2<|by simp).symm⟩
  have Y9:i<Au.toArray.size:=by rw[Ī];exact(fh.mp F8).1
  have Ll:i<gn.toArray.size:=by rw[Ī];exact(fh.mp IM).1
  have mW:∀b∈[z,TI,TO,i1,i2],b<s.heap.objs.size:=λb hb=>by
   simp only[ö,br,or_false]at hb;rcases hb with rfl|rfl|rfl|rfl|rfl
   ·exact ā hz
   ·exact ā yn
   ·exact ā yx
   ·obtain⟨o,e1,_⟩:=h1.ex;exact ā e1
   ·obtain⟨o,e1,_⟩:=h2.ex;exact ā e1
  refine pE D (sx (A:=X.A.in1) b1 hh i1 l1 (FI i1<|by simp) Au.toArray) (sx (A:=X.A.in1) b2 hh i2 l2 (FJ i2<|by simp) gn.toArray) hz yn yx ⟨h1,p1⟩ ⟨h2,p2⟩ Y9 Ll λx' y' h' tk Q2 Vs hz' Tf s1 s2 hT ph hk=>?_;have ex:x'=u1:=by have:Au.toArray[i]?=some x':=Q2;rw[show Au.toArray[i]?=some u1 by simpa using F8]at this;exact(š this).symm
  have ey:y'=u2:=by have:gn.toArray[i]?=some y':=Vs;rw[show gn.toArray[i]?=some u2 by simpa using IM]at this;exact(š this).symm
  subst ex ey;refine⟨.ref s.heap.objs.size,rfl,wpAny_letOwnedTupleGo_zip hz' λLa Vx Do=>?_⟩;have uq:Ţ z h' La:=Do;have I2:=tF (fp:=[z,TI,TO,i1,i2]) (h':=La) (t':=tk) I Td Te ⟨_,(uq.2 _<|cL<|mW z<|by simp).trans hT,rfl⟩ (λb o hb q=>by have iX:∀c∈[z,TI,TO,i1,i2],b≠c:=λc hc e=>hb<|e▸hc;exact(uq.2 b<|iX z<|by simp).trans (hk b o (iX z<|by simp) (iX TO<|by simp) (iX i1<|by simp) (iX i2<|by simp) q)) hf mW;refine⟨.ref s.heap.objs.size,_,I2,rfl,⟨x,y,s.heap.objs.size,λzs Vy=>by rw[vt I Vy F7];exact hx,λzs Vy=>by rw[vt I Vy Cr];exact hy,I.fresh,rfl,rfl⟩,
   ⟨Vx,(uq.2 TI<|Ē n1).trans (hk TI _ (Ē n1) n5 n6 n7 yn),⟨_,_,(uq.2 TO<|Ē n2).trans Tf⟩,s1.1.keep λo q=>(uq.2 i1<|Ē n3).trans q,s2.1.keep λo q=>(uq.2 i2<|Ē n4).trans q⟩,λb hb=>?_⟩
  rw[õ<|ŏ<|mW b hb];exact(hf b hb).1
 done:=by
  intro X hP hw hK hc i Ç s f H E I hf st hg;subst hP hw hK;obtain⟨hz,yn,⟨a,b,yx⟩,h1,h2⟩:=st;obtain⟨⟨xs,F7⟩,⟨ys,Cr⟩,OQ⟩:=hg;have HN:xs.length=i\/(i<xs.length/\ys.length=i):=by
   rcases OQ with⟨Yz,q1,q2⟩|⟨⟨Yz,x,q1,q2⟩,ys',q3,q4⟩
   ·left;rw[vt I F7 q1];exact Iu I q1 q2
   ·right
    rw[vt I F7 q1,vt I Cr q3];exact⟨(fh.mp q2).1,Iu I q3 q4⟩
  obtain⟨Au,PZ,p1,_⟩:=vq I F7;obtain⟨gn,P_,p2,_⟩:=vq I Cr;have FL:=PZ.length;have zI:=P_.length;have FI:∀b∈[z,TI,TO,i1,i2],l1≠b:=λb hb=>B5 I (hf b hb) F7;have FJ:∀b∈[z,TI,TO,i1,i2],l2≠b:=λb hb=>B5 I (hf b hb) Cr;have hh:X.A.in1.handled=none:=I.ok.hd hc;simp only[b_,ö,br,or_false,not_or,List.nodup_nil,not_false_eq_true,and_true]at nd;obtain⟨⟨n1,n2,n3,n4⟩,⟨n5,n6,n7⟩,⟨n8,n9⟩,Lc⟩:=nd;have D:Lu z TI TO i1 i2 [i1,l1] [i2,l2]:=by
   refine⟨Ē n1,Ē n2,Ē n3,Ē n4,n5,n6,n7,n8,n9,Lc,?_,?_,?_,?_,?_,?_⟩<;>simp only[ö,br,or_false,not_or]
   ·exact⟨n3,(FI z<|by simp).symm⟩
   ·exact⟨n4,(FJ z<|by simp).symm⟩
   ·exact⟨n8,(FI TO<|by simp).symm⟩
   ·exact⟨n9,(FJ TO<|by simp).symm⟩
   ·exact⟨Lc,(FJ i1<|by simp).symm⟩
   ·exact⟨Ē Lc,(FI i2<|by simp).symm⟩
  refine qm D (sx (A:=X.A.in1) b1 hh i1 l1 (FI i1<|by simp) Au.toArray) (sx (A:=X.A.in1) b2 hh i2 l2 (FJ i2<|by simp) gn.toArray) hz yn yx ⟨h1,p1⟩ ⟨h2,p2⟩ ?_ λh' tk hk=>⟨rfl,turns (fp:=[z,TI,TO,i1,i2]) (t':=tk) I (λb o hb q=>?_) hf⟩
  ·rw[Ī,Ī];lia
  ·have iX:∀c∈[z,TI,TO,i1,i2],b≠c:=λc hc e=>hb<|e▸hc;exact hk b o (iX z<|by simp) (iX TO<|by simp) (iX i1<|by simp) (iX i2<|by simp) q
 self:=λ_ _ _ _ _ st h=>wpAny_pyIter_zip st.1 h
section
abbrev P0(b:Bool)(h:Ñ)(l1:À):Ñ:=h.push {cls:=.type<|Lv b,data:=.fields #[.ref l1,.int 0 0]}
abbrev P4(b b':Bool)(h:Ñ)(l1 l2:À):Ñ:=(P0 b h l1).push {cls:=.type<|Lv b',data:=.fields #[.ref l2,.int 0 0]}
abbrev P5(b b':Bool)(h:Ñ)(l1 l2:À):Ñ:=(P4 b b' h l1 l2).push {cls:=.type "tuple",data:=.seq #[.ref h.objs.size,.ref (P0 b h l1).objs.size]}
abbrev P6(b b':Bool)(h:Ñ)(l1 l2:À):Ñ:=(P5 b b' h l1 l2).push {cls:=.type "tuple",data:=.seq #[.none,.none]}
abbrev Kn(b b':Bool)(h:Ñ)(l1 l2:À):Ñ:=(P6 b b' h l1 l2).push {cls:=.type "zip",data:=.fields #[.none,.bool false,.bool false,.ref (P4 b b' h l1 l2).objs.size,.ref (P5 b b' h l1 l2).objs.size]}
def yY{prog:ë}{w:â}{A:ì}{E:Á->Ä->Prop}{s:Ä}{b:Bool}{l:À}{ď:Array Á}{Q:Á->Ä->Prop}(hl:C3 b s.heap l ď)
 (hQ:Q (.ref s.heap.objs.size) {s with heap:=s.heap.push {cls:=.type<|Lv b,data:=.fields #[.ref l,.int 0 0]}}):Ï (Ü prog w) A (gw<|.ref l) Q E s:=by
 cases b with
 |true=>exact wD hl hQ|false=>exact ll hl hQ
theorem C3.push{b:Bool}{h:Ñ}{l:À}{ď:Array Á}(x:C3 b h l ď)(o:Obj):C3 b (h.push o) l ď:=by
 cases b with
 |true=>exact Heap.IsTuple.push x o|false=>exact Heap.IsList.push x o
def yZ(b b':Bool)(l1 l2:À)(xs ys:Array Á):
 Meets (lm.«zip.__new__» ⟨[.type "zip",.ref l1,.ref l2],[]⟩) (λ_ R s=>C3 b s.heap l1 xs/\C3 b' s.heap l2 ys/\
  R (.ok<|.ret<|.ref (P6 b b' s.heap l1 l2).objs.size) {s with heap:=Kn b b' s.heap l1 l2}):=
 .of_wp fun prog w A R s h=>by
   obtain⟨hp,g,d,tk,os⟩:=s;obtain⟨FL,zI,h⟩:=h;have HK:=sub_zip;have hL1:C3 b (wQ ⟨hp,g,d,tk,os⟩) l1 xs:=FL;have hL2:C3 b' (wQ ⟨hp.push {cls:=.type<|Lv b,data:=.fields #[.ref l1,.int 0 0]},g,d,tk,os⟩) l2 ys:=C3.push zI _
   wp_walk using yY hL1,yY hL2
   exact⟨_,rfl,h⟩
variable{prog:ë}{w:â}{A:ì}{E:Á->Ä->Prop}{s:Ä}
def Av{b b':Bool}{l1 l2:À}{xs ys:Array Á}{Q:Á->Ä->Prop}(FL:C3 b s.heap l1 xs)(zI:C3 b' s.heap l2 ys)
 (h:∀h',ϥ h' (s.heap.objs.size+4) (s.heap.objs.size+2) (s.heap.objs.size+3) .none→Ő h' (s.heap.objs.size+2) (.ref s.heap.objs.size) (.ref<|s.heap.objs.size+1)→
   Ő h' (s.heap.objs.size+3) .none .none->jW b h' s.heap.objs.size l1 0->jW b' h' (s.heap.objs.size+1) l2 0->h'.objs.size=s.heap.objs.size+5->
   (∀c o,s.heap.get? c=some o->h'.get? c=some o)->Q (.ref<|s.heap.objs.size+4) {s with heap:=h'}):
 Ï (Ü prog w) A (call (.type "zip") [.ref l1,.ref l2]) Q E s:=by
 refine callType_new F.called_zip (by decide) (F.typeCall_zip_2 _ _) (F.newCall_zip_2 _ _) (λobj=>F.args_object_init_3 obj _ _) F.entry_zip_new
  (yZ b b' l1 l2 xs ys) ⟨FL,zI,?_⟩
 have z1:(P0 b s.heap l1).objs.size=s.heap.objs.size+1:=Ϧ ..;have z2:(P4 b b' s.heap l1 l2).objs.size=s.heap.objs.size+2:=by rw[Ϧ,z1]
 have z3:(P5 b b' s.heap l1 l2).objs.size=s.heap.objs.size+3:=by rw[Ϧ,z2]
 have z4:(P6 b b' s.heap l1 l2).objs.size=s.heap.objs.size+4:=by rw[Ϧ,z3]
 have z5:(Kn b b' s.heap l1 l2).objs.size=s.heap.objs.size+5:=by rw[Ϧ,z4]
 have g5:(Kn b b' s.heap l1 l2).get? (P6 b b' s.heap l1 l2).objs.size=some _:=Į _ rfl;have g4:(Kn b b' s.heap l1 l2).get? (P5 b b' s.heap l1 l2).objs.size=some _:=ă _<|Į _ rfl;have g3:(Kn b b' s.heap l1 l2).get? (P4 b b' s.heap l1 l2).objs.size=some _:=ă _<|ă _<|Į _ rfl;have g2:(Kn b b' s.heap l1 l2).get? (P0 b s.heap l1).objs.size=some _:=ă _<|ă _<|ă _<|Į _ rfl;have g1:(Kn b b' s.heap l1 l2).get? s.heap.objs.size=some _:=ă _<|ă _<|ă _<|ă _<|Į _ rfl;show _/\_;rw[z2,z3,z4]at g5;rw[z1,z2]at g3;rw[z3]at g4;rw[z1]at g2;rw[z4];exact⟨⟨_,g5,rfl⟩,h _ g5 g3 g4 (.of g1 rfl rfl) (.of g2 rfl rfl) z5 λc o x=>
  ă _ (ă _<|ă _<|ă _<|ă _ x)⟩
end
section
variable{X:Cx}{elts:List È}{k:Nat}{tp:Pos}
def Ti(K:Î)(ta:TA):TI:=λa H R=>ta a H λvs H1=>∃b1 b2 l1 l2,vs=[.ref l1,.ref l2]/\(∃xs,uu K b1 H1 l1 xs)/\(∃xs,uu K b2 H1 l2 xs)/\R (Tc K b1 b2 l1 l2) H1
def Ko{e1 e2:È}{ta:TA}{p pos:Pos}(hg:Gl X "zip")(hm:X.mg "zip"=none)(ha:PA X [e1,e2] ta)(hs:Ð [e1,e2] X.env=[(false,eval e1 X.env),(false,eval e2 X.env)]:=by exact Ew rfl rfl)(uq:Ð [e2] X.env=[(false,eval e2 X.env)]:=by exact ŋ rfl):
 PI X (.Tuple elts k tp) (.Call (.Name "zip" p) [e1,e2] [] pos) (Ti X.K ta):=by
 intro Ç s a H R I h;refine Call_ (mq I hg hm boot_zip<|rh (ϙ (ha pos Ç s a H _ I h) λus s1 zz=>?_) (by rw[hs,uq]) (by rw[uq];rfl));obtain⟨vs,H1,I1,r1,q1⟩:=zz;obtain⟨b1,b2,l1,l2,e,⟨xs,F7⟩,⟨ys,Cr⟩,q⟩:=q1;subst e;obtain⟨u1,u2,rfl,Td,Te⟩:=vals2 r1;cases Td;cases Te;obtain⟨Au,PZ,p1,_⟩:=vq I1 F7;obtain⟨gn,P_,p2,_⟩:=vq I1 Cr;refine Av p1 p2 λh' hz yn yx h1 h2 ph hk=>?_;have I2:Inv X Ç a H1 {s1 with heap:=h'}:=I1.kept (t':=s1.toks) hk;refine wpAny_pyIter_zip (s:={s1 with heap:=h'}) hz ⟨s1.heap.objs.size+4,[s1.heap.objs.size+4,s1.heap.objs.size+2,s1.heap.objs.size+3,s1.heap.objs.size,s1.heap.objs.size+1],_,_,H1,rfl,I2,Fd b1 b2 l1 l2 _ _ _ _ _ (by simp),⟨hz,yn,⟨_,_,yx⟩,h1,h2⟩,λb hb=>?_,q⟩;have DG:s1.heap.objs.size<=b:=by simp only[ö,br,or_false]at hb;rcases hb with rfl|rfl|rfl|rfl|rfl<;>lia
 exact I1.zM DG<|I1.hok.fresh DG
end
noncomputable def oH:List PV->List PV->List PV
 |p::ps,q::qs=>.tup [p,q]::oH ps qs|_,_=>[]
theorem y_:∀(ps qs:List PV) (i:Nat) (r:PV),(oH ps qs)[i]?=some r->∃p q,ps[i]?=some p/\qs[i]?=some q/\r=.tup [p,q]
 |[],_,_,_,h=>by simp[oH]at h|_::_,[],_,_,h=>by simp[oH]at h|p::ps,q::qs,0,r,h=>by have h':some (PV.tup [p,q])=some r:=h;cases h';exact⟨p,q,rfl,rfl,rfl⟩|p::ps,q::qs,i+1,r,h=>y_ ps qs i r h
theorem za:∀(ps qs:List PV),(oH ps qs).length=min ps.length qs.length
 |[],_=>by simp[oH]|_::_,[]=>by simp[oH]|_::ps,_::qs=>by show(oH ps qs).length+1=_;rw[za ps qs,Ę,Ę];lia
def C4(m1 m2:M (List PV)):M (List PV):=λU=>(m1 U).bind λps U1=>(m2 U1).bind λqs U2=>.ok (oH ps qs) U2
def Nj(K:Î)(b:Bool)(a:À):It:=if b=true then L5 K a else HV K a
def tK{K:KK}{L F:Hp}{b:Bool}{a:À}{ps:List PV}(h:ij K L F (Nj K.K b a) ps){c:Ctx}{F2 H:Hp}{d:Ċ}{U:ċ}(rel:ĝ K c F2 H d U)(sF:Þ F F2)(sL:Þ L H)(i:Nat)(p:PV)(hp:ps[i]?=some p):
 (∃xs x,uu K.K b H a xs/\xs[i]?=some x)/\∀x,(∀xs,uu K.K b H a xs->xs[i]?=some x)->∃F3,ĝ K c F3 H d U/\Þ F2 F3/\Ĉ K F3 p x:=by
 obtain⟨g,_⟩:=h c i F2 H d U rel sF sL;obtain⟨g1,g2⟩:=g p hp;cases b with
 |true=>exact⟨g1,λx hx=>let ⟨F3,r3,s3,_,rp⟩:=g2 x H ⟨rfl,hx⟩;⟨F3,r3,s3,rp⟩⟩
 |false=>exact⟨g1,λx hx=>let ⟨F3,r3,s3,_,rp⟩:=g2 x H ⟨rfl,hx⟩;⟨F3,r3,s3,rp⟩⟩
def xN{K:KK}{L F:Hp}{b:Bool}{a:À}{ps:List PV}(h:ij K L F (Nj K.K b a) ps){c:Ctx}{F2 H:Hp}{d:Ċ}{U:ċ}(rel:ĝ K c F2 H d U)(sF:Þ F F2)(sL:Þ L H):
 ∃xs,uu K.K b H a xs/\Hg K.K b H a ps.length xs:=by
 obtain⟨_,st⟩:=h c ps.length F2 H d U rel sF sL;have Dk:∃xs,uu K.K b H a xs/\xs.length<=ps.length:=by
  cases b with
  |true=>exact st rfl|false=>exact st rfl
 obtain⟨xs,h1,h2⟩:=Dk;exact⟨xs,h1,h2,λj hj=>(tK h rel sF sL j _<|ũ hj).1⟩
def Fe{K:KK}{L F:Hp}{b1 b2:Bool}{a1 a2:À}{ps qs:List PV}(h1:ij K L F (Nj K.K b1 a1) ps)(h2:ij K L F (Nj K.K b2 a2) qs):ij K L F (Tc K.K b1 b2 a1 a2) (oH ps qs):=by
 intro c i F2 H a U rel sF sL;refine⟨λr hr=>?_,λhi=>?_⟩
 ·obtain⟨p,q,hp,hq,rfl⟩:=y_ ps qs i r hr;obtain⟨g1,y1⟩:=tK h1 rel sF sL i p hp;refine⟨⟨g1,(tK h2 rel sF sL i q hq).1⟩,λz H' zz=>?_⟩;obtain⟨x,y,T,e1,e2,hT,ez,eH⟩:=zz;subst ez eH;obtain⟨F3,iz,s3,rp⟩:=y1 x e1;obtain⟨F4,sS,s4,rq⟩:=(tK h2 iz (sF.trans s3) sL i q hq).2 y e2;obtain⟨r1,r2⟩:=B2 sS hT (Ĉ.same s4 p x rp) rq;exact⟨_,r1,(s3.trans s4).trans (Þ.upd<|sS.sub.free hT),Þ.upd hT,r2⟩
 ·rw[za]at hi;obtain⟨xs,x1,x2⟩:=xN h1 rel sF sL;obtain⟨ys,y1,y2⟩:=xN h2 rel sF sL;refine⟨⟨xs,x1⟩,⟨ys,y1⟩,?_⟩;by_cases hl:ps.length<=qs.length
  ·left
   have e:i=ps.length:=by lia
   exact⟨xs,x1,e▸x2⟩
  ·right
   have e:i=qs.length:=by lia
   exact⟨(tK h1 rel sF sL i _<|ũ<|by lia).1,ys,y1,e▸y2⟩
def Nk{K:KK}{c:Ctx}{d:Ċ}{U:ċ}{F H:Hp}{ps:List PV}{v:V}(h:PR K c d U F H ps v):∃b a,v=.ref a/\(∃xs,uu K.K b H a xs)/\ij K c.L F (Nj K.K b a) ps:=by
 rcases h with⟨a,e1,e2,e3⟩|⟨a,e1,e2,e3⟩
 ·exact⟨false,a,e1,e2,e3⟩
 ·exact⟨true,a,e1,e2,e3⟩
section
variable{X:Cx}{cm:String->À}{E:Ċ->XK}{e e2:È}
def Nl{elts:List È}{k:Nat}{tp p pos:Pos}{m1 m2:M (List PV)}(hg:Gl X "zip")(hm:X.mg "zip"=none)(h1:PE X e (tG (kk X cm) E (PR<|kk X cm) m1))(h2:PE X e2 (tG (kk X cm) E (PR<|kk X cm) m2))
 (hs:Ð [e,e2] X.env=[(false,eval e X.env),(false,eval e2 X.env)]:=by exact Ew rfl rfl)(uq:Ð [e2] X.env=[(false,eval e2 X.env)]:=by exact ŋ rfl):
 PI X (.Tuple elts k tp) (.Call (.Name "zip" p) [e,e2] [] pos) (tI (kk X cm) E<|C4 m1 m2):=λÇ s a H R I h=>Ko hg hm (Ϩ h1 (Ϩ h2 cu uq)<|by rw[hs,uq]) hs uq Ç s a H R I (by
 obtain⟨c,F,U,rel,h⟩:=h;refine⟨c,F,U,rel,Ϸ.bind h λps U1 v F1 H1 è s1 s2 q h1=>⟨c,F1,U1,è,Ϸ.bind h1 λqs U2 u F2 H2 ę s3 s4 q2 h2=>?_⟩⟩;obtain⟨b1,a1,e1,_,e3⟩:=Nk q;obtain⟨b2,a2,f1,f2,f3⟩:=Nk q2;subst e1 f1;obtain⟨xs,x1,_⟩:=xN (e3.mono s3) ę č λb u e=>(ę.lent b u e).1;exact⟨b1,b2,a1,a2,rfl,⟨xs,x1⟩,f2,h2 _ F2 H2 ę č č<|Fe (e3.mono s3) f3⟩)
end
def Hh(K:Î)(HJ:Bool):R2:=λx y H Q=>∃d es a xs,Rp K H d x/\y=.ref a/\(ϱ K H a xs\/fL K H a xs)/\lN K H es xs/\d.canLay0=true/\d_ es=true/\d.depth<=60/\Q (.bl<|if HJ then !(es.any λe=>Ĭ e d)else es.any λe=>Ĭ e d) H
open Classical in
noncomputable def xO(h:Ñ)(d:Ϥ)(y:Á):Bool:=if ∃e as,Reads h y e as/\e.canLay0=true/\Ĭ e d=true then true else false
def Aw{h:Ñ}{d e:Ϥ}{y:Á}{as:List À}(r:Reads h y e as)(hc:e.canLay0=true):xO h d y=Ĭ e d:=by
 unfold xO;cases q:Ĭ e d with
 |true=>rw[if_pos ⟨e,as,r,hc,q⟩]|false=>rw[if_neg];rintro ⟨e',YA,r',Op,q'⟩;have:=SeqAt.Reads.unique e e' y as YA hc r r';subst this;rw[q]at q';cases q'
theorem oI{h:Ñ}{d:Ϥ}:∀{us:List Á}{es:List Ϥ}{as:List À},ReadsAll h us es as->d_ es=true->us.any (xO h d)=es.any λe=>Ĭ e d
 |_,_,_,.nil,_=>rfl|_,_,_,.cons r rs,hc=>by unfold d_ at hc;rw[Ă]at hc;rw[jb,jb,Aw r hc.1,oI rs hc.2]
theorem lE{A:ì}{s:Ä}{d:Ϥ}{v:Á}{bs:List À}(rv:Reads s.heap v d bs)(hd:d.canLay0=true)(hu:A.units+d.depth<Ź):∀{us:List Á}{es:List Ϥ}{as:List À},ReadsAll s.heap us es as->d_ es=true->∀u∈us,SeqAt.EqAt A s u v<|xO s.heap d u
 |_,_,_,.nil,_=>λu hu=>by cases hu
 |_,_,_,.cons r rs,hc=>λu hm=>by
  unfold d_ at hc;rw[Ă]at hc;rcases ö.mp hm with rfl|hm
  ·rw[Aw r hc.1];exact SeqAt.eqAt_reads _ _ A s _ _ _ _ r rv hc.1 hd (by lia)
  ·exact lE rv hd hu rs hc.2 u hm
section
variable{X:Cx}
def Kp(hu:X.A.units+64<Ź):aA X (ī .In) (Hh X.K false):=by
 intro Ç s b H x y v u Q I rx ry h;obtain⟨d,es,a,xs,h1,rfl,hq,h3,h4,h5,h6,q⟩:=h;cases ry;obtain⟨as,ra⟩:=Rp.reads I d x v h1 rx;have F8:X.A.in1.units+d.depth<Ź:=by have:X.A.in1.units=X.A.units+1:=rfl;lia
 rcases hq with hq|hq
 ·obtain⟨ď,r,pl,hz⟩:=I.list hq;obtain⟨bs,rb⟩:=lN.reads I es xs ď h3 r;refine SeqAt.in_listAt (xO s.heap d) pl.isList (λw hw=>lE ra h4 F8 rb h5 w<|by simpa using hw) ⟨.bl _,H,I,rfl,?_⟩;rw[show ď.toArray.any (xO s.heap d)=ď.any (xO s.heap d) by simp,oI rb h5];exact q
 ·obtain⟨ď,r,pl,hz⟩:=I.tuple hq;obtain⟨bs,rb⟩:=lN.reads I es xs ď h3 r;refine SeqAt.in_tupleAt (xO s.heap d) pl (λw hw=>lE ra h4 F8 rb h5 w<|by simpa using hw) ⟨.bl _,H,I,rfl,?_⟩;rw[show ď.toArray.any (xO s.heap d)=ď.any (xO s.heap d) by simp,oI rb h5];exact q
def C5(hu:X.A.units+64<Ź):aA X (ī .NotIn) (Hh X.K true):=by
 intro Ç s b H x y v u Q I rx ry h;obtain⟨d,es,a,xs,h1,rfl,hq,h3,h4,h5,h6,q⟩:=h;cases ry;obtain⟨as,ra⟩:=Rp.reads I d x v h1 rx;have F8:X.A.in1.units+d.depth<Ź:=by have:X.A.in1.units=X.A.units+1:=rfl;lia
 rcases hq with hq|hq
 ·obtain⟨ď,r,pl,hz⟩:=I.list hq;obtain⟨bs,rb⟩:=lN.reads I es xs ď h3 r;refine SeqAt.notIn_listAt (xO s.heap d) pl.isList (λw hw=>lE ra h4 F8 rb h5 w<|by simpa using hw) ⟨.bl _,H,I,rfl,?_⟩;rw[show ď.toArray.any (xO s.heap d)=ď.any (xO s.heap d) by simp,oI rb h5];exact q
 ·obtain⟨ď,r,pl,hz⟩:=I.tuple hq;obtain⟨bs,rb⟩:=lN.reads I es xs ď h3 r;refine SeqAt.notIn_tupleAt (xO s.heap d) pl (λw hw=>lE ra h4 F8 rb h5 w<|by simpa using hw) ⟨.bl _,H,I,rfl,?_⟩;rw[show ď.toArray.any (xO s.heap d)=ď.any (xO s.heap d) by simp,oI rb h5];exact q
end
noncomputable def Cs(HJ:Bool)(p q:PV):Option PV:=match q with
 |.lst ps=>if ŭ p&&ϻ ps&&decide (qh p<=60)then some (.bl<|if HJ then !(ps.any λy=>aE y p)else ps.any λy=>aE y p)else none
 |.tup ps=>if ŭ p&&ϻ ps&&decide (qh p<=60)then some (.bl<|if HJ then !(ps.any λy=>aE y p)else ps.any λy=>aE y p)else none
 |_=>none
theorem xP{p:PV}(h:ŭ p=true):∀{ps:List PV},ϻ ps=true->(fU ps).any (λe=>Ĭ e<|ig p)=ps.any λy=>aE y p
 |[],_=>rfl|y::ps,hp=>by unfold ϻ at hp;rw[Ă]at hp;unfold fU;rw[jb,jb,s_ y p hp.1 h,xP h hp.2]
def Ff{K:KK}{HJ:Bool}:kl K (Hh K.K HJ) (Cs HJ):=by
 intro c F H b U p q pv v u Q rel r1 r2 e k;unfold Cs at e;split at e
 ·rename_i ps;split at e
  ·rename_i hc;rw[Ă,Ă,decide_eq_true_eq]at hc;cases e;obtain⟨a,xs,rfl,h1,h2⟩:=r2.lst rel.sub;refine⟨ig p,fU ps,a,xs,jB rel.sub hc.1.1 r1,rfl,.inl h1,lN.same rel.sub _ _<|jA ps xs hc.1.2 h2,gQ p hc.1.1,iB ps hc.1.2,by rw[gR];exact hc.2,?_⟩;rw[xP hc.1.1 hc.1.2];exact k _ F H rel č č Ĉ.bl
  ·cases e
 ·rename_i ps;split at e
  ·rename_i hc;rw[Ă,Ă,decide_eq_true_eq]at hc;cases e;obtain⟨a,xs,rfl,h1,h2⟩:=r2.tup rel.sub;refine⟨ig p,fU ps,a,xs,jB rel.sub hc.1.1 r1,rfl,.inr h1,lN.same rel.sub _ _<|jA ps xs hc.1.2 h2,gQ p hc.1.1,iB ps hc.1.2,by rw[gR];exact hc.2,?_⟩;rw[xP hc.1.1 hc.1.2];exact k _ F H rel č č Ĉ.bl
  ·cases e
 ·cases e
def oJ{x:Int}{n:Nat}(h1: -(2^n:Int)<x)(h2:x<2^n):bits x<=n:=by
 refine intBits_le_iff.mpr ?_;have e:((2^n:Nat):Int)=(2:Int)^n:=by simp
 have:((x.natAbs:Nat):Int)<((2^n:Nat):Int):=by rw[e];lia
 lia
def Nn{x y:Int}(h:y≠0)(h1: -18446744073709551616<y)(h2:y<18446744073709551616):kr x y=true:=yR h (ř (oJ (n:=64) (by lia)<|by lia)<|by decide)
@[simp]theorem P7{x:Int}{n:Nat}(h:n≠0)(h2:n<18446744073709551616):kr x (no_index (Ÿ n):Int)=true:=by have e:(no_index (Ÿ n):Int)=(n:Int):=rfl;rw[e];exact Nn (by lia) (by lia) (by lia)
@[simp]theorem No{x:Int}{n:Nat}(h:n<18446744073709551616):Ě x (no_index (Ÿ n):Int)=true:=by have e:(no_index (Ÿ n):Int)=(n:Int):=rfl;rw[e];exact Cq (by lia) (by lia)
@[simp]theorem Np{x:Int}{n:Nat}(h:n<18446744073709551616):Ě (no_index (Ÿ n):Int) x=true:=by have e:(no_index (Ÿ n):Int)=(n:Int):=rfl;rw[e];exact œ (by lia) (by lia)
@[simp]theorem P8{m n:Nat}(h:m<18446744073709551616)(h2:n≤1000000):yN (no_index (Ÿ m):Int) (no_index (Ÿ n):Int)=true:=by have e:(no_index (Ÿ m):Int)=(m:Int):=rfl;have e2:(no_index (Ÿ n):Int)=(n:Int):=rfl;rw[e,e2];unfold yN;simp;lia
@[simp]theorem Nq{x:Int}{n:Nat}:x.fdiv (no_index (Ÿ n):Int)=x/(no_index (Ÿ n):Int):=nc x<|kT n
@[simp]theorem Nr{x:Int}{n:Nat}:x.fmod (no_index (Ÿ n):Int)=x%(no_index (Ÿ n):Int):=vL x<|kT n
def vH{xs ys:List PV}(h:xs.length+ys.length<=16777216):ü (.lst xs) (.lst ys)=some (.ow<|xs++ys):=by unfold ü;simp[h]
def Kq{x y z w:Int}:aE (.tup [.int x,.int y]) (.tup [.int z,.int w])=(decide (x=z)&&decide (y=w)):=by
 rw[aE.eq_def];show iA [.int x,.int y] [.int z,.int w]=_;rw[iA.eq_def];show(aE (.int x) (.int z)&&iA [.int y] [.int w])=_;rw[iA.eq_def];show(aE (.int x) (.int z)&&(aE (.int y) (.int w)&&iA [] []))=_;have h1:aE (.int x) (.int z)=decide (x=z):=by rw[aE.eq_def];rfl
 have h2:aE (.int y) (.int w)=decide (y=w):=by rw[aE.eq_def];rfl
 have h3:iA [] []=true:=by rw[iA.eq_def]
 rw[h1,h2,h3,Bool.and_true]
mutual
theorem zb:∀p:PV,ŭ p=true->aE p p=true
 |.non,_=>by unfold aE;rfl|.bl b,_=>by unfold aE;simp|.int i,_=>by unfold aE;simp|.str x,_=>by unfold aE;simp|.lst xs,h=>by unfold ŭ at h;unfold aE;exact pF xs h|.tup xs,h=>by unfold ŭ at h;unfold aE;exact pF xs h|.ins _ _ _,h=>by simp[ŭ]at h|.xc _ _ _,h=>by simp[ŭ]at h|.ty _,h=>by simp[ŭ]at h|.cls _,h=>by simp[ŭ]at h|.Dx _ _,h=>by simp[ŭ]at h
theorem pF:∀ps:List PV,ϻ ps=true->iA ps ps=true
 |[],_=>by unfold iA;rfl|p::ps,h=>by unfold ϻ at h;rw[Ă]at h;unfold iA;rw[zb p h.1,pF ps h.2];rfl
end
def İ{a b:Str}(ha:ĕ a=true)(hb:ĕ b=true):ŉ (.str a) (.str b)=some (.bl<|decide<|a=b):=by
 have h:aE (.str a) (.str b)=decide (a=b):=by unfold aE;rfl
 unfold ŉ tj;rw[show ŭ (.str a)=true by unfold ŭ;exact ha,show ŭ (.str b)=true by unfold ŭ;exact hb,h];rfl
def Fg{a b:Str}(ha:ĕ a=true)(hb:ĕ b=true):ϲ (.str a) (.str b)=some (.bl<|!decide (a=b)):=by
 have h:aE (.str a) (.str b)=decide (a=b):=by unfold aE;rfl
 unfold ϲ tj;rw[show ŭ (.str a)=true by unfold ŭ;exact ha,show ŭ (.str b)=true by unfold ŭ;exact hb,h];rfl
section
variable{g:Tg}{mb:M Fl}
theorem lF{α β:Type}(c:α->PV)(step:β->α->β)(J:β->ċ->Prop):∀(xs:List α),(∀x∈xs,∀b U,J b U->∃U1 U2,g (c x) U=some U1/\mb U1=.ok .nx U2/\J (step b x) U2)->∀b U,J b U->∃U',ĺ g mb (xs.map c) U=.ok .nx U'/\J (xs.foldl step b) U'
 |[],_,b,U,h=>⟨U,rfl,h⟩|x::xs,hs,b,U,h=>by obtain⟨U1,U2,h1,h2,h3⟩:=hs x (by simp) b U h;obtain⟨U',e,h4⟩:=lF c step J xs (λy hy=>hs y<|ð _ hy) (step b x) U2 h3;refine⟨U',?_,h4⟩;rw[á,ĺ,h1];dsimp only;rw[h2];exact e
theorem iE{α γ:Type}(c:α->PV)(t:α->Option γ)(v:γ->RV)(J:ċ->Prop):∀(xs:List α),(∀x∈xs,∀U,J U->∃U1,g (c x) U=some U1/\((∃r U2,t x=some r/\mb U1=.ok (.rt<|v r) U2)\/(∃U2,t x=none/\mb U1=.ok .nx U2/\J U2)))->∀U,J U->
 (∃r U',xs.findSome? t=some r/\ĺ g mb (xs.map c) U=.ok (.rt<|v r) U')\/(∃U',xs.findSome? t=none/\ĺ g mb (xs.map c) U=.ok .nx U'/\J U')
 |[],_,U,h=>.inr ⟨U,rfl,rfl,h⟩|x::xs,hs,U,h=>by
  obtain⟨U1,h1,h2⟩:=hs x (by simp) U h;rcases h2 with⟨r,U2,e1,e2⟩|⟨U2,e1,e2,e3⟩
  ·refine .inl ⟨r,U2,by rw[qN,e1],?_⟩;rw[á,ĺ,h1];dsimp only;rw[e2];rfl
  ·have hf:List.findSome? t (x::xs)=List.findSome? t xs:=by rw[qN,e1]
   have hl:ĺ g mb ((x::xs).map c) U=ĺ g mb (xs.map c) U2:=by rw[á,ĺ,h1];dsimp only;rw[e2];rfl
   rw[hf,hl];exact iE c t v J xs (λy hy=>hs y<|ð _ hy) U2 e3
end
def Tj(K:Î)(n:Nat)(t:DO):TG:=λv b H Q=>∃a xs,v=.ref a/\ϱ K H a xs/\xs.length=n/\t xs b H Q
section
variable{X:Cx}{cm:String->À}{pos:Pos}
def Kr{es:List È}{k:Nat}{t:DO}{n:Nat}(hc:X.calm=true)(h:zy X es t)
 (hn:(ϐ es X.env).length=n:=by rfl)(mZ:(ϐ es X.env).findIdx? (·.1)=none:=by rfl):PG X (.Tuple es k pos) (Tj X.K n t):=by
 intro Ç s c H v u Q I r hw;obtain⟨a,xs,e1,hq,hl,hw⟩:=hw;subst e1;cases r;obtain⟨ď,rv,ht,hz⟩:=I.list hq;rw[assign_Tuple];refine Ò<|nJ ?_;unfold unpack;rw[show(ϐ es X.env).length=ď.toArray.size by simp[hn,<-hl,rv.length],mZ];refine Ò<|lc<|PySem.W.kun_itemsOf (I.ok.hd hc) ht.isList λh' hx=>?_;have I1:Inv X Ç c H {s with heap:=h'}:=I.kept (t':=s.toks) λb o e=>hx b o (ŏ<|ā e) e;exact h Ç _ c H xs _ Q I1 (by simpa using rv) hw
def gS(n:Nat)(gs:DA):Tg:=λp U=>match p with
 |.tup ps=>if ps.length=n then gs ps U else none|.lst ps=>if ps.length=n then gs ps U else none|_=>none
@[simp]theorem Tk{n:Nat}{gs:DA}{ps:List PV}{U:ċ}:gS n gs (.tup ps) U=if ps.length=n then gs ps U else none:=rfl
@[simp]theorem Tl{n:Nat}{gs:DA}{ps:List PV}{U:ċ}:gS n gs (.lst ps) U=if ps.length=n then gs ps U else none:=rfl
def pZ{es:List È}{k:Nat}{gs:DA}{n:Nat}(hc:X.calm=true)(h:zy X es (ME (kk X cm) gs))(hn:(ϐ es X.env).length=n:=by rfl)(mZ:(ϐ es X.env).findIdx? (·.1)=none:=by rfl):PG X (.Tuple es k pos) (tT (kk X cm)<|gS n gs):=by
 intro Ç s b H v u Q I r hw;obtain⟨c,F,U,p,rel,rp,hw⟩:=hw;cases p with
 |tup ps=>
  unfold Ĉ at rp;obtain⟨a,xs,h1,h2,h3⟩:=rp;unfold gS at hw;dsimp only at hw;split at hw
  ·rename_i hl;exact xm hc h hn mZ Ç s b H v u Q I r ⟨a,xs,h1,Þ.tup rel.sub h2,by rw[<-h3.length];exact hl,c,F,U,ps,rel,h3,hw⟩
  ·exact hw.elim
 |lst ps=>
  unfold Ĉ at rp;obtain⟨a,xs,h1,h2,h3⟩:=rp;unfold gS at hw;dsimp only at hw;split at hw
  ·rename_i hl;exact Kr hc h hn mZ Ç s b H v u Q I r ⟨a,xs,h1,rel.sub.seq h2,by rw[<-h3.length];exact hl,c,F,U,ps,rel,h3,hw⟩
  ·exact hw.elim
 |_=>exact hw.elim
end
def ĝ.keep{K:KK}{c:Ctx}{F H H':Hp}{a:Ċ}{U:ċ}(r:ĝ K c F H a U)(e:Þ H H'):ĝ K c F H' a U:=r.call ⟨e,Þ.refl F,r.sub.trans e,λ_ _ h=>h⟩
def ĝ.Ks{K:KK}{c:Ctx}{F H:Hp}{b:Ċ}{U:ċ}(r:ĝ K c F H b U){i:Nat}{ps qs rs:List PV}(e:U[i]?=some (.ot ps qs rs)):∃F',Þ F F'/\ĝ K c F' H b (U.set i<|.sh<|.tup (ps++.lst qs::rs)):=by
 obtain⟨p,a,xs,vs,ys,h1,h2,h3,h4,h5,h6,h7,h8⟩:=r.slot i _ e;obtain⟨m1,m2⟩:=r.move (a:=a) ⟨_,_,e,ň h1,p,xs,ys,rfl,h2,h3.length.symm⟩;have ra:Ĉ K (upd F a<|.lst vs) (.lst qs) (.ref a):=by unfold Ĉ;exact⟨a,vs,rfl,ϱ.of ą,h7.same (Þ.upd h5) qs vs⟩
 have rp:Ĉ K (upd F a<|.lst vs) (.tup (ps++.lst qs::rs)) (.ref p):=by unfold Ĉ;exact⟨p,_,rfl,fL.of<|Þ.upd h5 _ _ h2,é.append (h3.same (Þ.upd h5) ps xs)<|é.cons ra<|h8.same (Þ.upd h5) rs ys⟩
 have q:=(m1.freeze h4 h6 h5 m2).EB (i:=i) (s:=.sh<|.tup (ps++.lst qs::rs)) rfl (show aT K c _ H _ (.sh<|.tup (ps++.lst qs::rs))from⟨.ref p,by rw[ň h1];rfl,rp⟩);rw[List.set_set]at q;exact⟨_,Þ.upd h5,q⟩
noncomputable def zc(i:Nat)(m:M Bool):M Bool:=λU=>match U[i]?with
 |some (.ot ps qs rs)=>match m (U.set i<|.sh<|.tup (ps++.lst qs::rs))with
  |.ok b _=>.ok b U|_=>.bad
 |_=>m U
section
variable{X:Cx}{cm:String->À}{E:Ċ->XK}{e o:È}{es:List È}{pos:Pos}{m:M Bool}{mo:M RV}{ma:M PV}
def Kt(i:Nat)(h:PT X e (tB (kk X cm) E m)):PT X e (tB (kk X cm) E<|zc i m):=PT.wk h<|by
 rintro a H Q ⟨c,F,U,rel,h⟩;unfold zc at h;cases e1:U[i]?with
 |none=>rw[e1]at h;exact⟨c,F,U,rel,h⟩|some s=>
  rw[e1]at h;cases s with
  |ot ps qs rs=>
   obtain⟨F',sF,ž⟩:=rel.Ks e1;refine⟨c,F',_,ž,?_⟩;dsimp only at h;cases em:m (U.set i<|.sh<|.tup (ps++.lst qs::rs))with
   |ok b U1=>rw[em]at h;exact λv F2 H2 r1 s1 s2 q=>h v F H2 (rel.keep s2) č s2 q
   |exc x U1=>rw[em]at h;exact h.elim|bad=>rw[em]at h;exact h.elim
  |_=>exact⟨c,F,U,rel,h⟩
structure Ku where
 ps:List PV
 r:RV
 rs:List PV
def P9(K:KK):RR Ku (List V):=λc a U F H r vs=>∃xs v ys,vs=xs++v::ys/\é K F r.ps xs/\rO K c a U F H r.r v/\é K F r.rs ys
@[simp]def Iv(mo:M RV)(U:ċ):ĳ Ku:=(mo U).bind λr U1=>.ok ⟨[],r,[]⟩ U1
@[simp]def Ax(ma:M PV)(mr:M Ku)(U:ċ):ĳ Ku:=(ma U).bind λp U1=>(mr U1).bind λr U2=>.ok ⟨p::r.ps,r.r,r.rs⟩ U2
def Kv(he:PE X e (tO (kk X cm) E mo))(hs:Ð [e] X.env=(false,eval e X.env)::Ð [] X.env:=by exact ŋ rfl):PA X [e] (tG (kk X cm) E (P9<|kk X cm)<|Iv mo):=
 PA.wk (Ϩ he cu hs) λa H Q ⟨c,F,U,rel,h⟩=>⟨c,F,U,rel,h.bind λr U1 v F1 H1 è _ _ r1 h1=>h1 _ F1 H1 è č č ⟨[],v,[],rfl,é.nil,r1,é.nil⟩⟩
def B6{mr:M Ku}(ha:PE X e (tV (kk X cm) E ma))(hr:PA X es (tG (kk X cm) E (P9<|kk X cm) mr))(hs:Ð (e::es) X.env=(false,eval e X.env)::Ð es X.env:=by exact ŋ rfl):PA X (e::es) (tG (kk X cm) E (P9<|kk X cm)<|Ax ma mr):=
 PA.wk (Ϩ ha hr hs) λa H Q ⟨c,F,U,rel,h⟩=>⟨c,F,U,rel,h.bind λp U1 v F1 H1 è _ _ r1 h1=>⟨c,F1,U1,è,h1.bind λr U2 vs F2 H2 ę sF sH ⟨xs,u,ys,e1,e2,e3,e4⟩ h2=>h2 _ F2 H2 ę č č ⟨v::xs,u,ys,by rw[e1];rfl,é.cons (Ĉ.same sF p v r1) e2,e3,e4⟩⟩⟩
@[simp]def Iw(mr:M Ku)(U:ċ):ĳ RV:=(mr U).bind fun r U1=>if r.ps.length+r.rs.length<16777216then(match r.r with
  |.ow qs=>.ok (.ot r.ps qs r.rs) U1|.sh p=>.ok (.sh<|.tup (r.ps++p::r.rs)) U1|_=>.bad)else .bad
def Kw{x1}{mr:M Ku}(h:PA X es (tG (kk X cm) E (P9<|kk X cm) mr)):PE X (.Tuple es x1 pos) (tO (kk X cm) E<|Iw mr):=PE.wk (D7 h) λb H Q ⟨c,F,U,rel,h⟩=>
 ⟨c,F,U,rel,h.bind fun r U1 vs F1 H1 è _ _ ⟨xs,v,ys,e1,e2,e3,e4⟩ h1=>by
   subst e1;split at h1
   ·rename_i hz;refine⟨by rw[Ϟ,<-e2.length,Ĝ];simp only[Ę,<-e4.length];lia,λp hp=>?_⟩;have ę:=è.alloc (o:=.tup (xs++v::ys)) hp;have sF:Þ F1 (upd F1 p<|.tup (xs++v::ys)):=Þ.upd<|è.sub.free hp;obtain⟨ps,rv,rs⟩:=r;cases rv with
    |sh q=>refine h1 _ _ _ ę sF (Þ.upd hp) ?_;show Ĉ _ _ _ _;unfold Ĉ;exact⟨p,_,rfl,fL.of ą,é.append (e2.same sF ps xs)<|é.cons (Ĉ.same sF q v e3)<|e4.same sF rs ys⟩|ow qs=>
     obtain⟨a,vs,rfl,q1,q2,q3,q4,q5⟩:=e3;have na:a≠p:=λz=>by rw[z,hp]at q1;cases q1
     exact h1 _ _ _ ę sF (Þ.upd hp) ⟨p,a,xs,vs,ys,rfl,ą,e2.same sF ps xs,by rw[õ na];exact q1,by rw[õ na];exact q2,q3,è.mG sF q4,q5.same sF qs vs,e4.same sF rs ys⟩
    |ot _ _ _=>exact h1.elim|bn _ _ _ _=>exact h1.elim
   ·exact h1.elim⟩
@[simp]theorem Tn{ps qs rs:List PV}:(RV.ot ps qs rs).val=.tup (ps++.lst qs::rs):=rfl
@[simp]theorem To{ps qs rs:List PV}:(RV.ot ps qs rs).slot=.ot ps qs rs:=rfl
@[simp]theorem Qa{i:Nat}{U:ċ}:zc i m U=(match U[i]?with
  |some (.ot ps qs rs)=>match m (U.set i<|.sh<|.tup (ps++.lst qs::rs))with
   |.ok b _=>.ok b U|_=>.bad
  |_=>m U):=rfl
end
open M5
def BN:Nat->(List Á->Prop)->Prop
 |0,p=>p []|n+1,p=>∀u,BN n λus=>p (u::us)
theorem xQ:∀{n:Nat}{p:List Á->Prop},BN n p->∀us,us.length=n->p us
 |0,p,h,[],_=>h|0,p,h,_::_,e=>by cases e|n+1,p,h,[],e=>by cases e|n+1,p,h,u::us,e=>xQ (h u) us<|Nat.succ.inj e
structure Df(K:Î)(mg:Str->Option Á)(x:Str)(st:ò)(ps:List Str)(f:À)(fd:ĉ):Prop where
 F:FN K x x st f fd
 m:mg x=some (.ref f)
 b:Binds K fd ps []
 bb:∀(s:Ä) (us:List Á),us.length=ps.length->fC s fd ⟨us,[]⟩ (ps.zip us)
structure Dm(K:Î)(C:À)(x q:Str)(st:ò)(ps:List Str)(f:À)(fd:ĉ):Prop where
 F:FN K x q st f fd
 b:Binds K fd ps []
section
variable{K:Î}{h:Ñ}{mg:Str->Option Á}{x q:Str}{st:ò}{ps:List Str}{f C:À}{oc kV dc pm cd ct:Á}{od an:Option À}{sl:Array (Option Á)}
def Nt(X:K.In h)(G:h.Ns ġ mg)(hb:∀(kV dc pm:Á) (an:Option À) (cd ct:Á),BN ps.length λus=>nL (aK x x (bF st) (Ž st) (Ā st) .none kV dc pm an cd ct) ⟨us,[]⟩=ñ (ps.zip us))
 (a:en K ġ x=some (some<|.ref f))(l:K.lookup f=some ⟨oc,od,.func<|aK x x (bF st) (Ž st) (Ā st) .none kV dc pm an cd ct,sl⟩)(c:lz K cd x=true)(k:bC K (.ref f)=true):
 Df K mg x st ps f (aK x x (bF st) (Ž st) (Ā st) .none kV dc pm an cd ct):=
 have F:=Ef (st:=st) l c k
 ⟨F,r_ X G a,F.binds λkV dc pm an cd ct us hl=>xQ (hb kV dc pm an cd ct) us hl,λs us hl=>.of_eq<|xQ (hb kV dc pm an cd ct) us hl⟩
def Nu(hb:∀(kV dc pm:Á) (an:Option À) (cd ct:Á),BN ps.length λus=>nL (aK x q (bF st) (Ž st) (Ā st) .none kV dc pm an cd ct) ⟨us,[]⟩=ñ (ps.zip us))
 (a:Ż K (.ref C) x=some (some<|.ref f))(l:K.lookup f=some ⟨oc,od,.func<|aK x q (bF st) (Ž st) (Ā st) .none kV dc pm an cd ct,sl⟩)(c:lz K cd q=true)(k:bC K (.ref f)=true):
 Dm K C x q st ps f (aK x q (bF st) (Ž st) (Ā st) .none kV dc pm an cd ct):=
 have F:=Ef (st:=st) l c k
 ⟨F,F.binds λkV dc pm an cd ct us hl=>xQ (hb kV dc pm an cd ct) us hl⟩
end
def Nv{N ps:List Str}{sc:ý}(h1:sc.kind=.function:=by rfl)(h2:sc.isCoroutine=false:=by rfl)(h3:sc.isGenerator=false:=by rfl)(h4:N.Nodup:=by decide+kernel)(h5:N.take ps.length=ps:=by rfl)(h6:∀x∈ps,sc.names.lookup x=some .local\/sc.names.lookup x=some .cell:=by decide+kernel)
 (h7:∀y∈sc.names,y.2≠.free:=by decide+kernel):ż N ps sc:=⟨h1,h2,h3,h4,h5,h6,h7⟩
section
variable{X:Cx}{cm:String->À}{E:Ċ->XK}{CX:gJ}{k j n:Nat}{f:À}{fd:ĉ}{ps:List Str}{mf:MF}{mr:M (List Slot)}{x:Str}{st:ò}{p pos:Pos}{e:È}{es:List È}
def Hi(F:bO X.prog X.w X.K X.mg X.base CX k f fd ps (u_ (kk X cm) n mf))(D:Df X.K X.mg x st ps f fd)(hr:ϛ j X.A)(hx:cY CX X E)
 (ha:PA X (e::es) (tA (kk X cm) E mr))(hlen:∀{ps:List Slot},(∃r,mf ps=r/\∀z,r=z->z≠.bad)->ps.length=n:=by exact oA)(hg:Gl X x:=by kernel_rfl)(AJ:k<=j:=by decide)(pN:(x==("__debug__":Str))=false:=by kernel_rfl)(he:Ð (e::es) X.env=(false,eval e X.env)::Ð es X.env:=by exact ŋ rfl)(hpl:(Ć pos<|Ð es X.env).any (·.1)=false:=by kernel_rfl):
 PE X (.Call (.Name x p) (e::es) [] pos) (tO (kk X cm) E<|à mf mr):=J_ F hlen (hr.mono AJ) hg D.m D.F.kp D.b hx ha pN he hpl
end
section
variable{Pg:ë}{w:â}{K:Î}{mg:Str->Option Á}{base:Ñ}{CX:gJ}{cm:String->À}
def Kx{x ō:Str}{st:ò}{f:À}{fd:ĉ}{N ps:List Str}{k n j:Nat}{mb:M Fl}{mf:MF}(F:FN K x ō st f fd)(S:ż N ps (Ā st))
 (iU:∀(cdv:Á) (A:ì) (outer:List Env) (s:Ä) (H:Hp) (E:XK),ϛ k (A.deeper<|Ϗ ō (Ā st) s.heap.objs.size f cdv)→(A.deeper<|Ϗ ō (Ā st) s.heap.objs.size f cdv).units+64<Ź→
   dB (sO CX Pg w K mg base N ō (Ā st) f cdv A outer s H E) (Ž st) (tS ⟨K,cm⟩ (λ_=>E) mb))(hn:ps.length=n:=by rfl)(hj:N.length=j:=by rfl)(hf:mf=Ď n j mb:=by rfl):bO Pg w K mg base CX (k+1) f fd ps (u_ ⟨K,cm⟩ n mf):=
 Y_ F S hn hj hf λcdv A outer s H E hr=>iU cdv A outer s H E hr hr.units
end
noncomputable def Z_:È->List Str
 |.Name x _=>[x]|.Tuple es _ _=>es.flatMap fun e=>match e with
   |.Name x _=>[x]|_=>[]
 |_=>[]
def cN(X:Cx)(js:List Nat)(tg:È):List Str:=js.map (λ(j:Nat)=>(X.N[j]?).getD "")++Z_ tg
def ndB{l:List Str}(h:decide l.Nodup=true):l.Nodup:=of_decide_eq_true h
def frB{a b:ý}(h:(a.names.all λy=>decide<|y.2=.free->(b.names.lookup y.1=some .cell\/b.names.lookup y.1=some .free))=true):∀y∈a.names,y.2=.free->(b.names.lookup y.1=some .cell\/b.names.lookup y.1=some .free):=λy hy=>of_decide_eq_true<|bp.mp h y hy
def B7(K:Î):V->List V->Hp->VK->Prop:=λx vs H Q=>∃a xs y d es j,x=.ref a/\vs=[y]/\ϱ K H a xs/\Rp K H d y/\lN K H es xs/\d.canLay0=true/\d_ es=true/\d.depth<=60/\es.findIdx? (λe=>Ĭ e d)=some j/\Q (.int j) H
theorem B8{h:Ñ}{d:Ϥ}:∀{us:List Á}{es:List Ϥ}{as:List À},ReadsAll h us es as->d_ es=true->us.map (xO h d)=es.map λe=>Ĭ e d
 |_,_,_,.nil,_=>rfl|_,_,_,.cons r rs,hc=>by unfold d_ at hc;rw[Ă]at hc;rw[á,á,Aw r hc.1,B8 rs hc.2]
def ze{α β:Type}{p:α->Bool}{q:β->Bool}{l:List α}{m:List β}(h:l.map p=m.map q):l.findIdx? p=m.findIdx? q:=by
 have e1:(l.map p).findIdx? id=l.findIdx? p:=by rw[wb];rfl
 have e2:(m.map q).findIdx? id=m.findIdx? q:=by rw[wb];rfl
 rw[<-e1,<-e2,h]
section
variable{X:Cx}
def C6(hu:X.A.units+64<Ź):H_ X "list.index" (B7 X.K):=by
 intro Ç s c H x vs v us Q I rx rv h;obtain⟨a,xs,y,d,es,j,rfl,rfl,hq,h1,h3,h4,h5,h6,hj,q⟩:=h;cases rx;obtain⟨u,rfl,ru⟩:=rv.one;obtain⟨as,ra⟩:=Rp.reads I d y u h1 ru;have F8:X.A.in1.units+d.depth<Ź:=by have:X.A.in1.units=X.A.units+1:=rfl;lia
 obtain⟨ď,r,⟨o,n,e,hc,hdd,hd⟩,hz⟩:=I.list hq;obtain⟨bs,rb⟩:=lN.reads I es xs ď h3 r;have hf:ď.findIdx? (xO s.heap d)=some j:=by rw[ze<|B8 rb h5];exact hj
 obtain⟨mW,mX,hno⟩:=qO.mp hf;have ho:o={cls:=.type "list",dict:=o.dict,data:=.seq ď.toArray n,slots:=o.slots}:=by
  cases o
  simp_all
 rw[ho]at e;have hl:=r.length;refine li Bc ⟨_,e,rfl⟩ PySem.F.entry_list_index (PySem.F.args_list_index_2 _ _)
  (SeqAt.list_indexAt a ď.toArray n _ _ u (xO s.heap d) j (by simpa using mW) (by rw[Ĝ]at hz;lia) (by simpa using mX)<|λm hm hmj=>by simpa using hno m hmj) ⟨e,λw hw=>lE ra h4 F8 rb h5 w (by simpa using hw),?_⟩
 exact⟨.int j,H,I.kept (t':=s.toks+1) λb o e=>e,⟨_,rfl⟩,q⟩
end
noncomputable def sy:PV->List PV->Option PV
 |.lst ps,[p]=>if ŭ p&&ϻ ps&&decide (qh p<=60)then(ps.findIdx? λy=>aE y p).map λj=>.int (j:Nat)else none
 |_,_=>none
theorem zf{p:PV}(h:ŭ p=true):∀{ps:List PV},ϻ ps=true->(fU ps).map (λe=>Ĭ e<|ig p)=ps.map λy=>aE y p
 |[],_=>rfl|y::ps,hp=>by unfold ϻ at hp;rw[Ă]at hp;unfold fU;rw[á,á,s_ y p hp.1 h,zf h hp.2]
def C7{K:KK}:M6 K (B7 K.K) sy:=by
 intro c F H b U p ps pv v vs Q rel r1 r2 e k;unfold sy at e;split at e
 ·rename_i qs p;split at e
  ·rename_i hc;rw[Ă,Ă,decide_eq_true_eq]at hc;obtain⟨j,ej,rfl⟩:=fk.mp e;obtain⟨u,rfl,r3⟩:=ut r2;obtain⟨a,xs,rfl,h1,h2⟩:=r1.lst rel.sub;refine⟨a,xs,u,ig p,fU qs,j,rfl,rfl,h1,jB rel.sub hc.1.1 r3,lN.same rel.sub _ _<|jA qs xs hc.1.2 h2,gQ p hc.1.1,iB qs hc.1.2,by rw[gR];exact hc.2,?_,k _ F H rel č č Ĉ.int⟩;rw[ze<|zf hc.1.1 hc.1.2];exact ej
  ·cases e
 ·cases e
@[simp]def Wj(f:PV→List PV→Option PV)(mo:M PV)(ms:M (List PV))(U:ċ):ĳ PV:=(mo U).bind fun p U1=>match p with
  |.lst _=>(ms U1).bind λps U2=>ĳ.yJ (f p ps) U2
  |_=>.bad
section
variable{X:Cx}{cm:String->À}{E:Ċ->XK}{o e:È}{es:List È}{name:Str}{cB dq:Pos}{id:String}{r:V->List V->Hp->VK->Prop}{f:PV->List PV->Option PV}{mo:M PV}{ms:M (List PV)}
def Nw(pa:rn "list")(slot:wE "list" name id)(ke:typeOf (.builtin id)=ñ (.type "method_descriptor"))(hf:M6 (kk X cm) r f)(hm:H_ X id r)(ho:PE X o (tR (kk X cm) E mo))(ha:PA X (e::es) (EC (kk X cm) E ms))
 (iV:cS o name X.env (eval o X.env)=eval o X.env:=by kernel_rfl)
 (pO:((Ć dq<|Ð (e::es) X.env).all (fun x=>!x.1)&&(bv dq<|bz [] X.env).all (fun x=>x.1.isSome)
   &&decide ((e::es).length+([]:List ϣ).length+(if([]:List ϣ).isEmpty then 0 else 1)<30))=true:=by rfl)
 (iW:(cB.endLine==dq.line)=true:=by rfl)(hs:Ð (e::es) X.env=(false,eval e X.env)::Ð es X.env:=by exact ŋ rfl)(jQ:(Ć dq<|Ð es X.env).any (·.1)=false:=by kernel_rfl):
 PE X (.Call (.Attribute o name cB) (e::es) [] dq) (tV (kk X cm) E<|Wj f mo ms):=
 PE.wk (fQ pa slot ke hm ho ha iV pO iW hs jQ) fun b H Q ⟨c,F,U,rel,h⟩=>⟨c,F,U,rel,Ϸ.bind h fun p U1 v F1 H1 è _ _ r1 h1=>by
   cases p with
   |lst qs=>
    have r0:rR (kk X cm) c b U1 F1 H1 (.lst qs) v:=r1;obtain⟨a,xs,rfl,q1,q2⟩:=r0.lst è.sub;refine⟨.inl ⟨rfl,_,q1⟩,c,F1,U1,è,Ϸ.bind h1 λps U2 vs F2 H2 ę sF sH r2 h2=>?_⟩;cases ef:f (.lst qs) ps with
    |none=>rw[ef]at h2;exact h2.elim|some pv=>rw[ef]at h2;exact hf ę (r0.elim (λr=>.inl<|Ĉ.same sF _ _ r) λr=>.inr<|yK.mono r sF sH) r2 ef λz F' H' ž s1 s2 q'=>h2 z F' H' ž s1 s2 q'
   |_=>exact h1.elim⟩
end
section
variable{X:Cx}{cm:String->À}{E:Ċ->XK}{a b e:È}{es:List È}{ma mb m:M PV}{mo:M RV}{pos p:Pos}
def Ë{i j pos}:PE X (.Constant (.int i) j pos) (tR (kk X cm) E<|mC<|.int i):=ç đ
def oK{j pos}:PE X (.Constant .none j pos) (tR (kk X cm) E<|mC .non):=ç pU
def ϊ{x j pos}:PE X (.Constant (.str x) j pos) (tR (kk X cm) E<|mC<|.str x):=ç ſ
def ĩ(ha:PE X a (tR (kk X cm) E ma))(hb:PE X b (tR (kk X cm) E mb))(hs:si b:=by exact λ_ _=>rfl):PE X (.Subscript a b pos) (tV (kk X cm) E<|Ê ß ma mb):=Mz MK Mq ha hb hs
def û(ha:PE X a (tR (kk X cm) E ma))(hb:PE X b (tR (kk X cm) E mb))(hs:si b:=by exact λ_ _=>rfl):PE X (.Subscript a b pos) (tR (kk X cm) E<|Ê ß ma mb):=ç<|ĩ ha hb hs
def v_mod(ha:PE X a (tR (kk X cm) E ma))(hb:PE X b (tR (kk X cm) E mb)):PE X (.BinOp a .Mod b pos) (tV (kk X cm) E<|Ê Ļ ma mb):=iu J5 JM ha hb
def ų(ha:PE X a (tR (kk X cm) E ma))(hb:PE X b (tR (kk X cm) E mb)):PE X (.BinOp a .Mod b pos) (tR (kk X cm) E<|Ê Ļ ma mb):=ç<|v_mod ha hb
def v_mul(ha:PE X a (tR (kk X cm) E ma))(hb:PE X b (tR (kk X cm) E mb)):PE X (.BinOp a .Mult b pos) (tV (kk X cm) E<|Ê ó ma mb):=iu J6 GK ha hb
def Ń(ha:PE X a (tR (kk X cm) E ma))(hb:PE X b (tR (kk X cm) E mb)):PE X (.BinOp a .Mult b pos) (tR (kk X cm) E<|Ê ó ma mb):=ç<|v_mul ha hb
def v_sub(ha:PE X a (tR (kk X cm) E ma))(hb:PE X b (tR (kk X cm) E mb)):PE X (.BinOp a .Sub b pos) (tV (kk X cm) E<|Ê Œ ma mb):=iu J3 JJ ha hb
def oM(ha:PE X a (tR (kk X cm) E ma))(hb:PE X b (tR (kk X cm) E mb)):PE X (.BinOp a .Sub b pos) (tR (kk X cm) E<|Ê Œ ma mb):=ç<|v_sub ha hb
def zg(ha:PE X a (tR (kk X cm) E ma))(hb:PE X b (tR (kk X cm) E mb)):PE X (.BinOp a .FloorDiv b pos) (tV (kk X cm) E<|Ê eY ma mb):=iu J4 GA ha hb
def vv(ha:PE X a (tR (kk X cm) E ma))(hb:PE X b (tR (kk X cm) E mb)):PE X (.BinOp a .FloorDiv b pos) (tR (kk X cm) E<|Ê eY ma mb):=ç<|zg ha hb
def kF(ha:PE X a (tR (kk X cm) E ma))(hb:PE X b (tR (kk X cm) E mb)):PE X (.BinOp a .Add b pos) (tO (kk X cm) E<|Ą ü ma mb):=Mx J2 J1 ha hb
def v_add(ha:PE X a (tR (kk X cm) E ma))(hb:PE X b (tR (kk X cm) E mb)):PE X (.BinOp a .Add b pos) (tV (kk X cm) E<|Ý<|Ą ü ma mb):=î<|kF ha hb
def eZ(ha:PE X a (tR (kk X cm) E ma))(hb:PE X b (tR (kk X cm) E mb)):PE X (.BinOp a .Add b pos) (tR (kk X cm) E<|Ý<|Ą ü ma mb):=ç<|v_add ha hb
def du(hu:X.A.units+64<Ź)(ha:PE X a (tR (kk X cm) E ma))(hb:PE X b (tR (kk X cm) E mb)):PT X (.Compare a [.Eq] [b] pos) (tB (kk X cm) E<|ϯ<|Ê ŉ ma mb):=ϳ Io (Eo hu) ha hb<|ĸ _
def jE(hu:X.A.units+64<Ź)(ha:PE X a (tR (kk X cm) E ma))(hb:PE X b (tR (kk X cm) E mb)):PT X (.Compare a [.NotEq] [b] pos) (tB (kk X cm) E<|ϯ<|Ê ϲ ma mb):=ϳ ET (Ac hu) ha hb<|ĸ _
def v_eq(hu:X.A.units+64<Ź)(ha:PE X a (tR (kk X cm) E ma))(hb:PE X b (tR (kk X cm) E mb)):PE X (.Compare a [.Eq] [b] pos) (tV (kk X cm) E<|Ê ŉ ma mb):=iw Io (Eo hu) ha hb<|ĸ _
def ė(he:PE X e (tO (kk X cm) E mo)):dB X [.Return (some e) pos] (tS (kk X cm) E<|ú mo):=ô<|MD he
def ĥ(he:PE X e (tV (kk X cm) E m)):dB X [.Return (some e) pos] (tS (kk X cm) E<|ú<|Ķ m):=ė<|ś he
def xR{N ps:List Str}{sc:ý}{i:Nat}{x:Str}{cA:Pos}(S:ż N ps sc)(he:PE X e (tO (kk X cm) E mo))(hN:X.N=N:=by rfl)(hi:X.N[i]?=some x:=by kernel_rfl)(hx:Loc X.env.scope x:=by exact xh<|by kernel_rfl)(hs:ū e (some<|.Name x cA) pos.line X.env=ñ false:=by kernel_rfl)(hf:X.fn x=true\/X.env.scope.names.lookup x=some .local:=by first|exact .inl rfl|exact .inr rfl|assumption):
 PS X (.Assign [.Name x cA] e pos) (tS (kk X cm) E<|ć i mo):=MC (hN▸S.nd) hi hx he hs hf
def Ė{N ps:List Str}{sc:ý}{i:Nat}{x:Str}{cA:Pos}{rest:List ò}{m2:M Fl}(S:ż N ps sc)(he:PE X e (tO (kk X cm) E mo))(h2:dB X rest (tS (kk X cm) E m2))(hN:X.N=N:=by rfl)(hi:X.N[i]?=some x:=by kernel_rfl)(hx:Loc X.env.scope x:=by exact xh<|by kernel_rfl)(hs:ū e (some<|.Name x cA) pos.line X.env=ñ false:=by kernel_rfl)(hf:X.fn x=true\/X.env.scope.names.lookup x=some .local:=by first|exact .inl rfl|exact .inr rfl|assumption):
 dB X (.Assign [.Name x cA] e pos::rest) (tS (kk X cm) E<|æ (ć i mo) m2):=Ö (xR S he hN hi hx hs hf) h2
def Ŋ{N ps:List Str}{sc:ý}{i:Nat}{x:Str}(S:ż N ps sc)(hN:X.N=N:=by rfl)(hi:X.N[i]?=some x:=by kernel_rfl)(hx:Loc X.env.scope x:=by exact xh<|by kernel_rfl)(hf:X.fn x=true\/X.env.scope.names.lookup x=some .local:=by first|exact .inl rfl|exact .inr rfl|assumption):PG X (.Name x pos) (tT (kk X cm)<|gN i):=EG (hN▸S.nd) hi hx hf
def ϓ{i:Nat}{x:Str}(hN:X.N.Nodup:=by exact ndB<|by kernel_rfl)(hi:X.N[i]?=some x:=by kernel_rfl)(hx:Loc X.env.scope x:=by exact xh<|by kernel_rfl)(hf:X.fn x=true\/X.env.scope.names.lookup x=some .local:=by first|exact .inl rfl|exact .inr rfl):PG X (.Name x pos) (tT (kk X cm)<|gN i):=EG hN hi hx hf
def Õ(i:Nat){x:Str}{px:Pos}{ms:M (List Slot)}(hr:PA X es (tA (kk X cm) E ms))(hk:Cw X i x=true:=by kernel_rfl)(hs:Ð (.Name x px::es) X.env=(false,eval (.Name x px) X.env)::Ð es X.env:=by exact ŋ rfl):PA X (.Name x px::es) (tA (kk X cm) E<|Í i ms):=GN i hk hr hs
def Ŀ{id:String}{x:Str}{r:List V->Hp->VK->Prop}{f:List PV->Option PV}{mr:M (List PV)}(hc:ő X (.builtin id) r)(hf:dG (kk X cm) r f)(hm:X.mg x=none)(hv:fu x=some (.builtin id))(ha:PA X (e::es) (EC (kk X cm) E mr))(hg:Gl X x:=by kernel_rfl)(hn:x≠"__name__":=by decide)(pN:(x==("__debug__":Str))=false:=by kernel_rfl)
 (he:Ð (e::es) X.env=(false,eval e X.env)::Ð es X.env:=by rfl)(hpl:(Ć pos<|Ð es X.env).any (·.1)=false:=by kernel_rfl):PE X (.Call (.Name x p) (e::es) [] pos) (tV (kk X cm) E<|Ϲ f mr):=PE.wk (sP hc hg hm hv ha hn pN he hpl) λ_ _ _ h=>MB hf h
def tM{T:String}{x:Str}{r:List V->Hp->VK->Prop}{f:List PV->Option PV}{mr:M (List PV)}(hc:ő X (.type T) r)(hf:dG (kk X cm) r f)(hm:X.mg x=none)(hv:fu x=some (.type T))(ha:PA X (e::es) (EC (kk X cm) E mr))(hg:Gl X x:=by kernel_rfl)(hn:x≠"__name__":=by decide)(pN:(x==("__debug__":Str))=false:=by kernel_rfl)
 (he:Ð (e::es) X.env=(false,eval e X.env)::Ð es X.env:=by rfl)(hpl:(Ć pos<|Ð es X.env).any (·.1)=false:=by kernel_rfl):PE X (.Call (.Name x p) (e::es) [] pos) (tV (kk X cm) E<|Ϲ f mr):=PE.wk (uQ hc hg hm hv ha hn pN he hpl) λ_ _ _ h=>MB hf h
def uE{T:String}{x:Str}{r:List V->Hp->VK->Prop}{f:List PV->Option RV}{mr:M (List PV)}(hc:ő X (.type T) r)(hf:EE (kk X cm) r f)(hm:X.mg x=none)(hv:fu x=some (.type T))(ha:PA X (e::es) (EC (kk X cm) E mr))(hg:Gl X x:=by kernel_rfl)(hn:x≠"__name__":=by decide)(pN:(x==("__debug__":Str))=false:=by kernel_rfl)
 (he:Ð (e::es) X.env=(false,eval e X.env)::Ð es X.env:=by rfl)(hpl:(Ć pos<|Ð es X.env).any (·.1)=false:=by kernel_rfl):PE X (.Call (.Name x p) (e::es) [] pos) (tO (kk X cm) E<|xD f mr):=PE.wk (uQ hc hg hm hv ha hn pN he hpl) λ_ _ _ h=>RZ hf h
end
section
variable{X:Cx}{cm:String->À}{E:Ċ->XK}{elt tg iter:È}{ifs:List È}{scope:ý}{pos:Pos}{mi:M (List PV)}{g:Tg}{mt:M Bool}{me:M PV}{js:List Nat}{nl:Nat}
structure CF(X:Cx)(js:List Nat)(nl:Nat)(tg iter:È)(scope:ý):Prop where
 hcap:ki X.ϧ X.env.scope scope (cN X js tg) js
 hcalm:X.calm=true
 hlen:js.length+nl=(cN X js tg).length
 hk:scope.kind=.function
 hcell:∀y∈scope.names,y.2=.cell->scope.names.lookup y.1=some .cell
 hnames:∀y∈scope.names,y.2=.local->scope.names.lookup y.1=some .local
 hfree:∀y∈scope.names,y.2=.free->(X.env.scope.names.lookup y.1=some .cell\/X.env.scope.names.lookup y.1=some .free)
 hs:∀x,cR iter X.env x=ñ x
def cf(hcap:ki X.ϧ X.env.scope scope (cN X js tg) js:=by repeat' first|exact True.intro|refine⟨rfl,⟨rfl,by first|exact aI rfl|exact jd rfl⟩,?_⟩)(hcalm:X.calm=true:=by rfl)(hlen:js.length+nl=(cN X js tg).length:=by rfl)
 (hk:scope.kind=.function:=by rfl)(hcell:∀y∈scope.names,y.2=.cell->scope.names.lookup y.1=some .cell:=by decide+kernel)(hnames:∀y∈scope.names,y.2=.local->scope.names.lookup y.1=some .local:=by decide+kernel)
 (hfree:∀y∈scope.names,y.2=.free->(X.env.scope.names.lookup y.1=some .cell\/X.env.scope.names.lookup y.1=some .free):=by exact frB<|by kernel_rfl)(hs:∀x,cR iter X.env x=ñ x:=by intro _;rfl):CF X js nl tg iter scope:=⟨hcap,hcalm,hlen,hk,hcell,hnames,hfree,hs⟩
def Tp(hi:PI X.ϧ tg iter (tG (kk X cm) E (EJ<|kk X cm) mi))(hg:∀{cl C s H fp},PG (im X.ϧ (cN X js tg) scope cl C s H fp) tg<|tT (kk X cm) g)(ht:∀{cl C s H fp},Du (im X.ϧ (cN X js tg) scope cl C s H fp) ifs<|tB (kk X cm) EF mt)(he:∀{cl C s H fp},PE (im X.ϧ (cN X js tg) scope cl C s H fp) elt<|tV (kk X cm) EF me)(h:CF X js nl tg iter scope:=by exact cf):
 PE X (.ListComp elt [⟨tg,iter,ifs,0⟩] scope pos) (tO (kk X cm) E<|ģ js nl mi g mt me):=GU (cN X js tg) js nl X.env.scope rfl h.hcalm hi (λ_ _ _ _ _=>hg) (λ_ _ _ _ _=>ht) (λ_ _ _ _ _=>he) h.hcap h.hlen h.hk h.hcell h.hnames h.hfree h.hs
def bR(hi:PI X.ϧ tg iter (tI (kk X cm) E mi))(hg:∀{cl C s H fp},PG (im X.ϧ (cN X js tg) scope cl C s H fp) tg<|tT (kk X cm) g)(ht:∀{cl C s H fp},Du (im X.ϧ (cN X js tg) scope cl C s H fp) ifs<|tB (kk X cm) EF mt)(he:∀{cl C s H fp},PE (im X.ϧ (cN X js tg) scope cl C s H fp) elt<|tV (kk X cm) EF me)(h:CF X js nl tg iter scope:=by exact cf):
 PE X (.ListComp elt [⟨tg,iter,ifs,0⟩] scope pos) (tO (kk X cm) E<|ģ js nl mi g mt me):=Tp (Ih hi) hg ht he h
def Fh{N ps:List Str}{sc:ý}{i:Nat}{y:Str}{py zx:Pos}(S:ż N ps sc)(hi:PI X.ϧ tg iter (tI (kk X cm) E mi))(hg:∀{cl C s H fp},PG (im X.ϧ (cN X js tg) scope cl C s H fp) tg<|tT (kk X cm) g)(ht:∀{cl C s H fp},Du (im X.ϧ (cN X js tg) scope cl C s H fp) ifs<|tB (kk X cm) EF mt)(he:∀{cl C s H fp},PE (im X.ϧ (cN X js tg) scope cl C s H fp) elt<|tV (kk X cm) EF me)
 (h:CF X js nl tg iter scope:=by exact cf)(hN:X.N=N:=by rfl)(Vj:X.N[i]?=some y:=by kernel_rfl)(hy:X.env.scope.names.lookup y=some .local:=by rfl)(OI:ū (.ListComp elt [⟨tg,iter,ifs,0⟩] scope pos) (some<|.Name y py) zx.line X.env=ñ true:=by rfl):
 PS X (.Assign [.Name y py] (.ListComp elt [⟨tg,iter,ifs,0⟩] scope pos) zx) (tS (kk X cm) E<|ć i<|ģ js nl mi g mt me):=Kj (hN▸S.nd) Vj hy (cN X js tg) js nl X.env.scope rfl h.hcalm hi (λ_ _ _ _ _=>hg) (λ_ _ _ _ _=>ht) (λ_ _ _ _ _=>he) h.hcap h.hlen h.hk h.hcell h.hnames h.hfree h.hs OI
end
end P
namespace M5
open PySem PySem.Spec PyProof.Rows L2 M2 M3
end M5
namespace P
open PySem PySem.Spec PyProof.Rows L2 M2 M3 M5
end P
namespace PySem
namespace F
end F
end PySem
namespace P
open PySem PySem.Spec PyProof.Rows L2 M2 M3 M4
section
variable{α:Type}{RI:Lo α}{X:Cx}{cm:String->À}{E:Ċ->XK}{elt tg iter:È}{ifs:List È}{scope:ý}{pos:Pos}{mi:M (List α)}{g:α->ċ->Option ċ}{mt:M Bool}{me:M PV}
def C8{js:List Nat}{nl:Nat}{a:Ċ}{H:Hp}{Q:VK}(h:tO (kk X cm) E (ģ js nl mi g mt me) a H Q):uV js nl (tG (kk X cm) E (GR (kk X cm) RI) mi) (Pb (kk X cm) RI g) (tB (kk X cm) EF mt) (tV (kk X cm) EF me) a H Q:=vb (λh=>h) h
def B9(N':List Str)(js:List Nat)(nl:Nat)(sc:ý)(AI:X.env.scope=sc)(hcalm:X.calm=true)
 (hi:PI X.ϧ tg iter (tG (kk X cm) E (GR (kk X cm) RI) mi))(hg:∀cl C s H fp,PG (im X.ϧ N' scope cl C s H fp) tg<|Pb (kk X cm) RI g)(ht:∀cl C s H fp,Du (im X.ϧ N' scope cl C s H fp) ifs<|tB (kk X cm) EF mt)(he:∀cl C s H fp,PE (im X.ϧ N' scope cl C s H fp) elt<|tV (kk X cm) EF me)
 (hcap:ki X.ϧ sc scope N' js)(hlen:js.length+nl=N'.length:=by rfl)
 (hk:scope.kind=.function:=by rfl)(hcell:∀y∈scope.names,y.2=.cell->scope.names.lookup y.1=some .cell:=by decide+kernel)(hnames:∀y∈scope.names,y.2=.local->scope.names.lookup y.1=some .local:=by decide+kernel)
 (hfree:∀y∈scope.names,y.2=.free->(sc.names.lookup y.1=some .cell\/sc.names.lookup y.1=some .free):=by decide+kernel)
 (hs:∀x,cR iter X.env x=ñ x:=by intro _;rfl):
 PE X (.ListComp elt [⟨tg,iter,ifs,0⟩] scope pos) (tO (kk X cm) E<|ģ js nl mi g mt me):=
 PE.wk (PE.ϧ<|BC N' js nl sc AI hcalm hi hg ht he hcap hlen hk hcell hnames hfree hs) λ_ _ _ h=>C8 h
end
def Ny(K:KK):Lo (List PV×List PV):=λc F d v=>∃t xs b vs,v=.ref t/\F t=some (.tup<|xs++[.ref b])/\é K F d.1 xs/\c.L b=some (.lst vs)/\é K F d.2 vs
def pG(i:Nat):M (List<|List PV×List PV):=λU=>match U[i]?with
 |some (.dw gL)=>.ok gL U|_=>.bad
section
variable{X:Cx}{cm:String->À}{E:Ċ->XK}{tg:È}
def Nz(i:Nat){x:Str}{px:Pos}(hk:Cw X i x=true:=by kernel_rfl):PI X tg (.Name x px) (tG (kk X cm) E (GR (kk X cm)<|Ny<|kk X cm)<|pG i):=λÇ s f H R I h=>by
 obtain⟨c,F,U,rel,h⟩:=h;unfold pG at h;cases e:U[i]?with
 |none=>rw[e]at h;exact h.elim|some sl=>
  rw[e]at h;cases sl with
  |dw gL=>
   obtain⟨a,ts,h1,h2,h3⟩:=rel.slot i _ e;refine Ah (lM hk) Ç s f H R I ⟨.ref a,ň h1,.inl ⟨a,rfl,⟨_,ϱ.of (rel.lent a _ h2).1⟩,h _ F H rel č č ?_⟩⟩;intro c' j F2 H2 g U2 ę sF sL sc;have hq:ϱ X.K H2 a (ts.map V.ref):=ϱ.of<|sL a _<|EK rel h2;refine⟨λd hp=>?_,λhi=>⟨_,hq,by rw[hi,ħ,Paired.length h3];exact ø _⟩⟩;obtain⟨t,ht,xs,b,vs,k1,k2,k3,k4⟩:=BD h3 hp;have hu:(ts.map V.ref)[j]?=some (.ref t):=by rw[ŗ,ht];rfl
   refine⟨⟨_,.ref t,hq,hu⟩,λx H' zz=>?_⟩;obtain⟨hH,hx⟩:=zz;subst hH;have:(ts.map V.ref)[j]?=some x:=hx _ hq;rw[hu]at this;cases this;exact⟨F2,ę,Þ.refl _,Þ.refl _,t,xs,b,vs,rfl,sF _ _ k1,k2.same sF d.1 xs,sc _ _<|EK rel k3,k4.same sF d.2 vs⟩
  |_=>exact h.elim
noncomputable def gD(i j k:Nat):(List PV×List PV)->ċ->Option ċ:=λd U=>match d with
 |([p,q],qs)=>some<|((U.set i<|.sh p).set j (.sh q)).set k (.bw qs)|_=>none
def NA{i j k:Nat}{x y z:Str}{px py pz pos:Pos}{n:Nat}(hc:X.calm=true)(hN:X.N.Nodup)(hi:X.N[i]?=some x)(hj:X.N[j]?=some y)(hk:X.N[k]?=some z)(hx:Loc X.env.scope x)(hy:Loc X.env.scope y)(hz:Loc X.env.scope z)
 (fx:X.fn x=true\/X.env.scope.names.lookup x=some .local:=by first|exact .inl rfl|exact .inr rfl)(fy:X.fn y=true\/X.env.scope.names.lookup y=some .local:=by first|exact .inl rfl|exact .inr rfl)(fz:X.fn z=true\/X.env.scope.names.lookup z=some .local:=by first|exact .inl rfl|exact .inr rfl):
 PG X (.Tuple [.Name x px,.Name y py,.Name z pz] n pos) (Pb (kk X cm) (Ny<|kk X cm)<|gD i j k):=
 PG.R_ (xm hc (ip (lB hN hi hx fx) (ip (lB hN hj hy fy) (ip (lB hN hk hz fz) xl rfl) rfl) rfl) rfl rfl)<|by
   rintro v a H Q ⟨c,F,U,d,rel,⟨t,xs,b,vs,hv,k1,k2,k3,k4⟩,h⟩;subst hv;obtain⟨ps,qs⟩:=d;unfold gD at h;rcases ps with _|⟨p,_|⟨q,_|⟨_,_⟩⟩⟩
   ·exact h.elim
   ·exact h.elim
   ·skip
    unfold é at k2;obtain⟨u,r,rfl,r1,k2⟩:=k2;unfold é at k2;obtain⟨w,r',rfl,r2,k2⟩:=k2;unfold é at k2;subst k2;refine⟨t,_,rfl,fL.of<|rel.sub _ _ k1,rfl,u,_,rfl,w,_,rfl,.ref b,_,rfl,rfl,?_⟩;have e1:=rel.put (i:=i) (x:=some u) (s:=.sh p) rfl ⟨u,rfl,r1⟩;have e2:=e1.put (i:=j) (x:=some w) (s:=.sh q) rfl ⟨w,rfl,r2⟩;exact h _<|e2.put (i:=k) (x:=some<|.ref b) (s:=.bw qs) rfl ⟨b,vs,rfl,k3,k4⟩
   ·exact h.elim
end
open M5
noncomputable def Qb(r:PV):Slot:=.dw [([.str "ab",.int 3],[r,.non]),([.str "a",.int 1],[.non])]
def iF{F:Hp}{b:Ċ}{U:ċ}{a:À}{i:Nat}{x:Option V}{s:Slot}(hs:s.own=false)(h:ir F b U a):ir F (b.set i x) (U.set i s) a:=λj q=>by
 have hj:j≠i:=λz=>by
  subst z;obtain⟨s',y,q1,_,q2⟩:=q;rcases ϶ q1 with⟨_,rfl,_⟩|⟨q,_⟩
  ·have:=mF q2;rw[hs]at this;cases this
  ·exact q rfl
 exact h j<|q.off hj
def Ky(i:Nat)(U:ċ):Bool:=match U[i]?with
 |some (.dw _)=>true|_=>false
def Qc(b:ċ->Bool)(m1 m2:M RV):M RV:=λU=>if b U=true then m1 U else m2 U
def Tq{X:Cx}{cm:String->À}{E:Ċ->XK}{e:È}{m1 m2:M RV}(b:ċ->Bool)(h1:PE X e (tO (kk X cm) E m1))(h2:PE X e (tO (kk X cm) E m2)):PE X e (tO (kk X cm) E<|Qc b m1 m2):=by
 rintro Ç s a H Q I ⟨c,F,U,rel,h⟩;unfold Qc at h;split at h
 ·exact h1 Ç s a H Q I ⟨c,F,U,rel,h⟩
 ·exact h2 Ç s a H Q I ⟨c,F,U,rel,h⟩
inductive WR where
 |t (i:Nat) (p:PV)|d (i:Nat) (ps:List PV)|l (i:Nat) (p:PV)
def WR.ix:WR->Nat
 |.t i _=>i|.d i _=>i|.l i _=>i
noncomputable def WR.to(j:Nat):WR->WR
 |.t _ p=>.t j p|.d _ ps=>.d j ps|.l _ p=>.l j p
def pd(a:Ċ)(i:Nat):Option V:=(a[i]?).getD none
def zh(K:KK)(L B F' H':Hp)(o:Option V)(H2:Hp):WR->Prop
 |.t _ p=>∃a vs v,o=some (.ref a)/\L a=some (.lst vs)/\Ĉ K F' p v/\vs.length<sizeLine/\H2=upd H' a (.lst<|vs++[v])|.d _ ps=>∃a us t xs b,o=some (.ref a)/\L a=some (.lst us)/\F' t=some (.tup<|xs++[.ref b])/\é K F' ps xs/\H' b=some (.lst [])/\F' b=none/\B b=none/\H2=upd H' a (.lst<|us++[.ref t])|.l _ p=>∃a us t xs b vs v,o=some (.ref a)/\L a=some (.lst<|us++[.ref t])/\F' t=some (.tup<|xs++[.ref b])/\L b=some (.lst vs)/\Ĉ K F' p v/\H2=upd H' b (.lst<|vs++[v])
theorem zh.to{K:KK}{L B F' H':Hp}{o:Option V}{H2:Hp}{w:WR}{j:Nat}(h:zh K L B F' H' o H2 w):zh K L B F' H' o H2 (w.to j):=by cases w<;>exact h
def Ix{w:WR}{j:Nat}:(w.to j).ix=j:=by cases w<;>rfl
def kG(K:KK)(E:Ċ->XK)(c:Ctx)(F:Hp)(b:Ċ)(n:Nat)(D:Ends):ĳ WR->Prop
 |.ok w U'=>∀a F' H' H2,ĝ K c F' H' a U'->Þ F F'->(∀i,i<n->pd a i=pd b i)->zh K c.L c.B F' H' (pd a w.ix) H2 w->D.nx a H2|.exc x U'=>∀a C d F' H',ĝ K c F' H' a U'->Þ F F'->CU K F' x C d->E a C d H'|.bad=>False
def tW(K:KK)(E:Ċ->XK)(n:Nat)(m:M WR):TS:=λD a H=>∃c F U,ĝ K c F H a U/\kG K E c F a n D (m U)
section
variable{K:KK}{E:Ċ->XK}{c:Ctx}{F F1:Hp}{σ:Ċ}{n:Nat}{D:Ends}
def kG.mono{r:ĳ WR}(h:kG K E c F σ n D r)(sF:Þ F F1):kG K E c F1 σ n D r:=by
 cases r with
 |ok w U'=>exact λa F' H' H2 rel s1 e q=>h a F' H' H2 rel (sF.trans s1) e q
 |exc x U'=>exact λa C d F' H' rel s1 q=>h a C d F' H' rel (sF.trans s1) q
 |bad=>exact h
theorem kG.bind{α β:Type}{R:RR α β}{H:Hp}{Q:β->Hp->Prop}{r:ĳ α}{f:α->ċ->ĳ WR}(h:kG K E c F σ n D (r.bind f))
 (k:∀p U1 v F1 H1,ĝ K c F1 H1 σ U1->Þ F F1->Þ H H1->R c σ U1 F1 H1 p v->kG K E c F1 σ n D (f p U1)->Q v H1):Ϸ K E R c F H σ Q r:=by
 cases r with
 |ok p U'=>exact λv F' H' rel s1 s2 q=>k p U' v F' H' rel s1 s2 q<|kG.mono (show kG K E c F σ n D (f p U')from h) s1
 |exc x U'=>exact λC d F' H' rel s1 q=>h σ C d F' H' rel s1 q
 |bad=>exact h
end
section
variable{X:Cx}{cm:String->À}{E:Ċ->XK}{a e:È}{pos:Pos}{n:Nat}{mt:M Bool}{mo:M RV}{me:M PV}{mb:M Fl}{mr m1 m2:M WR}{ss rest Oy:List ò}
@[simp]def tN(mt:M Bool)(mb:M Fl)(mr:M WR)(U:ċ):ĳ WR:=(mt U).bind fun b U1=>if b=true then(match mb U1 with
  |.exc x U2=>.exc x U2|_=>.bad)else mr U1
def sA(hc:PT X a (tB (kk X cm) E mt))(hb:dB X ss (tS (kk X cm) E mb))(hr:dB X rest (tW (kk X cm) E n mr)):dB X (.If a ss [] pos::rest) (tW (kk X cm) E n<|tN mt mb mr):=
 dB.wk (io (DM hc hb Bs) hr) λD d H ⟨c,F,U,rel,h⟩=>⟨c,F,U,rel,kG.bind h λb U1 v F1 H1 è s1 _ q h1=>by
  have e:b=v:=q;subst e;cases b with
  |true=>
   rw[if_pos rfl]at h1⊢;refine⟨c,F1,U1,è,?_⟩;cases em:mb U1 with
   |exc x U2=>rw[em]at h1;exact h1|ok f U2=>rw[em]at h1;exact h1.elim|bad=>rw[em]at h1;exact h1.elim
  |false=>rw[if_neg bZ]at h1⊢;exact⟨c,F1,U1,è,h1⟩⟩
@[simp]def Kz(mt:M Bool)(m1 m2:M WR)(U:ċ):ĳ WR:=(mt U).bind λb U1=>if b=true then m1 U1 else m2 U1
def NB(hc:PT X a (tB (kk X cm) E mt))(h1:dB X ss (tW (kk X cm) E n m1))(h2:dB X Oy (tW (kk X cm) E n m2)):dB X [.If a ss Oy pos] (tW (kk X cm) E n<|Kz mt m1 m2):=
 dB.wk (jq<|DM hc h1 h2) λD d H ⟨c,F,U,rel,h⟩=>⟨c,F,U,rel,kG.bind h λb U1 v F1 H1 è s1 _ q h1=>by
  have e:b=v:=q;subst e;cases b with
  |true=>rw[if_pos rfl]at h1⊢;exact⟨c,F1,U1,è,h1⟩|false=>rw[if_neg bZ]at h1⊢;exact⟨c,F1,U1,è,h1⟩⟩
def sB{b:Ċ}{i j:Nat}{v:Option V}(h:i≠j):pd (b.set j v) i=pd b i:=by unfold pd;rw[i_<|Ē h]
@[simp]def Iy(i:Nat)(mo:M RV)(mr:M WR)(U:ċ):ĳ WR:=(mo U).bind λr U1=>mr<|U1.set i r.slot
def kG.set{K:KK}{E:Ċ->XK}{c:Ctx}{F:Hp}{f b:Ċ}{D:Ends}{r:ĳ WR}(hs:∀i,i<n->pd b i=pd f i)(h:kG K E c F f n D r):kG K E c F b n D r:=by
 cases r with
 |ok w U'=>exact λd F' H' H2 rel s1 e q=>h d F' H' H2 rel s1 (λi hi=>(e i hi).trans (hs i hi)) q
 |exc x U'=>exact h|bad=>exact h
def NC{i:Nat}{x:Str}{cA:Pos}(hN:X.N.Nodup)(hi:X.N[i]?=some x)(hx:Loc X.env.scope x)(he:PE X e (tO (kk X cm) E mo))(hr:dB X rest (tW (kk X cm) E n mr))(hn:n<=i:=by decide)(hs:ū e (some<|.Name x cA) pos.line X.env=ñ false:=by kernel_rfl)(hf:X.fn x=true\/X.env.scope.names.lookup x=some .local:=by first|exact .inl rfl|exact .inr rfl|assumption):
 dB X (.Assign [.Name x cA] e pos::rest) (tW (kk X cm) E n<|Iy i mo mr):=dB.wk (io (xn hN hi hx he hs hf) hr) λD b H ⟨c,F,U,rel,h⟩=>⟨c,F,U,rel,kG.bind h λr U1 v F1 H1 è s1 _ q h1=>by
 have h2:kG (kk X cm) E c F1 (b.set i<|some v) n D (mr<|U1.set i r.slot):=kG.set (λj hj=>sB<|by lia) h1;cases r with
 |sh p=>exact⟨c,F1,_,è.put (s:=.sh p) rfl ⟨v,rfl,q⟩,h2⟩|ow ps=>obtain⟨a,vs,rfl,q1,q2,q3,q4,q5⟩:=q;exact⟨c,F1,_,è.CT (s:=.ow ps) ⟨a,vs,rfl,q1,q2,q3,q5⟩ λ_ z=>V.ref.inj z▸q4,h2⟩
 |ot ps qs rs=>obtain⟨p,a,xs,vs,ys,rfl,q0,qx,q1,q2,q3,q4,q5,q6⟩:=q;exact⟨c,F1,_,è.CT (s:=.ot ps qs rs) ⟨p,a,xs,vs,ys,rfl,q0,qx,q1,q2,q3,q5,q6⟩ λ_ z=>om (ps:=ps) (qs:=qs) (rs:=rs) z ⟨p,xs,ys,rfl,q0,qx.length.symm⟩▸q4,h2⟩
 |bn t ps qs rows=>exact⟨c,F1,_,è.JY q,h2⟩⟩
def xS{b:Ċ}{i:Nat}{v:V}(h:b[i]?=some (some v)):pd b i=some v:=by unfold pd;rw[h];rfl
def zi(i:Nat)(me:M PV):M WR:=λU=>match U[i]?with
 |some (.bw _)=>(me U).bind λp U1=>match U1[i]?with
  |some (.bw ps)=>if ps.length<16777216then .ok (.t i p) U1 else .bad|_=>.bad
 |_=>.bad
def Fi{i:Nat}{D:Ends}{b:Ċ}{H:Hp}(h:tW (kk X cm) E n (zi i me) D b H):sJ (Lj X.K "list" oi (jm i) (tL (kk X cm) E<|É me ã)) D b H:=by
 obtain⟨c,F,U,rel,h⟩:=h;unfold zi at h;cases e1:U[i]?with
 |none=>rw[e1]at h;exact h.elim|some sl=>
  rw[e1]at h;cases sl with
  |bw R0=>
   obtain⟨a,R1,z1,z2,z3⟩:=rel.slot i _ e1;refine⟨.ref a,ň z1,.inl ⟨rfl,_,ϱ.of (rel.lent a _ z2).1⟩,c,F,U,rel,?_⟩;dsimp only at h;unfold É;cases em:me U with
   |bad=>rw[em]at h;exact h|exc x U1=>rw[em]at h;exact λC d F' H' ž s1 q=>h b C d F' H' ž s1 q
   |ok p U1=>
    rw[em]at h;intro us F1 H1 è s1 s2 r1;have sE:é (kk X cm) F1 [p] us:=r1;cases sE.pr with
    |cons rp t=>
     rename_i v yu;cases t;cases e2:U1[i]?with
     |none=>simp only[ĳ.aL,e2]at h;exact h.elim|some Dp=>
      simp only[ĳ.aL,e2]at h;cases Dp with
      |bw ps=>
       obtain⟨a2,vs,w1,w2,w5⟩:=è.slot i _ e2;rw[z1]at w1;cases w1;dsimp only at h;split at h
       ·rename_i hz;have hl:vs.length<sizeLine:=by rw[<-w5.length,Ĝ];exact hz
        exact⟨a,vs,v,rfl,rfl,(è.lent a _ w2).1,hl,h b F1 H1 _ è s1 (λ_ _=>rfl) ⟨a,vs,v,xS<|ň z1,w2,rp,hl,rfl⟩⟩
       ·exact h.elim
      |_=>exact h.elim
  |_=>exact h.elim
def KA{i:Nat}{x:Str}{px ap cp:Pos}(ho:PE X (.Name x px) (jm i))(he:PE X e (tV (kk X cm) E me))(iV:cS (.Name x px) "append" X.env (eval (.Name x px) X.env)=eval (.Name x px) X.env:=by kernel_rfl)
 (pO:((Ć cp<|Ð [e] X.env).all (λx=>!x.1)&&(bv cp<|bz [] X.env).all (λx=>x.1.isSome)&&decide ([e].length+([]:List ϣ).length+(if([]:List ϣ).isEmpty then 0 else 1)<30))=true:=by rfl)
 (iW:(ap.endLine==cp.line)=true:=by rfl)(mZ:Ð [e] X.env=(false,eval e X.env)::Ð [] X.env:=by exact ŋ rfl)(hpl:(Ć cp<|Ð [] X.env).any (·.1)=false:=by kernel_rfl)(hs:ū (.Call (.Attribute (.Name x px) "append" ap) [e] [] cp) none pos.line X.env=ñ false:=by kernel_rfl):
 dB X [.Expr (.Call (.Attribute (.Name x px) "append" ap) [e] [] cp) pos] (tW (kk X cm) E n<|zi i me):=
 dB.wk (jq<|ϵ (fQ bB cV dY ϩ ho (Ì he í mZ) iV pO iW mZ hpl) hs) λ_ _ _ h=>Fi h
noncomputable def zj(i j:Nat):M WR:=λU=>match U[i]?,U[j]?with
 |some (.dw gL),some (.ot ps [] [])=>if gL.length<16777216then .ok (.d i ps) (U.set j .no)else .bad|_,_=>.bad
def Fj{i j:Nat}{D:Ends}{d:Ċ}{H:Hp}(h:tW (kk X cm) E n (zj i j) D d H):sJ (Lj X.K "list" oi (jm i) (D6 (jm j) D5)) D d H:=by
 obtain⟨c,F,U,rel,h⟩:=h;unfold zj at h;split at h
 ·rename_i gL ps e1 e2;split at h
  ·rename_i hz;obtain⟨a,ts,z1,z2,z3⟩:=rel.slot i _ e1;obtain⟨p,b,xs,vs,ys,y1,y2,y3,y4,y5,y6,y7,y8⟩:=rel.slot j _ e2;unfold é at y7 y8;subst y7 y8;have hl:(ts.map V.ref).length<sizeLine:=by rw[ħ,Paired.length z3,Ĝ];exact hz
   refine⟨.ref a,ň z1,.inl ⟨rfl,_,ϱ.of (rel.lent a _ z2).1⟩,.ref p,ň y1,a,_,.ref p,rfl,rfl,(rel.lent a _ z2).1,hl,?_⟩;obtain⟨m1,_⟩:=rel.move ⟨_,_,e2,ň y1,⟨p,xs,[],rfl,y2,y3.length.symm⟩⟩;exact h d F H _ m1 č (λ_ _=>rfl) ⟨a,_,p,xs,b,xS<|ň z1,z2,y2,y3,y4,y5,y6,rfl⟩
  ·exact h.elim
 ·exact h.elim
def KC{i j:Nat}{x y:Str}{px py ap cp:Pos}(ho:PE X (.Name x px) (jm i))(he:PE X (.Name y py) (jm j))(iV:cS (.Name x px) "append" X.env (eval (.Name x px) X.env)=eval (.Name x px) X.env:=by kernel_rfl)
 (pO:((Ć cp<|Ð [.Name y py] X.env).all (λx=>!x.1)&&(bv cp<|bz [] X.env).all (λx=>x.1.isSome)&&decide ([Expr.Name y py].length+([]:List ϣ).length+(if([]:List ϣ).isEmpty then 0 else 1)<30))=true:=by rfl)
 (iW:(ap.endLine==cp.line)=true:=by rfl)(mZ:Ð [.Name y py] X.env=(false,eval (.Name y py) X.env)::Ð [] X.env:=by exact ŋ rfl)(hpl:(Ć cp<|Ð [] X.env).any (·.1)=false:=by kernel_rfl)(hs:ū (.Call (.Attribute (.Name x px) "append" ap) [.Name y py] [] cp) none pos.line X.env=ñ false:=by kernel_rfl):
 dB X [.Expr (.Call (.Attribute (.Name x px) "append" ap) [.Name y py] [] cp) pos] (tW (kk X cm) E n<|zj i j):=
 dB.wk (jq<|ϵ (fQ bB cV dY ϩ ho (Ϩ he cu mZ) iV pO iW mZ hpl) hs) λ_ _ _ h=>Fj h
def Hj{α:Type}{l:List α}{x:α}:pc (l++[x]) (-1)=some x:=by unfold pc CK;rw[if_neg (by lia),if_pos (by simp;lia)];show(l++[x])[(-1+((l++[x]).length:Int)).toNat]?=some x;rw[show(-1+((l++[x]).length:Int)).toNat=l.length by simp;lia];simp
abbrev ND(K:Î)(i:Nat):TE:=HW (Rv K) (HW (Rv K) (jm i)<|VP (rU λi=>.int<|-i)<|tC<|.int 1)<|tC<|.int 2
def zk{α β:Type}{G:α->β->Prop}{l:List α}{m:List β}{d:β}(h:Paired G l m)(e:m.getLast?=some d):∃l0 x,l=l0++[x]/\Paired G l0 m.dropLast/\G x d:=by
 induction h with
 |nil=>cases e|cons r t ih=>
  cases t with
  |nil=>cases e;exact⟨[],_,rfl,.nil,r⟩|cons r' t'=>obtain⟨k,x,e2,g1,g2⟩:=ih (by rw[List.getLast?_cons_cons]at e;exact e);exact⟨_::k,x,by rw[e2];rfl,.cons r g1,g2⟩
def Hk{α β:Type}{G:α->β->Prop}{l:List α}{m:List β}{y:β}(h:Paired G l m)(e:m.getLast?=some y):∃k x,l=k++[x]/\G x y:=
 have⟨k,x,e,_,g⟩:=zk h e
 ⟨k,x,e,g⟩
def Ca{K:KK}{c:Ctx}{F H:Hp}{f:Ċ}{U:ċ}{i:Nat}{gL:List (List PV×List PV)}{d:List PV×List PV}(rel:ĝ K c F H f U)(e:U[i]?=some (.dw gL))(hd:gL.getLast?=some d):
 ∃a us t xs b vs,f[i]?=some (some<|.ref a)/\c.L a=some (.lst<|us++[.ref t])/\F t=some (.tup<|xs++[.ref b])/\é K F d.1 xs/\c.L b=some (.lst vs)/\é K F d.2 vs:=by
 obtain⟨a,ts,z1,z2,z3⟩:=rel.slot i _ e;obtain⟨k,t,rfl,xs,b,vs,k1,k2,k3,k4⟩:=Hk z3 hd;exact⟨a,k.map V.ref,t,xs,b,vs,ň z1,by rw[z2,ş];rfl,k1,k2,k3,k4⟩
def Tr{xs:List V}{y:V}(h:xs.length=2):pc (xs++[y]) 2=some y:=by unfold pc CK;rw[if_pos (by lia),if_pos (by simp;lia)];simp[<-h]
def Fk{K:Î}{H:Hp}{c:Ċ}{i:Nat}{a t b:À}{us xs:List V}{Q:VK}(h1:c[i]?=some (some<|.ref a))(h2:H a=some (.lst<|us++[.ref t]))(h3:H t=some (.tup<|xs++[.ref b]))(hl:xs.length=2)(q:Q (.ref b) H):ND K i c H Q:=
 ⟨.ref a,h1,1,rfl,.inl ⟨a,_,-1,.ref t,rfl,rfl,ϱ.of h2,Hj,.inr<|.inl ⟨t,_,2,.ref b,rfl,rfl,fL.of h3,Tr hl,q⟩⟩⟩
def zl(i:Nat)(me:M PV):M WR:=λU=>match U[i]?with
 |some (.dw gL)=>match gL.getLast? with
  |some d=>if d.1.length=2/\d.2.length<16777216then(me U).bind λp U1=>.ok (.l i p) U1 else .bad
  |none=>.bad
 |_=>.bad
def Fm{i:Nat}{D:Ends}{f:Ċ}{H:Hp}(h:tW (kk X cm) E n (zl i me) D f H):sJ (Lj X.K "list" oi (ND X.K i) (tL (kk X cm) E<|É me ã)) D f H:=by
 obtain⟨c,F,U,rel,h⟩:=h;unfold zl at h;split at h
 ·rename_i gL e1;split at h
  ·rename_i d hd;split at h
   ·rename_i hz;obtain⟨a,us,t,xs,b,vs,z1,z2,z3,z4,z5,z6⟩:=Ca rel e1 hd;refine Fk z1 (rel.lent a _ z2).1 (rel.sub _ _ z3) (by rw[<-z4.length];exact hz.1) ⟨.inl ⟨rfl,_,ϱ.of (rel.lent b _ z5).1⟩,c,F,U,rel,?_⟩;unfold É;cases em:me U with
    |bad=>rw[em]at h;exact h|exc x U1=>rw[em]at h;exact λC d F' H' ž s1 q=>h f C d F' H' ž s1 q
    |ok p U1=>
     rw[em]at h;intro ws F1 H1 è s1 s2 r1;have sE:é (kk X cm) F1 [p] ws:=r1;cases sE.pr with
     |cons rp u=>rename_i v yu;cases u;exact⟨b,vs,v,rfl,rfl,(è.lent b _ z5).1,by rw[<-z6.length,Ĝ];exact hz.2,h f F1 H1 _ è s1 (λ_ _=>rfl) ⟨a,us,t,xs,b,vs,v,xS z1,z2,s1 _ _ z3,z5,rp,rfl⟩⟩
   ·exact h.elim
  ·exact h.elim
 ·exact h.elim
def KD{i:Nat}{o:È}{ap cp:Pos}(ho:PE X o (ND X.K i))(he:PE X e (tV (kk X cm) E me))(iV:cS o "append" X.env (eval o X.env)=eval o X.env:=by kernel_rfl)
 (pO:((Ć cp<|Ð [e] X.env).all (λx=>!x.1)&&(bv cp<|bz [] X.env).all (λx=>x.1.isSome)&&decide ([e].length+([]:List ϣ).length+(if([]:List ϣ).isEmpty then 0 else 1)<30))=true:=by rfl)
 (iW:(ap.endLine==cp.line)=true:=by rfl)(mZ:Ð [e] X.env=(false,eval e X.env)::Ð [] X.env:=by exact ŋ rfl)(hpl:(Ć cp<|Ð [] X.env).any (·.1)=false:=by kernel_rfl)(hs:ū (.Call (.Attribute o "append" ap) [e] [] cp) none pos.line X.env=ñ false:=by kernel_rfl):
 dB X [.Expr (.Call (.Attribute o "append" ap) [e] [] cp) pos] (tW (kk X cm) E n<|zl i me):=
 dB.wk (jq<|ϵ (fQ bB cV dY ϩ ho (Ì he í mZ) iV pO iW mZ hpl) hs) λ_ _ _ h=>Fm h
def KE{i:Nat}{x:Str}{px p1 p2 p3 p4 p5:Pos}{j1 j2:Nat}(ho:PE X (.Name x px) (jm i)):PE X (.Subscript (.Subscript (.Name x px) (.UnaryOp .USub (.Constant (.int 1) j1 p1) p2) p3) (.Constant (.int 2) j2 p4) p5) (ND X.K i):=
 Ec zZ (Ec zZ ho (HY DW xj) λ_ _=>rfl) xj λ_ _=>rfl
noncomputable def tQ(i:Nat):M PV:=λU=>match U[i]?with
 |some (.dw gL)=>.ok (.int gL.length) U|_=>.bad
noncomputable def zm(i:Nat):M PV:=λU=>match U[i]?with
 |some (.dw gL)=>match gL.getLast? with
  |some d=>if d.1.length=2then .ok (.int d.2.length) U else .bad|none=>.bad
 |_=>.bad
end
inductive FW where
 |ok (w:WR)|exc (x:PX)|bad
abbrev MW:=List Slot->FW
def fW(n k:Nat)(mb:M WR):MW:=λas=>if as.length=n then(match mb (ľ k as)with
 |.ok w _=>if w.ix<n then .ok w else .bad|.exc x _=>.exc x|.bad=>.bad)else .bad
def NE(K:KK)(E:XK)(F H:Hp)(vs:List V)(Q:VK):FW->Prop
 |.ok w=>∀F' H' H2,Gr F H F' H'->zh K (dO F H).L H F' H' (vs[w.ix]?) H2 w->Q .non H2|.exc x=>∀C d F' H',Gr F H F' H'->CU K F' x C d->E C d H'|.bad=>False
def NF(K:KK)(n:Nat)(mf:MW):Sp:=λvs H Q E=>∃F as,as.length=n/\Þ F H/\Paired (dC K F H) as vs/\NE K E F H vs Q (mf as)
def C9{N:List Str}{vs:List V}{i:Nat}(h:i<vs.length):pd (L2.start N vs) i=vs[i]?:=by
 unfold pd L2.start;rw[fj (by simpa using h),ŗ,ũ h];rfl
section
variable{Pg:ë}{w:â}{K:Î}{cm:String->À}{mg:Str->Option Á}{base:Ñ}{CX:gJ}
def fnW{x ō:Str}{st:ò}{f:À}{fd:ĉ}{N ps:List Str}{k n j:Nat}{mb:M WR}{mf:MW}(F:FN K x ō st f fd)(S:ż N ps (Ā st))
 (iU:∀(cdv:Á) (A:ì) (outer:List Env) (s:Ä) (H:Hp) (E:XK),ϛ k (A.deeper<|Ϗ ō (Ā st) s.heap.objs.size f cdv)→(A.deeper<|Ϗ ō (Ā st) s.heap.objs.size f cdv).units+64<Ź→
   dB (sO CX Pg w K mg base N ō (Ā st) f cdv A outer s H E) (Ž st) (tW ⟨K,cm⟩ (λ_=>E) ps.length mb))(hn:ps.length=n:=by rfl)(hj:N.length=j:=by rfl)(hf:mf=fW n j mb:=by rfl):bO Pg w K mg base CX (k+1) f fd ps (NF ⟨K,cm⟩ n mf):=by
 subst hn hj hf;obtain⟨oc,od,kV,doc,pm,an,cdv,ct,FY,rfl,lk,Dj⟩:=F.ex;refine D8 lk Dj S (λvs H Q E ⟨F,IK,h1,_,h2,_⟩=>by rw[<-Paired.length h2];exact h1) λA outer s H vs Q E hr DF=>?_;obtain⟨F,IK,h1,h2,h3,h4⟩:=DF;refine⟨_,iU cdv A outer s H E hr hr.units,dO F H,F,ľ N.length IK,ĝ.start h2 h3,?_⟩;unfold fW at h4;rw[if_pos h1]at h4;cases e:mb (ľ N.length IK)with
 |bad=>rw[e]at h4;exact h4|exc x U'=>rw[e]at h4;exact λa C d F' H' rel s1 q=>h4 C d F' H' rel.gr q
 |ok w U'=>
  rw[e]at h4;dsimp only at h4;split at h4
  ·rename_i hw;intro a F' H' H2 rel s1 hs q;refine h4 F' H' H2 rel.gr ?_;rw[hs _ hw,C9 (by rw[<-Paired.length h3,h1];exact hw)]at q;exact q
  ·exact h4.elim
end
noncomputable def jX(U:ċ):List Nat->Option (List Slot)
 |[]=>some []|i::is=>((U[i]?).bind eM).bind λs=>(jX U is).map (s::·)
theorem tU{K:KK}{c:Ctx}{F H:Hp}{a:Ċ}{U:ċ}(rel:ĝ K c F H a U):∀{ns:List Nat}{as:List Slot},jX U ns=some as->∃vs:List V,ns.map (pd a)=vs.map some/\Paired (dC K F H) as vs
 |[],as,h=>by cases h;exact⟨[],rfl,.nil⟩|i::ns,as,h=>by unfold jX at h;obtain⟨s,e1,h⟩:=nD.mp h;obtain⟨YA,e2,rfl⟩:=fk.mp h;obtain⟨v,v1,v2⟩:=sr rel e1;obtain⟨vs,q1,q2⟩:=tU rel e2;exact⟨v::vs,by rw[á,á,q1,xS v1],.cons v2 q2⟩
def Lw(ns:List Nat):TA:=λa H Q=>∃vs:List V,ns.map (pd a)=vs.map some/\Q vs H
def qo:WR->Option Slot->Bool
 |.t _ _,some (.bw _)=>true|.d _ _,some (.dw _)=>true|.l _ _,some (.dw _)=>true|_,_=>false
def ϫ(mf:MW)(ns:List Nat):M WR:=λU=>match jX U ns with
 |none=>.bad|some as=>match mf as with
  |.ok w=>(match ns[w.ix]?with
    |some j=>if qo w U[j]?=true then .ok (w.to j) U else .bad|none=>.bad)
  |.exc x=>.exc x U|.bad=>.bad
section
variable{X:Cx}{cm:String->À}{E:Ċ->XK}{CX:gJ}{k j n m:Nat}{f:À}{fd:ĉ}{ps:List Str}{mf:MW}{x:Str}{st:ò}{p pos Dr:Pos}{e:È}{es:List È}
def xT:PA X [] (Lw []):=PA.wk cu<|by
 rintro a H Q ⟨vs,h1,h2⟩;cases vs with
 |nil=>exact h2|cons _ _=>cases h1
def Ay{a:Ċ}{i:Nat}{v:V}(h:pd a i=some v):a[i]?=some (some v):=ň h
def aN(i:Nat){ns:List Nat}{px:Pos}(ho:PE X (.Name x px) (jm i))(hr:PA X es (Lw ns))(hs:Ð (.Name x px::es) X.env=(false,eval (.Name x px) X.env)::Ð es X.env:=by exact ŋ rfl):PA X (.Name x px::es) (Lw (i::ns)):=
 PA.wk (Ϩ ho hr hs)<|by
   rintro a H Q ⟨vs,h1,h2⟩;cases vs with
   |nil=>cases h1|cons v vs=>
    rw[á,á]at h1;injection h1 with h3 h4
    exact⟨v,Ay h3,vs,h4,h2⟩
def zn{sp:Sp}{ta:TA}(F:bO X.prog X.w X.K X.mg X.base CX k f fd ps sp)(hr:ϛ k X.A)(hg:Gl X x)(hm:X.mg x=some (.ref f))(hk:bC X.K (.ref f)=true)(hb:Binds X.K fd ps [])(hx:cY CX X E)
 (ha:PA X (e::es) ta)(pN:(x==("__debug__":Str))=false:=by kernel_rfl)(he:Ð (e::es) X.env=(false,eval e X.env)::Ð es X.env:=by exact ŋ rfl)(hpl:(Ć pos<|Ð es X.env).any (·.1)=false:=by kernel_rfl):
 PE X (.Call (.Name x p) (e::es) [] pos) (λa H Q=>ta a H λvs H1=>sp vs H1 Q<|E a):=by
 intro Ç s a H Q I h;refine lg<|se I hg hm ?_ pN;refine nZ (h₀:=X.base) I.ok.mod.HU hk (ϙ (ha pos Ç s a H _ I h) λus s1 ⟨vs,H1,I1,r,q⟩=>⟨I1.mj,?_⟩) he hpl;exact oz F hr hb hx I1 r q
def pH{n k:Nat}{mb:M WR}{ps:List Slot}(h:fW n k mb ps≠.bad):ps.length=n:=by
 unfold fW at h;by_cases hl:ps.length=n
 ·exact hl
 ·rw[if_neg hl]at h;exact absurd rfl h
def KG{j:Nat}{p:PV}{o:Option Slot}(h:qo (.t j p) o=true):∃ps,o=some (.bw ps):=by
 cases o with
 |none=>cases h|some s=>cases s<;>first|exact⟨_,rfl⟩|cases h
def KH{j:Nat}{p:List PV}{o:Option Slot}(h:qo (.d j p) o=true):∃ps,o=some (.dw ps):=by
 cases o with
 |none=>cases h|some s=>cases s<;>first|exact⟨_,rfl⟩|cases h
def KI{j:Nat}{p:PV}{o:Option Slot}(h:qo (.l j p) o=true):∃ps,o=some (.dw ps):=by
 cases o with
 |none=>cases h|some s=>cases s<;>first|exact⟨_,rfl⟩|cases h
def zo{F:Hp}{t b b':À}{xs ys:List V}(h:F t=some (.tup<|xs++[.ref b]))(h':F t=some (.tup<|ys++[.ref b'])):b=b':=by
 rw[h]at h';injection h' with h'
 injection h' with h'
 have:=(List.append_inj' h' rfl).2;injection this with this
 injection this
def NG{K:KK}{c:Ctx}{F H F' H' H2:Hp}{o:Ċ}{U:ċ}{i:Nat}{w:WR}(rel:ĝ K c F H o U)(g:Gr F H F' H')(hs:qo w U[i]?=true)(h:zh K (dO F H).L H F' H' (pd o i) H2 w):zh K c.L c.B F' H' (pd o i) H2 w:=by
 have Wk:∀{gL:List (List PV×List PV)}{a:À}{us:List V},U[i]?=some (.dw gL)->pd o i=some (.ref a)->(dO F H).L a=some (.lst us)->c.L a=some (.lst us)/\∃ts:List À,us=ts.map V.ref/\∀t∈ts,∃xs b vs,F t=some (.tup<|xs++[.ref b])/\c.L b=some (.lst vs):=by intro gL a us e h1 h2;obtain⟨a',ts,q1,q2,q3⟩:=rel.slot i _ e;have e2:=ň q1;rw[Ay h1]at e2;cases e2;have e3:=(rel.lent a _ q2).1;rw[(aB h2).1]at e3;cases e3;refine⟨q2,ts,rfl,λt ht=>?_⟩;obtain⟨j,hj⟩:=AU ht;obtain⟨d,_,xs,b,vs,k1,_,k3,_⟩:=dJ q3 hj;exact⟨xs,b,vs,k1,k3⟩
 cases w with
 |t j p=>obtain⟨ps,e⟩:=KG hs;obtain⟨a,vs,v,h1,h2,h3⟩:=h;obtain⟨a',yu,q1,q2,q3⟩:=rel.slot i _ e;have e2:=ň q1;rw[Ay h1]at e2;cases e2;have e3:=(rel.lent a _ q2).1;rw[(aB h2).1]at e3;cases e3;exact⟨a,vs,v,h1,q2,h3⟩|d j ps=>obtain⟨gL,e⟩:=KH hs;obtain⟨a,us,t,xs,b,h1,h2,h3,h4,h5,h6,h7,h8⟩:=h;exact⟨a,us,t,xs,b,h1,(Wk e h1 h2).1,h3,h4,h5,h6,rel.base.free h7,h8⟩|l j p=>
  obtain⟨gL,e⟩:=KI hs;obtain⟨a,us,t,xs,b,vs,v,h1,h2,h3,h4,h5⟩:=h;obtain⟨g1,ts,g2,g3⟩:=Wk e h1 h2;have ht:t∈ts:=by
   have:V.ref t∈ts.map V.ref:=by rw[<-g2];simp
   obtain⟨t',m1,m2⟩:=Đ.mp this;injection m2 with m2
   exact m2▸m1
  obtain⟨Yz,b',yu,k1,k2⟩:=g3 t ht;have eb:=zo (g.f _ _ k1) h3;subst eb;have e3:=(rel.lent b' _ k2).1;rw[(aB h4).1]at e3;cases e3;exact⟨a,us,t,xs,b',vs,v,h1,g1,h3,k2,h5⟩
def w_call(F:bO X.prog X.w X.K X.mg X.base CX k f fd ps (NF (kk X cm) m mf))(D:Df X.K X.mg x st ps f fd)(hr:ϛ j X.A)(hx:cY CX X E){ns:List Nat}(ha:PA X (e::es) (Lw ns))
 (hlen:∀{as:List Slot},mf as≠.bad->as.length=m:=by exact pH)(hg:Gl X x:=by kernel_rfl)(AJ:k<=j:=by decide)(pN:(x==("__debug__":Str))=false:=by kernel_rfl)(he:Ð (e::es) X.env=(false,eval e X.env)::Ð es X.env:=by exact ŋ rfl)(hpl:(Ć pos<|Ð es X.env).any (·.1)=false:=by kernel_rfl)(hs:ū (.Call (.Name x p) (e::es) [] pos) none Dr.line X.env=ñ false:=by kernel_rfl):
 dB X [.Expr (.Call (.Name x p) (e::es) [] pos) Dr] (tW (kk X cm) E n<|ϫ mf ns):=
 dB.wk (jq<|ϵ (zn F (hr.mono AJ) hg D.m D.F.kp D.b hx ha pN he hpl) hs)<|by
  rintro D a H ⟨c,F,U,rel,h⟩;unfold ϫ at h;cases el:jX U ns with
  |none=>rw[el]at h;exact h.elim|some as=>
   rw[el]at h;dsimp only at h;obtain⟨vs,v1,v2⟩:=tU rel el;refine⟨vs,v1,F,as,hlen λz=>?_,rel.sub,v2,?_⟩
   ·rw[z]at h;exact h
   ·cases em:mf as with
    |bad=>rw[em]at h;exact h|exc x=>rw[em]at h;exact λC d F' H' g rx=>h a C d F' H' (rel.call g) g.f rx
    |ok w=>
     rw[em]at h;dsimp only at h;cases ej:ns[w.ix]?with
     |none=>rw[ej]at h;exact h.elim|some i=>
      rw[ej]at h;dsimp only at h;split at h
      ·rename_i hok;intro F' H' H2 g hw;have ev:vs[w.ix]?=pd a i:=by
        have:=congrArg (λl=>l[w.ix]?) v1;simp only[ŗ,ej,re]at this;cases ev:vs[w.ix]?with
        |none=>rw[ev]at this;cases this|some v=>rw[ev]at this;injection this with this;exact this.symm
       rw[ev]at hw;have:=NG rel g hok hw;refine h a F' H' H2 (rel.call g) g.f (λ_ _=>rfl) ?_;rw[Ix];exact this.to
      ·exact h.elim
end
section
variable{X:Cx}{cm:String->À}{E:Ċ->XK}{e:È}{p pos:Pos}
def xU(i:Nat){x:Str}{px:Pos}(hm:X.mg "len"=none)(ho:PE X (.Name x px) (jm i))(hg:Gl X "len":=by kernel_rfl)(he:Ð [.Name x px] X.env=(false,eval (.Name x px) X.env)::Ð [] X.env:=by exact ŋ rfl)(hpl:(Ć pos<|Ð [] X.env).any (·.1)=false:=by kernel_rfl):
 PE X (.Call (.Name "len" p) [.Name x px] [] pos) (tV (kk X cm) E<|tQ i):=PE.wk (sP ļ hg hm ğ (Ϩ ho cu he) (he:=he) (hpl:=hpl))<|by
 rintro b H Q ⟨c,F,U,rel,h⟩;unfold tQ at h;split at h
 ·rename_i gL e;obtain⟨a,ts,z1,z2,z3⟩:=rel.slot i _ e;refine⟨.ref a,ň z1,ts.map V.ref,.inl<|ϱ.of (rel.lent a _ z2).1,h _ F H rel č č ?_⟩;show Ĉ _ _ _ _;unfold Ĉ;rw[ħ,Paired.length z3]
 ·exact h.elim
def Fn(i:Nat){o:È}(hm:X.mg "len"=none)(ho:PE X o (ND X.K i))(hg:Gl X "len":=by kernel_rfl)(he:Ð [o] X.env=(false,eval o X.env)::Ð [] X.env:=by exact ŋ rfl)(hpl:(Ć pos<|Ð [] X.env).any (·.1)=false:=by kernel_rfl):
 PE X (.Call (.Name "len" p) [o] [] pos) (tV (kk X cm) E<|zm i):=PE.wk (sP ļ hg hm ğ (Ϩ ho cu he) (he:=he) (hpl:=hpl))<|by
 rintro f H Q ⟨c,F,U,rel,h⟩;unfold zm at h;split at h
 ·rename_i gL e;split at h
  ·rename_i d hd;split at h
   ·rename_i hl;obtain⟨a,us,t,xs,b,vs,z1,z2,z3,z4,z5,z6⟩:=Ca rel e hd;refine Fk z1 (rel.lent a _ z2).1 (rel.sub _ _ z3) (by rw[<-z4.length];exact hl) ⟨vs,.inl<|ϱ.of (rel.lent b _ z5).1,h _ F H rel č č ?_⟩;show Ĉ _ _ _ _;unfold Ĉ;rw[z6.length]
   ·exact h.elim
  ·exact h.elim
 ·exact h.elim
end
@[simp]theorem Qd{i:Nat}{U:ċ}:tQ i U=(match U[i]?with
  |some (.dw gL)=>.ok (.int gL.length) U|_=>.bad):=rfl
@[simp]theorem NH{i:Nat}{U:ċ}:zm i U=(match U[i]?with
  |some (.dw gL)=>match gL.getLast? with
   |some d=>if d.1.length=2then .ok (.int d.2.length) U else .bad|none=>.bad
  |_=>.bad):=rfl
abbrev DL:=List<|List PV×List PV
def dA:Slot->Bool
 |.no=>true|.sh _=>true|.ow _=>true|.bw _=>true|_=>false
def p_(s:Slot):Slot:=(eM s).getD .no
def aZ(iT iD:Nat)(T:List PV)(D:DL)(U:ċ):ċ:=((U.map p_).set iT (.bw T)).set iD (.dw D)
noncomputable def zp(iT iD:Nat)(w:WR)(T:List PV)(D:DL):Option (List PV×DL):=match w with
 |.t k p=>if k=iT then some (T++[p],D)else none|.d k ps=>if k=iD then some (T,D++[(ps,[])])else none|.l k p=>if k=iD then(match D.getLast? with
   |some d=>some (T,D.dropLast++[(d.1,d.2++[p])])|none=>none)else none
noncomputable def jF(i j iT iD:Nat)(mw:M WR):List PV->ċ->List PV->DL->ĳ (List PV×DL)
 |[],U,T,D=>.ok (T,D) U|p::ps,U,T,D=>match p with
  |.tup [q1,q2]=>(match mw (aZ iT iD T D<|(U.set i<|.sh q1).set j (.sh q2))with
    |.ok w _=>(match zp iT iD w T D with
      |some (T',D')=>jF i j iT iD mw ps ((U.set i<|.sh q1).set j (.sh q2)) T' D'|none=>.bad)
    |.exc x _=>.exc x<|(U.set i<|.sh q1).set j (.sh q2)|.bad=>.bad)
  |_=>.bad
def Qe(i j iT iD:Nat)(mi:M (List PV))(mw:M WR)(mt:M Fl):M Fl:=fun U=>if U.all dA=true∧iT<U.length∧iD<U.length then
    (match mi ((U.set iT .no).set iD .no)with
    |.ok items U1=>if U1.all dA=true then(jF i j iT iD mw items U1 [] []).bind fun td U2=>(match mt (aZ iT iD td.1 td.2 U2)with
      |.ok (.rt<|.sh p) _=>.ok (.rt<|.sh p) U2|.exc x _=>.exc x U2|_=>.bad)else .bad
    |_=>.bad)
 else .bad
def tX(K:KK)(F H:Hp)(x:À×À)(d:List PV×List PV):Prop:=∃xs vs,F x.1=some (.tup<|xs++[.ref x.2])/\é K F d.1 xs/\H x.2=some (.lst vs)/\é K F d.2 vs
def Ex(K:KK)(c:Ctx)(F H:Hp)(b:Ċ)(U:ċ)(iT iD:Nat)(T:List PV)(D:DL)(pT pD:À)(tb:List (À×À)):Prop:=
 pd b iT=some (.ref pT)/\pd b iD=some (.ref pD)/\(∃us,H pT=some (.lst us)/\é K F T us)/\H pD=some (.lst<|tb.map λx=>.ref x.1)/\Paired (tX K F H) tb D/\(pT::pD::tb.map (·.2)).Nodup/\∀a∈pT::pD::tb.map (·.2),F a=none/\c.B a=none/\ir F b U a
section
variable{K:KK}{c:Ctx}{F H F' H':Hp}{σ:Ċ}{U:ċ}{iT iD:Nat}{T:List PV}{D:DL}{pT pD:À}{tb:List (À×À)}
def KJ{x:À}(h:Paired (tX K F H) tb D)(hx:x∈tb.map (·.2)):H x≠none:=by obtain⟨y,hy,rfl⟩:=Đ.mp hx;obtain⟨k,hk⟩:=AU hy;obtain⟨d,_,xs,vs,_,_,h3,_⟩:=dJ h hk;rw[h3];intro z;cases z
def Ex.some(h:Ex K c F H σ U iT iD T D pT pD tb){a:À}(ha:a∈pT::pD::tb.map (·.2)):H a≠none:=by
 obtain⟨_,_,⟨us,h1,_⟩,h2,h3,_⟩:=h;rcases ö.mp ha with rfl|ha
 ·rw[h1];intro z;cases z
 rcases ö.mp ha with rfl|ha
 ·rw[h2];intro z;cases z
 ·exact KJ h3 ha
def Ex.call(rel:ĝ K c F H σ U)(h:Ex K c F H σ U iT iD T D pT pD tb)(g:Gr F H F' H'):Ex K c F' H' σ U iT iD T D pT pD tb:=by have hs:=fun{a}=>h.some (a:=a);obtain⟨k1,k2,⟨us,h1,qy⟩,h2,h3,h4,h5⟩:=h;exact⟨k1,k2,⟨us,g.h _ _ h1,qy.same g.f T us⟩,g.h _ _ h2,Paired.IW h3 λx d ⟨xs,vs,q1,q2,q3,q4⟩=>⟨xs,vs,g.f _ _ q1,q2.same g.f d.1 xs,g.h _ _ q3,q4.same g.f d.2 vs⟩,h4,λa ha=>⟨g.out a (hs ha) (h5 a ha).1,(h5 a ha).2.1,rel.mG g.f (h5 a ha).2.2⟩⟩
def ĝ.Az{a:À}{o:HO}(r:ĝ K c F H σ U)(hF:F a=none)(hB:c.B a=none)(hf:ir F σ U a):ĝ K c F (upd H a o) σ U where
 sub:=λb u e=>by
  have hb:b≠a:=λz=>by rw[z,hF]at e;cases e
  rw[õ hb];exact r.sub b u e
 base:=λb u e=>by
  have hb:b≠a:=λz=>by rw[z,hB]at e;cases e
  rw[õ hb];exact r.base b u e
 f0:=r.f0
 fP:=r.fP
 lent:=λb u e=>by
  have hb:b≠a:=λz=>by rw[z,r.lb a hB]at e;cases e
  rw[õ hb];exact r.lent b u e
 lb:=r.lb
 len:=r.len
 slot:=λj s e=>(r.slot j s e).grow (Þ.refl F)<|by
  rintro b u ⟨y,e1,e2⟩ h1 h2 h3;have hb:b≠a:=λz=>by subst z;exact hf j ⟨s,y,e,Ae e1,e2⟩
  exact⟨by rw[õ hb];exact h1,h2⟩
 sep:=r.sep
def xV{p:Slot->Bool}{s:Slot}{i:Nat}(h:U.all p=true)(e:U[i]?=some s):p s=true:=by rw[bp]at h;exact h s<|AT e
noncomputable def Ctx.uF(c:Ctx)(A:List À)(H:Hp):Ctx:=⟨λb=>if b∈A then H b else c.B b,c.F₀,c.L,c.S⟩
theorem ĝ.uF{A:List À}(r:ĝ K c F H σ U)(hA:∀a∈A,H a≠none/\F a=none/\c.B a=none/\ir F σ U a)(hp:U.all dA=true):ĝ K (c.uF A H) F H σ U where
 sub:=r.sub
 base:=λb u e=>by
  have e':(if b∈A then H b else c.B b)=some u:=e;split at e'
  ·exact e'
  ·exact r.base b u e'
 f0:=r.f0
 fP:=λa h1 h2=>by
  have qy:(if a∈A then H a else c.B a)≠none:=h1;split at qy
  ·rename_i q;exact(hA a q).2.1
  ·exact r.fP a qy h2
 lent:=r.lent
 lb:=fun a h=>by
   have h':(if a∈A then H a else c.B a)=none:=h;split at h'
   ·rename_i q;exact absurd h' (hA a q).1
   ·exact r.lb a h'
 len:=r.len
 slot:=λi s e=>by
  have hs:=xV hp e;have q:=r.slot i s e;cases s with
  |no=>trivial|sh p=>exact q|bw ps=>exact q|ow ps=>obtain⟨a,vs,q1,q2,q3,q4,q5⟩:=q;refine⟨a,vs,q1,q2,q3,?_,q5⟩;show(if a∈A then H a else c.B a)=none;rw[if_neg λz=>(hA a z).2.2.2 i ⟨_,_,e,ň q1,rfl⟩];exact q4
  |_=>cases hs
 sep:=r.sep
def ĝ.Fo{A:List À}{H₀:Hp}(r:ĝ K (c.uF A H₀) F H σ U)(hA:∀a∈A,H₀ a≠none/\c.B a=none)(hl:∀a,c.B a=none->c.L a=none)(hp:U.all dA=true):ĝ K c F H σ U where
 sub:=r.sub
 base:=λb u e=>r.base b u (by
  show(if b∈A then H₀ b else c.B b)=some u;rw[if_neg λz=>by rw[(hA b z).2]at e;cases e];exact e)
 f0:=r.f0
 fP:=λa h1 h2=>r.fP a (by
  show(if a∈A then H₀ a else c.B a)≠none;rw[if_neg λz=>h1 (hA a z).2];exact h1) h2
 lent:=r.lent
 lb:=hl
 len:=r.len
 slot:=λi s e=>by
  have hs:=xV hp e;have q:=r.slot i s e;cases s with
  |no=>trivial|sh p=>exact q|bw ps=>exact q|ow ps=>
   obtain⟨a,vs,q1,q2,q3,q4,q5⟩:=q;have Wl:(if a∈A then H₀ a else c.B a)=none:=q4;refine⟨a,vs,q1,q2,q3,?_,q5⟩;split at Wl
   ·rename_i z;exact(hA a z).2
   ·exact Wl
  |_=>cases hs
 sep:=r.sep
def ĝ.lend(r:ĝ K c F H σ U)(hp:U.all dA=true)(h:Ex K c F H σ U iT iD T D pT pD tb)(n:iT≠iD):ĝ K (dO F H) F H σ (aZ iT iD T D U) where
 sub:=r.sub
 base:=Þ.refl H
 f0:=Þ.refl F
 fP:=λ_ _ h=>h
 lent:=λ_ _ e=>aB e
 lb:=fun a e=>by
   cases q:(dO F H).L a with
   |none=>rfl|some u=>have e':H a=none:=e;rw[(aB q).1]at e';cases e'
 len:=by unfold aZ;simpa using r.len
 slot:=λi s e=>by
  obtain⟨k1,k2,⟨us,h1,qy⟩,h2,h3,h4,h5⟩:=h;have L:∀{a u},H a=some u->F a=none->(dO F H).L a=some u:=fun{a u} e1 e2=>by show(match F a with|none=>H a|some _=>none)=some u;rw[e2];exact e1
  unfold aZ at e;rcases ϶ e with⟨rfl,rfl,_⟩|⟨hj,e⟩
  ·refine⟨pD,tb.map (·.1),k2,L (by rw[h2,Ğ];rfl) (h5 pD<|by simp).1,?_⟩;have:∀{Dt:List (À×À)}{D':DL},(∀x∈Dt,F x.2=none)->Paired (tX K F H) Dt D'->Paired (λ(t:À) (d:List PV×List PV)=>∃xs b vs,F t=some (.tup<|xs++[.ref b])/\é K F d.1 xs/\(dO F H).L b=some (.lst vs)/\é K F d.2 vs) (Dt.map (·.1)) D':=by
    intro Dt D' hn hq
    induction hq with
    |nil=>exact .nil|@cons x d l m q t ih=>obtain⟨xs,vs,q1,q2,q3,q4⟩:=q;exact .cons ⟨xs,x.2,vs,q1,q2,L q3 (hn x<|by simp),q4⟩<|ih λy hy=>hn y<|ð _ hy
   exact this (λx hx=>(h5 x.2<|ð _<|ð _<|Đ.mpr ⟨x,hx,rfl⟩).1) h3
  ·rcases ϶ e with⟨rfl,rfl,_⟩|⟨hj2,e⟩
   ·exact⟨pT,us,k1,L h1 (h5 pT<|by simp).1,qy⟩
   ·rw[ŗ]at e;cases e0:U[i]?with
    |none=>rw[e0]at e;cases e|some s0=>
     rw[e0]at e;have es:p_ s0=s:=š e;subst es;unfold p_;cases el:eM s0 with
     |none=>trivial|some s1=>obtain⟨v,v1,v2⟩:=sr r (show(U[i]?).bind eM=some s1 by rw[e0];exact el);rw[v1];exact(dC.slot v2).1
 sep:=λi j a h1 _=>by
  obtain⟨s',y,q1,_,q2⟩:=h1;have q2:=mF q2;exfalso;have:s'.own=false:=by
   unfold aZ at q1;rcases ϶ q1 with⟨_,rfl,_⟩|⟨_,q1⟩
   ·rfl
   ·rcases ϶ q1 with⟨_,rfl,_⟩|⟨_,q1⟩
    ·rfl
    ·rw[ŗ]at q1;cases e0:U[i]?with
     |none=>rw[e0]at q1;cases q1|some s0=>rw[e0]at q1;have es:p_ s0=s':=š q1;subst es;have hs:=xV hp e0;cases s0<;>first|rfl|cases hs
  rw[this]at q2;cases q2
def vw{A:List À}{a b:À}(h:(a::A).Nodup)(hb:b∈A):b≠a:=λz=>(b_.mp h).1 (z▸hb)
def AA{a:À}{o:HO}{tb:List (À×À)}{D:DL}(hn:∀x∈tb,x.2≠a)(h:Paired (tX K F H) tb D):Paired (tX K F<|upd H a o) tb D:=by
 induction h with
 |nil=>exact .nil|@cons x d l m q t ih=>obtain⟨xs,vs,q1,q2,q3,q4⟩:=q;exact .cons ⟨xs,vs,q1,q2,by rw[õ<|hn x<|by simp];exact q3,q4⟩<|ih λy hy=>hn y<|ð _ hy
def Ex.put{H2:Hp}{w:WR}{T':List PV}{D':DL}(rel:ĝ K c F H σ U)(h:Ex K c F H σ U iT iD T D pT pD tb)(g:Gr F H F' H')(hw:zh K (dO F H).L H F' H' (pd σ w.ix) H2 w)(hp:zp iT iD w T D=Option.some (T',D')):
 ĝ K c F' H2 σ U/\∃Dt,Ex K c F' H2 σ U iT iD T' D' pT pD Dt:=by
 have ž:=rel.call g;have hs:=fun{a}=>h.some (a:=a);have h0:=h;have h':=Ex.call rel h g;obtain⟨k1,k2,⟨us,h1,qy⟩,h2,h3,h4,h5⟩:=h';cases w with
 |t k p=>
  unfold zp at hp;dsimp only at hp;split at hp
  ·rename_i ek;subst ek;cases hp;obtain⟨a,vs,v,w1,w2,w3,w4,rfl⟩:=hw;have ea:pT=a:=by
    have:pd σ k=Option.some (.ref a):=w1;rw[k1]at this;injection this with this
    injection this
   subst ea;obtain⟨f1,f2,f3⟩:=h5 pT (by simp);have ev:us=vs:=by have:=g.h _ _ (aB w2).1;rw[h1]at this;cases this;rfl
   subst ev;refine⟨ž.Az f1 f2 f3,tb,k1,k2,⟨us++[v],ą,é.append qy<|é.cons w3 é.nil⟩,?_,?_,h4,h5⟩
   ·rw[õ<|vw h4<|by simp];exact h2
   ·exact AA (λx hx=>vw h4<|ð _<|Đ.mpr ⟨x,hx,rfl⟩) h3
  ·cases hp
 |d k ps=>
  unfold zp at hp;dsimp only at hp;split at hp
  ·rename_i ek;subst ek;cases hp;obtain⟨a,YB,t,xs,b,w1,w2,w3,w4,w5,w6,w7,rfl⟩:=hw;have ea:pD=a:=by
    have:pd σ k=Option.some (.ref a):=w1;rw[k2]at this;injection this with this
    injection this
   subst ea;obtain⟨f1,f2,f3⟩:=h5 pD (by simp);have ev:YB=tb.map λx=>.ref x.1:=by have:=g.h _ _ (aB w2).1;rw[h2]at this;cases this;rfl
   subst ev;have hb:∀x∈pT::pD::tb.map (·.2),x≠b:=λx hx z=>hs hx (by rw[z];exact w7);have bD:b≠pD:=λz=>hb pD (by simp) z.symm;refine⟨ž.Az f1 f2 f3,tb++[(t,b)],k1,k2,⟨us,?_,qy⟩,?_,?_,?_,?_⟩
   ·rw[õ<|Ē<|vw h4<|by simp];exact h1
   ·rw[ą,ş];rfl
   ·refine xB (AA (λx hx=>?_) h3) (.cons ⟨xs,[],w3,w4,by rw[õ bD];exact w5,é.nil⟩ .nil);exact vw (b_.mp h4).2 (Đ.mpr ⟨x,hx,rfl⟩)
   ·rw[ş,<-dQ,<-dQ,wc];refine⟨h4,by simp,λx hx y hy=>?_⟩;have:y=b:=by simpa using hy
    subst this;exact hb x hx
   ·intro x hx;rw[ş,<-dQ,<-dQ]at hx;rcases aH.mp hx with hx|hx
    ·exact h5 x hx
    ·have:x=b:=by simpa using hx
     subst this;exact⟨w6,rel.base.free w7,rel.mG g.f<|rel.fresh w7⟩
  ·cases hp
 |l k p=>
  unfold zp at hp;dsimp only at hp;split at hp
  ·rename_i ek;subst ek;split at hp
   ·rename_i d hd;cases hp;obtain⟨a,YB,t,xs,b,vs,v,w1,w2,w3,w4,w5,rfl⟩:=hw;have ea:pD=a:=by
     have:pd σ k=Option.some (.ref a):=w1;rw[k2]at this;injection this with this
     injection this
    subst ea;obtain⟨Qf,x,rfl,p1,⟨ys,ws,p2,p3,p4,p5⟩⟩:=zk h3 hd;have et:x.1=t:=by
     have:=g.h _ _ (aB w2).1;rw[h2,ş]at this;injection this with this
     injection this with this
     have:=(List.append_inj' this rfl).2;injection this with this
     injection this
    subst et;have eb:=zo p2 w3;have hx2:x.2∈pT::pD::(Qf++[x]).map (·.2):=by simp
    obtain⟨f1,f2,f3⟩:=h5 x.2 hx2;subst eb;have ev:ws=vs:=by have:=g.h _ _ (aB w4).1;rw[p4]at this;cases this;rfl
    subst ev;have n1:=vw h4 (show x.2∈pD::(Qf++[x]).map (·.2) by simp);have n2:=vw (b_.mp h4).2 (show x.2∈(Qf++[x]).map (·.2) by simp);refine⟨ž.Az f1 f2 f3,Qf++[x],k1,k2,⟨us,?_,qy⟩,?_,?_,h4,h5⟩
    ·rw[õ<|Ē n1];exact h1
    ·rw[õ<|Ē n2];exact h2
    ·refine xB (AA (λy hy z=>?_) p1)<|.cons ⟨ys,ws++[v],p2,p3,ą,é.append p5<|é.cons w5 é.nil⟩ .nil;have h6:=(b_.mp (b_.mp h4).2).2;rw[ş,wc]at h6;exact h6.2.2 y.2 (Đ.mpr ⟨y,hy,rfl⟩) x.2 (by simp) z
   ·cases hp
  ·cases hp
theorem Ex.uF{U':ċ}{F3 H3:Hp}(h:Ex K c F H σ U iT iD T D pT pD tb)(r:ĝ K (c.uF (pT::pD::tb.map (·.2)) H) F3 H3 σ U')(s:Þ F F3)(f0:Þ c.F₀ F):Ex K c F3 H3 σ U' iT iD T D pT pD tb:=by
 have hs:=fun{a}=>h.some (a:=a);obtain⟨k1,k2,⟨us,h1,qy⟩,h2,h3,h4,h5⟩:=h;have up:∀a u,a∈pT::pD::tb.map (·.2)->H a=Option.some u->H3 a=Option.some u:=λa u ha e=>r.base a u (by
  show(if a∈pT::pD::tb.map (·.2)then H a else c.B a)=Option.some u;rw[if_pos ha];exact e)
 have bn:∀a,a∈pT::pD::tb.map (·.2)->(c.uF (pT::pD::tb.map (·.2)) H).B a≠none:=λa ha=>by show(if a∈pT::pD::tb.map (·.2)then H a else c.B a)≠none;rw[if_pos ha];exact hs ha
 have go:∀{Dt:List (À×À)}{D':DL},(∀x∈Dt,x.2∈pT::pD::tb.map (·.2))->Paired (tX K F H) Dt D'->Paired (tX K F3 H3) Dt D':=by
  intro Dt D' hn hq
  induction hq with
  |nil=>exact .nil|@cons x d l m q t ih=>obtain⟨xs,vs,q1,q2,q3,q4⟩:=q;exact .cons ⟨xs,vs,s _ _ q1,q2.same s d.1 xs,up _ _ (hn x<|by simp) q3,q4.same s d.2 vs⟩<|ih λy hy=>hn y<|ð _ hy
 refine⟨k1,k2,⟨us,up _ _ (by simp) h1,qy.same s T us⟩,up _ _ (by simp) h2,go (λx hx=>ð _<|ð _<|Đ.mpr ⟨x,hx,rfl⟩) h3,h4,λa ha=>⟨?_,(h5 a ha).2.1,λi q=>?_⟩⟩
 ·refine r.fP a (bn a ha) ?_;cases q:c.F₀ a with
  |none=>exact q|some u=>have:=f0 _ _ q;rw[(h5 a ha).1]at this;cases this
 ·exact bn a ha (r.owned q).2.2
def xW{i:Nat}{s:Slot}(h:U.all dA=true)(hs:dA s=true):(U.set i s).all dA=true:=by
 rw[bp]at h⊢;intro x hx;rcases AV hx with q|q
 ·exact h x q
 ·rw[q];exact hs
def Ex.sets{i:Nat}{v:V}{s:Slot}(h:Ex K c F H σ U iT iD T D pT pD tb)(hs:s.own=false)(n1:iT≠i)(n2:iD≠i):Ex K c F H (σ.set i<|Option.some v) (U.set i s) iT iD T D pT pD tb:=by obtain⟨k1,k2,h1,h2,h3,h4,h5⟩:=h;exact⟨by rw[sB n1];exact k1,by rw[sB n2];exact k2,h1,h2,h3,h4,λa ha=>⟨(h5 a ha).1,(h5 a ha).2.1,iF hs (h5 a ha).2.2⟩⟩
def Cb{i:Nat}{v:V}(h:i<σ.length):pd (σ.set i<|Option.some v) i=Option.some v:=by unfold pd;rw[nh h];rfl
def Ex.start(rel:ĝ K c F H σ U)(lT:iT<U.length)(lD:iD<U.length)(n:iT≠iD)(h1:H pT=none)(h2:upd H pT (.lst []) pD=none):
 ĝ K c F (upd (upd H pT<|.lst []) pD<|.lst []) ((σ.set iT<|Option.some<|.ref pT).set iD (Option.some<|.ref pD)) ((U.set iT .no).set iD .no)/\Ex K c F (upd (upd H pT<|.lst []) pD<|.lst []) ((σ.set iT<|Option.some<|.ref pT).set iD (Option.some<|.ref pD)) ((U.set iT .no).set iD .no) iT iD [] [] pT pD []:=by
 have hl:=rel.len;have r1:=(rel.made (o:=.lst []) h1).put (i:=iT) (x:=Option.some<|.ref pT) (s:=.no) rfl trivial;have r2:=(r1.made (o:=.lst []) h2).put (i:=iD) (x:=Option.some<|.ref pD) (s:=.no) rfl trivial;have ne:pD≠pT:=λz=>by rw[z,ą]at h2;cases h2
 have h3:H pD=none:=by rw[õ ne]at h2;exact h2
 refine⟨r2,?_,?_,⟨[],?_,é.nil⟩,ą,.nil,?_,λa ha=>?_⟩
 ·rw[sB n];exact Cb (by lia)
 ·exact Cb (by simp;lia)
 ·rw[õ<|Ē ne];exact ą
 ·simp;exact Ē ne
 ·have:a=pT\/a=pD:=by simpa using ha
  rcases this with rfl|rfl
  ·exact⟨rel.sub.free h1,rel.base.free h1,iF rfl<|iF rfl<|rel.fresh h1⟩
  ·exact⟨rel.sub.free h3,rel.base.free h3,iF rfl<|iF rfl<|rel.fresh h3⟩
end
section
variable{X:Cx}{cm:String->À}{E:Ċ->XK}{pos:Pos}
def Ts{i j iT iD m:Nat}{s1 s2:ò}{tg iter:È}{body tail:List ò}{mi:M (List PV)}{mf:MW}{ns:List Nat}{mt:M Fl}(h1:PS X s1 (Gf (Jx D5)<|uL iT))(h2:PS X s2 (Gf (Jx D5)<|uL iD))
 (hp:nK (Ü X.prog X.w) X.A X.env X.xe)(hc:X.calm=true)(hi:PI X tg iter (tI (kk X cm) E mi))(hg:PG X tg (L3 X.K 2<|DP (uL i)<|DP (uL j) L1))(hb:dB X body (sJ λy H Q=>Lw ns y H λvs H1=>NF (kk X cm) m mf vs H1 Q<|E y))
 (ht:dB X tail (tS (kk X cm) E mt))(hE:∀y o,E y=E o)(hlen:∀{as:List Slot},mf as≠.bad->as.length=m:=by exact pH)(n1:iT≠iD:=by decide)(n2:iT≠i:=by decide)(n3:iD≠i:=by decide)(n4:iT≠j:=by decide)(n5:iD≠j:=by decide)
 (hs:∀x,cR iter X.env x=ñ x:=by intro _;rfl):dB X (s1::s2::.For tg iter body [] pos::tail) (tS (kk X cm) E<|Qe i j iT iD mi (ϫ mf ns) mt):=
 dB.wk (io h1<|io h2<|io (DU hp hc hi hg hb hs) ht)<|by
  rintro D y H ⟨c,F,U,rel,h⟩;unfold Qe at h;split at h
  ·rename_i OR;obtain⟨hpl,lT,lD⟩:=OR;refine⟨dS _,λpT hT=>⟨dS _,λpD hD=>?_⟩⟩;obtain⟨ę,Qg⟩:=Ex.start rel lT lD n1 hT hD;have Tt:((U.set iT .no).set iD .no).all dA=true:=xW (xW hpl rfl) rfl;generalize (U.set iT .no).set iD .no=U2 at*;have pr:∀{F3 H3:Hp}{n:Ċ}{U3:ċ}{T:List PV}{D':DL}{tb:List (À×À)},ĝ (kk X cm) c F3 H3 n U3->U3.all dA=true->Ex (kk X cm) c F3 H3 n U3 iT iD T D' pT pD tb->ĝ (kk X cm) (c.uF (pT::pD::tb.map (·.2)) H3) F3 H3 n U3:=λr hp e=>r.uF (λa ha=>⟨e.some ha,e.2.2.2.2.2.2 a ha⟩) hp;refine⟨_,F,U2,pr ę Tt Qg,?_⟩;cases em:mi U2 with
   |bad=>rw[em]at h;exact h.elim|exc x U'=>rw[em]at h;exact h.elim|ok items U1=>
    rw[em]at h;dsimp only at h;split at h
    ·rename_i NI;intro J F1 H1 è Wm _ OA;have ex1:=Qg.uF è Wm ę.f0;have Tu:ĝ (kk X cm) c F1 H1 _ U1:=è.Fo (λa ha=>⟨Qg.some ha,(Qg.2.2.2.2.2.2 a ha).2.1⟩) ę.lb NI;refine⟨λk m' o H'=>∃F2 U' T D' tb,k<=items.length/\m'=items.length-k/\ĝ (kk X cm) c F2 H' o U'/\Þ F1 F2/\U'.all dA=true/\Ex (kk X cm) c F2 H' o U' iT iD T D' pT pD tb/\
      ϸ (kk X cm) E c F2 D ((jF i j iT iD (ϫ mf ns) (items.drop k) U' T D').bind λtd U2=>(match mt (aZ iT iD td.1 td.2 U2)with
       |.ok (.rt<|.sh p) _=>.ok (.rt<|.sh p) U2|.exc x _=>.exc x U2|_=>.bad)),⟨_,F1,U1,[],[],[],dS _,rfl,Tu,Þ.refl _,NI,ex1,ϸ.mono h Wm⟩,?_⟩
     rintro k m' n H3 ⟨F3,U3,T,D',tb,hle,rfl,iz,Pc,Hl,NJ,h3⟩;have rp3:=pr iz Hl NJ;obtain⟨go,stop⟩:=OA _ k F3 H3 n U3 rp3 Pc λb u e=>(iz.lent b u e).1;by_cases mW:k<items.length
     ·obtain⟨g1,g2⟩:=go items[k] (ũ mW);rw[kY mW]at h3;unfold jF at h3;refine .inr ⟨g1,_,λo H' z=>z,λx H4 hy=>?_⟩;obtain⟨F4,sS,Qh,_,rp⟩:=g2 x H4 hy;have ex4:=NJ.uF sS Qh iz.f0;have Iz:ĝ (kk X cm) c F4 H4 n U3:=sS.Fo (λa ha=>⟨NJ.some ha,(NJ.2.2.2.2.2.2 a ha).2.1⟩) iz.lb Hl;cases ep:items[k]with
      |tup qs=>
       rw[ep]at h3 rp;unfold Ĉ at rp;obtain⟨t,xs,rfl,ht,rx⟩:=rp
       match qs,rx,h3 with
       |[q1,q2],rx,h3=>
         unfold é at rx;obtain⟨v1,r',rfl,r1,rx⟩:=rx;unfold é at rx;obtain⟨v2,r'',rfl,r2,rx⟩:=rx;unfold é at rx;subst rx;refine⟨t,[v1,v2],rfl,Þ.tup Iz.sub ht,rfl,v1,[v2],rfl,v2,[],rfl,rfl,?_⟩;have Ak:ĝ (kk X cm) c F4 H4 ((n.set i<|some v1).set j (some v2)) ((U3.set i<|.sh q1).set j (.sh q2)):=(Iz.put (s:=.sh q1) rfl ⟨v1,rfl,r1⟩).put (s:=.sh q2) rfl ⟨v2,rfl,r2⟩;have Wn:=(ex4.sets (i:=i) (v:=v1) (s:=.sh q1) rfl n2 n3).sets (i:=j) (v:=v2) (s:=.sh q2) rfl n4 n5;have NK:((U3.set i<|.sh q1).set j (.sh q2)).all dA=true:=xW (xW Hl rfl) rfl;generalize (n.set i<|some v1).set j (some v2)=B at*;dsimp only at h3;generalize (U3.set i<|.sh q1).set j (.sh q2)=U5 at*;have Tv:=Ak.lend NK Wn n1;unfold ϫ at h3;cases el:jX (aZ iT iD T D' U5) ns with
         |none=>rw[el]at h3;exact h3.elim|some as=>
          rw[el]at h3;dsimp only at h3;obtain⟨vs,Wo,v2'⟩:=tU Tv el;refine⟨vs,Wo,F4,as,hlen λz=>?_,Ak.sub,v2',?_⟩
          ·rw[z]at h3;exact h3
          ·cases Tw:mf as with
           |bad=>rw[Tw]at h3;exact h3.elim|exc x=>rw[Tw]at h3;exact λC d F' H' g rx=>h3 B C d F' H' (Ak.call g) (Qh.trans g.f) rx
           |ok w=>
            rw[Tw]at h3;dsimp only at h3;cases ej:ns[w.ix]?with
            |none=>rw[ej]at h3;exact h3.elim|some i'=>
             rw[ej]at h3;dsimp only at h3;by_cases hok:qo w (aZ iT iD T D' U5)[i']?=true
             ·rw[if_pos hok]at h3;dsimp only at h3;cases Tx:zp iT iD (w.to i') T D' with
              |none=>rw[Tx]at h3;exact h3.elim|some td=>
               rw[Tx]at h3;intro F' H' H6 g hw;have ev:vs[w.ix]?=pd B i':=by
                have:=congrArg (λl=>l[w.ix]?) Wo;simp only[ŗ,ej,re]at this;cases ev:vs[w.ix]?with
                |none=>rw[ev]at this;cases this|some v=>rw[ev]at this;injection this with this;exact this.symm
               rw[ev]at hw;obtain⟨GS,Dt,ex6⟩:=Wn.put (w:=w.to i') (T':=td.1) (D':=td.2) Ak g (by rw[Ix];exact hw.to) Tx;exact⟨items.length-(k+1),by lia,F',U5,td.1,td.2,Dt,mW,rfl,GS,(Pc.trans Qh).trans g.f,NK,ex6,ϸ.mono h3<|Qh.trans g.f⟩
             ·rw[if_neg hok]at h3;exact h3.elim
       |[],_,h3=>exact h3.elim|[_],_,h3=>exact h3.elim|_::_::_::_,_,h3=>exact h3.elim
      |_=>rw[ep]at h3;exact h3.elim
     ·have e:k=items.length:=by lia
      refine .inl ⟨stop e,?_⟩;rw[ja<|by lia]at h3;refine⟨_,F3,_,iz.lend Hl NJ n1,?_⟩;have IN:ϸ (kk X cm) E c F3 D (match mt (aZ iT iD T D' U3)with
       |.ok (.rt<|.sh p) _=>.ok (.rt<|.sh p) U3|.exc x _=>.exc x U3|_=>.bad):=h3
      cases Tz:mt (aZ iT iD T D' U3)with
      |bad=>rw[Tz]at IN;exact IN.elim|exc x U6=>rw[Tz]at IN;exact λo C d F' H' ž s' q=>by rw[hE o n];exact IN n C d F' H' (iz.call ž.gr) s' q
      |ok fl U6=>
       rw[Tz]at IN;cases fl with
       |rt r=>
        cases r with
        |sh p=>exact λv o F' H' ž s' q=>IN v n F' H' (iz.call ž.gr) s' q
        |_=>exact IN.elim
       |_=>exact IN.elim
    ·exact h.elim
  ·exact h.elim
end
abbrev TB:=Hb 1
section
variable{X:Cx}{elts:List È}{k:Nat}{tp:Pos}
def KL(K:Î)(ta:TA):TI:=λb H R=>ta b H λvs H1=>∃a,vs=[.ref a]/\(∃xs,ϱ K H1 a xs)/\R (TB K a) H1
def NL{M:fv}{A:ì}{E:Á->Ä->Prop}{s:Ä}{pos:Pos}{T:String}{args:List (Bool×Sem Á)}{keywords:List (Option Str×Sem Á)}{Q:Á->Ä->Prop}(jQ:args.any (·.1)=false)(OT:keywords.any (·.1.isNone)=false)
 (h:Ï M A (evalArgs (.type T) true args keywords) (λa s₁=>Ï M A (call (.type T) a.pos a.kw) Q E s₁) E s):Ï M A (gC pos (.type T) [] args keywords) Q E s:=by
 unfold gC;refine Ò<|lc<|bu h (λa s₁ h₁=>Ò<|nJ ?_) λ_ _ x=>x;simp only[jQ,OT,vI];refine Ò<|Č ?_;exact Ò<|bu h₁ (λr s₂ hr=>Ò<|lc<|wpAny_point<|Č hr) λ_ _ x=>x
def Fp{l:È}{ta:TA}{p pos cp kp:Pos}{j:Nat}(hg:Gl X "enumerate")(hm:X.mg "enumerate"=none)(ha:PA X [l] ta)(hs:Ð [l] X.env=[(false,eval l X.env)]:=by exact ŋ rfl):
 PI X (.Tuple elts k tp) (.Call (.Name "enumerate" p) [l] [⟨some "start",.Constant (.int 1) j cp,kp⟩] pos) (KL X.K ta):=by
 intro Ç s c H R I h;refine lg (mq I hg hm boot_enumerate<|NL (by rw[hs];rfl) rfl ?_);have h':=ha pos Ç s c H _ I h;rw[hs]at h'⊢;refine evalArgs_kwB rfl<|ϙ h' λus s1 ⟨vs,H1,I1,r1,q1⟩=>kws_cons<|ϙ (xj Ç s1 c H1 (λx H'=>x=.int 1/\H'=H1) I1 ⟨rfl,rfl⟩) λv s2 ⟨x,H2,I2,r2,e1,e2⟩=>kws_nil ?_;subst e1 e2;obtain⟨t,rfl⟩:=r2;obtain⟨a,e,⟨xs,hq⟩,q⟩:=q1;subst e;obtain⟨u,rfl,ru⟩:=r1.one;cases ru;obtain⟨ď,rv,pl,hz⟩:=I2.list hq;refine PQ.Nd pl.isList λh' he mX ph hk=>?_;have I3:Inv X Ç c H2 {s2 with heap:=h'}:=I2.kept (t':=s2.toks) hk;refine wF (s:={s2 with heap:=h'}) he ⟨s2.heap.objs.size+1,[s2.heap.objs.size+1,s2.heap.objs.size],_,_,H2,rfl,I3,vm 1 a _ _<|Nat.succ_ne_self _,⟨⟨_,he⟩,mX⟩,λb hb=>?_,q⟩;have DG:s2.heap.objs.size<=b:=by
  rcases ö.mp hb with rfl|hb
  ·exact wj _
  ·have e':b=s2.heap.objs.size:=by simpa using hb
   exact qV e'.symm
 exact I2.zM DG<|I2.hok.fresh DG
end
@[simp]def AB(m:M (List PV))(U:ċ):ĳ (List PV):=(m U).bind λps U1=>.ok (bQ 1 ps) U1
section
variable{X:Cx}{cm:String->À}{E:Ċ->XK}{e:È}
def Hm{elts:List È}{k j:Nat}{tp p pos cp kp:Pos}{mi:M (List PV)}(hg:Gl X "enumerate")(hm:X.mg "enumerate"=none)(hl:PE X e (tG (kk X cm) E (Ng<|kk X cm) mi))(hs:Ð [e] X.env=[(false,eval e X.env)]:=by exact ŋ rfl):
 PI X (.Tuple elts k tp) (.Call (.Name "enumerate" p) [e] [⟨some "start",.Constant (.int 1) j cp,kp⟩] pos) (tI (kk X cm) E<|AB mi):=λÇ s b H R I h=>Fp hg hm (Ϩ hl cu hs) hs Ç s b H R I (by
 obtain⟨c,F,U,rel,h⟩:=h;refine⟨c,F,U,rel,h.bind λps U1 v F1 H1 è s1 s2 q h1=>?_⟩;obtain⟨a,e1,e2,e3⟩:=q;subst e1;exact⟨a,rfl,e2,h1 _ F1 H1 è č č<|tH 1 e3⟩)
end
end P
namespace Sp
open PySem PySem.Builtin PySem.Builtin.Str PySem.StrLaws
abbrev S(l:List Nat):aJ:=⟨l.toArray⟩
noncomputable def Ł(c:Nat):List Nat->List (List Nat)
 |[]=>[[]]|x::xs=>if x=c then[]::Ł c xs else(match Ł c xs with
  |[]=>[[x]]|p::ps=>(x::p)::ps)
theorem vx(c:Nat):∀l,∃p ps,Ł c l=p::ps
 |[]=>⟨_,_,rfl⟩|x::xs=>by
  unfold Ł;split
  ·exact⟨_,_,rfl⟩
  ·split<;>exact⟨_,_,rfl⟩
noncomputable def qr(c:Nat):Nat->List Nat->List Nat
 |_,[]=>[]|k,x::xs=>if x=c then k::qr c (k+1) xs else qr c (k+1) xs
theorem xX(x:aJ)(c:Nat):∀(m a:Nat) (st:Array Nat×Nat),a+m=x.length+1->st.1.size<=a->st.2<=a->(forIn (jc a m) st<|occBody x (S [c]) x.length<|x.length+1).run.fst.toList=st.1.toList++qr c a (x.cps.toList.drop a)
 |0,a,st,h,_,_=>by have:x.cps.toList.drop a=[]:=ja (by simp[cj]at h⊢;lia);rw[this];simp[qr]|m+1,a,st,h,h1,h2=>by
  rw[we,nn];unfold occBody;have hl:x.cps.toList.length=x.length:=by simp[cj]
  by_cases ha:a<x.length
  ·have hd:x.cps.toList.drop a=x.cps.toList[a]::x.cps.toList.drop (a+1):=kY (by lia);have hs:subAt x (S [c]) a=decide (x.cps.toList[a]=c):=by
    rw[subAt_eq,hd];show(List.take 1 _==[c])=_;rw[AW,List.take_zero,gp];simp
   by_cases hc:x.cps.toList[a]=c
   ·rw[if_pos ⟨⟨⟨by lia,h2⟩,show a+1<=x.length by lia⟩,by rw[hs];simpa using hc⟩];have ih:=xX x c m (a+1) (st.1.push a,a+1) (by lia) (by simp;lia)<|ø _;refine ih.trans ?_;rw[hd,qr,if_pos hc];simp
   ·rw[if_neg λz=>hc (by have:=z.2;rw[hs]at this;simpa using this)];have ih:=xX x c m (a+1) (st.1,st.2) (by lia) (by show st.1.size<=a+1;lia) (by show st.2<=a+1;lia);refine ih.trans ?_;rw[hd,qr,if_neg hc]
  ·rw[if_neg λz=>ha (by have:=z.1.2;show a<x.length;have e:(S [c]).length=1:=rfl;lia)];have ih:=xX x c m (a+1) (st.1,st.2) (by lia) (by show st.1.size<=a+1;lia) (by show st.2<=a+1;lia);refine ih.trans ?_;have e1:x.cps.toList.drop a=[]:=ja (by lia);have e2:x.cps.toList.drop (a+1)=[]:=ja (by lia);rw[e1,e2];rfl
def KN(x:aJ)(c:Nat):jh x (S [c]) 0 x.length (x.length+1)=qr c 0 x.cps.toList:=by rw[occ_eq,xX x c _ 0 _ (by lia) (ø _)<|ø _];simp
def Fq(x:aJ)(i j:Nat):strSub x i j=S ((x.cps.toList.drop i).take (j-i)):=by apply jj;apply Array.toList_inj.mp;rw[strSub_toList]
theorem tY(x:aJ)(c:Nat):∀(m a b:Nat),b+m=x.length->a<=b->∀p ps,Ł c (x.cps.toList.drop b)=p::ps->partsFrom x 1 a (qr c b<|x.cps.toList.drop b)=S ((x.cps.toList.drop a).take (b-a)++p)::ps.map S
 |0,a,b,h,Ld,p,ps,e=>by
  have hl:x.cps.toList.length=x.length:=by simp[cj]
  have:x.cps.toList.drop b=[]:=ja (by lia);rw[this]at e⊢;cases e;show[strSub x a x.length]=_;rw[Fq,show x.length=b by lia];simp
 |m+1,a,b,h,Ld,p,ps,e=>by
  have hl:x.cps.toList.length=x.length:=by simp[cj]
  have hd:x.cps.toList.drop b=x.cps.toList[b]::x.cps.toList.drop (b+1):=kY (by lia);obtain⟨q,qs,eq⟩:=vx c<|x.cps.toList.drop<|b+1;rw[hd]at e⊢;rw[Ł]at e;rw[qr];by_cases hc:x.cps.toList[b]=c
  ·rw[if_pos hc]at e⊢;cases e;show strSub x a b::partsFrom x 1 (b+1) (qr c (b+1)<|x.cps.toList.drop<|b+1)=_;rw[tY x c m (b+1) (b+1) (by lia) (ø _) q qs eq,Fq,eq];simp
  ·rw[if_neg hc]at e⊢;rw[eq]at e;injection e with e1 e2
   subst e1 e2;rw[tY x c m a (b+1) (by lia) (by lia) q qs eq];congr 2;have:(x.cps.toList.drop a).take (b+1-a)=(x.cps.toList.drop a).take (b-a)++[x.cps.toList[b]]:=by rw[show b+1-a=(b-a)+1 by lia,List.take_succ];congr 1;rw[List.getElem?_drop,show a+(b-a)=b by lia,ũ<|by lia];rfl
   rw[this];simp
theorem Cc(c:Nat):∀(l:List Nat) (k:Nat),qr c k l=[]->Ł c l=[l]
 |[],k,_=>rfl|x::xs,k,h=>by
  unfold qr at h;split at h
  ·cases h
  ·rename_i hc;unfold Ł;rw[if_neg hc,Cc c xs (k+1) h]
theorem KO(c:Nat):∀(l:List Nat),c∉l->Ł c l=[l]
 |[],_=>rfl|x::xs,h=>by unfold Ł;rw[if_neg λz=>h (by simp[z]),KO c xs λz=>h<|ð _ z]
def NM{c:Nat}(h:c<256):lx (S [c])=1:=by unfold lx;rw[if_pos<|by simpa using h]
def Hn(x:aJ):1<=lx x:=by
 unfold lx;split
 ·lia
 ·split<;>lia
def Fs(x:aJ){c:Nat}(h:c<256):Txt.split x (S [c])=(Ł c x.cps.toList).map S:=by
 have hl:x.cps.toList.length=x.length:=by simp[cj]
 have whole:S x.cps.toList=x:=jj (by simp);have hk:=Hn x;unfold Txt.split;split
 ·rename_i h1;rw[NM h]at h1;have h0:x.length=0:=by
   simp only[m_,decide_eq_true_eq]at h1;have e:(S [c]).length=1:=rfl;lia
  have:x.cps.toList=[]:=qL.mp (by lia);have e:Ł c x.cps.toList=[x.cps.toList]:=KO c _ (by rw[this];simp);rw[e,á,ϟ,whole]
 ·rw[KN];split
  ·rename_i h2;rw[Cc c _ 0 (by simpa using h2),á,ϟ,whole]
  ·obtain⟨p,ps,e⟩:=vx c x.cps.toList;rw[partsBetween_eq];have:=tY x c x.length 0 0 (by lia) (ø _) p ps (by rw[qK];exact e);rw[qK]at this;rw[e];show partsFrom x 1 0 _=_;rw[this];simp
theorem jG(c:Nat):∀(ys:List (List Nat)),ys≠[]->(∀y∈ys,c∉y)->Ł c (M4.ţ [c] ys)=ys
 |[],h,_=>absurd rfl h|[x],_,hn=>KO c x (hn x<|by simp)|x::y::r,_,hn=>by
  have ih:=jG c (y::r) (by simp) λz hz=>hn z<|ð _ hz;have go:∀(x:List Nat),c∉x->Ł c (x++[c]++M4.ţ [c] (y::r))=x::y::r:=by
   intro x
   induction x with
   |nil=>intro _;show Ł c (c::M4.ţ [c] (y::r))=_;rw[Ł,if_pos rfl,ih]|cons a x ihx=>intro h;show Ł c (a::(x++[c]++M4.ţ [c] (y::r)))=_;rw[Ł,if_neg λz=>h (by simp[z]),ihx λz=>h<|ð _ z]
  exact go x (hn x<|by simp)
theorem tZ(c:Nat):∀l,(Ł c l).length<=l.length+1
 |[]=>by simp[Ł]|x::xs=>by
  have ih:=tZ c xs;unfold Ł;split
  ·simp;lia
  ·split
   ·simp
   ·rename_i e;rw[e]at ih;simp at ih⊢;lia
end Sp
namespace P
open PySem PySem.Spec PyProof.Rows L2 M2 M3 M4 PySem.Builtin PySem.Builtin.Str
section
variable{prog:ë}{w:â}{A:ì}{E:Á->Ä->Prop}{s:Ä}{x y:aJ}{t u:Tok}{Q:Á->Ä->Prop}
def Ho(hy:(y.length==0)=false)(hq:∀l k,l.map (·.1)=Txt.split x y->Q (.ref s.heap.objs.size) {s with heap:=s.heap.push {cls:=.type "list",data:=.seq (strValues l).toArray},toks:=k})
 (ph:x.length<=sizeLine)(VB:(partsBetween x (jh x y 0 x.length<|x.length+1) y.length).length<=sizeLine):Ï (Ü prog w) A (call (.builtin "str.split") [.str x t,.str y u]) Q E s:=by
 cases h1:(decide (x.length<y.length)||decide (lx x<lx y))
 ·cases hf:(jh x y 0 x.length<|x.length+1).isEmpty
  ·refine li ji (lh _ _ _) wN (wO _ _) (meets_str_split_sep x y t u h1 hy hf ph VB) ?_;show wants Q E _ {s with toks:=_,heap:=s.heap.push {cls:=.type "list",data:=.seq (strsFrom s.toks<|partsBetween x (jh x y 0 x.length<|x.length+1) y.length).toArray}};rw[strsFrom_eq];exact hq (numbered s.toks _) _<|(numbered_texts _ _).trans ((if_neg<|ne_true_of_eq_false h1).trans (if_neg<|ne_true_of_eq_false hf)).symm
  ·exact li ji (lh _ _ _) wN (wO _ _) (meets_str_split_not_found x y t u h1 hy hf)<|hq [(x,t)] s.toks ((if_neg<|ne_true_of_eq_false h1).trans (if_pos hf)).symm
 ·exact li ji (lh _ _ _) wN (wO _ _) (meets_str_split_cannot_occur x y t u h1)<|hq [(x,t)] s.toks (if_pos h1).symm
end
theorem lG:∀(l:List (aJ×Tok)) (ys:List (List Nat)),l.map (·.1)=ys.map S->ł (ys.map λy=>V.str<|S y) (strValues l)
 |[],[],_=>.nil|[],_::_,h=>by cases h|_::_,[],h=>by cases h|(a,t)::l,y::ys,h=>by
  rw[á,á]at h;injection h with h1 h2
  have qy:a=S y:=h1;subst qy;exact .cons ⟨t,rfl⟩<|lG l ys h2
def AC:V->List V->Hp->VK->Prop:=λx xs H Q=>match x,xs with
 |.str z,[.str y]=>∃c,y=S [c]/\c<256/\z.length+2<=16777216/\∀p,H p=none->Q (.ref p) (upd H p<|.lst<|(Sp.Ł c z.cps.toList).map λl=>.str<|S l)
 |_,_=>False
def oN{X:Cx}:H_ X "str.split" AC:=by
 intro Ç s a H x xs v us Q I rx rs h;unfold AC at h;split at h
 ·rename_i z y;obtain⟨c,rfl,hc,hz,q⟩:=h;obtain⟨t,rfl⟩:=rx;obtain⟨u,rfl,ru⟩:=vals1 rs;obtain⟨t',rfl⟩:=ru;have hl:z.cps.toList.length=z.length:=by simp[cj]
  refine Ho rfl (λl k e=>?_) (by rw[dW];lia) (by rw[length_partsBetween,dW];have:=StrLaws.occ_length_le z (S [c]) 0 z.length<|z.length+1;lia);rw[Sp.Fs z hc]at e;have hn:(strValues l).length<=sizeLine:=by have:=(lG l _ e).length;rw[<-this,ħ,dW];have:=Sp.tZ c z.cps.toList;lia
  refine⟨.ref s.heap.objs.size,_,I.laid (o:=.lst<|(Sp.Ł c z.cps.toList).map λl=>.str<|S l) (t':=k) (λb u q=>ă _ q) (ø _) ⟨?_,strValues l,0,lG l _ e,Į _ rfl⟩,rfl,q _ I.fresh⟩;rw[(lG l _ e).length];exact hn
 ·exact h.elim
def Wp(K:KK)(r:V->List V->Hp->VK->Prop)(f:PV->List PV->Option RV):Prop:=∀{c:Ctx}{F H:Hp}{a:Ċ}{U:ċ}{p:PV}{ps:List PV}{pv:RV}{v:V}{vs:List V}{Q:VK},ĝ K c F H a U->rR K c a U F H p v->JV K c a U F H ps vs->f p ps=some pv->
 (∀z F' H',ĝ K c F' H' a U->Þ F F'->Þ H H'->rO K c a U F' H' pv z->Q z H')->r v vs H Q
@[simp]def AD(f:PV→List PV→Option RV)(mo:M PV)(ms:M (List PV))(U:ċ):ĳ RV:=(mo U).bind fun p U1=>match p with
  |.str _=>(ms U1).bind λps U2=>ĳ.yJ (f p ps) U2
  |_=>.bad
def Db:aJ->Option Nat:=λy=>match y.cps.toList with
 |[c]=>some c|_=>none
def fX:PV->List PV->Option RV
 |.str z,[.str y]=>(Db y).bind λc=>if c<256/\z.length+2<=16777216then some (.ow<|(Sp.Ł c z.cps.toList).map λl=>.str<|S l)else none
 |_,_=>none
theorem vy{K:KK}{F:Hp}:∀ys:List (List Nat),é K F (ys.map λl=>.str<|S l)<|ys.map λl=>.str<|S l
 |[]=>é.nil|y::ys=>é.cons Ĉ.str<|vy ys
def oO{K:KK}:Wp K AC fX:=by
 intro c F H a U p ps pv v vs Q rel r1 r2 e k;unfold fX at e;split at e
 ·rename_i z y;cases r1.str;obtain⟨u,rfl,r3⟩:=ut r2;cases r3.str;obtain⟨c',ec,e⟩:=nD.mp e;split at e
  ·rename_i hz;cases e;have ey:y=S [c']:=by
    unfold Db at ec;split at ec
    ·rename_i c2 e2;cases ec;exact jj (by rw[show y.cps=y.cps.toList.toArray by simp,e2])
    ·cases ec
   refine⟨c',ey,hz.1,hz.2,λq hq=>?_⟩;obtain⟨a1,a2⟩:=iy rel hq<|vy (K:=K) (F:=F)<|Sp.Ł c' z.cps.toList;exact k _ F _ a1 č (Þ.upd hq) a2
  ·cases e
 ·cases e
section
variable{X:Cx}{cm:String->À}{K:KK}{E:Ċ->XK}{o e:È}{es:List È}{name:Str}{cB dq:Pos}{id:String}{r:V->List V->Hp->VK->Prop}{f:PV->List PV->Option RV}{mo:M PV}{ms:M (List PV)}
def Hq(pa:rn "str")(slot:wE "str" name id)(ke:typeOf (.builtin id)=ñ (.type "method_descriptor"))(hf:Wp (kk X cm) r f)(hm:H_ X id r)(ho:PE X o (tR (kk X cm) E mo))(ha:PA X (e::es) (EC (kk X cm) E ms))
 (iV:cS o name X.env (eval o X.env)=eval o X.env:=by kernel_rfl)
 (pO:((Ć dq<|Ð (e::es) X.env).all (fun x=>!x.1)&&(bv dq<|bz [] X.env).all (fun x=>x.1.isSome)
   &&decide ((e::es).length+([]:List ϣ).length+(if([]:List ϣ).isEmpty then 0 else 1)<30))=true:=by rfl)
 (iW:(cB.endLine==dq.line)=true:=by rfl)(hs:Ð (e::es) X.env=(false,eval e X.env)::Ð es X.env:=by exact ŋ rfl)(jQ:(Ć dq<|Ð es X.env).any (·.1)=false:=by kernel_rfl):
 PE X (.Call (.Attribute o name cB) (e::es) [] dq) (tO (kk X cm) E<|AD f mo ms):=
 PE.wk (fQ pa slot ke hm ho ha iV pO iW hs jQ) fun a H Q ⟨c,F,U,rel,h⟩=>⟨c,F,U,rel,Ϸ.bind h fun p U1 v F1 H1 è _ _ r1 h1=>by
   cases p with
   |str z=>
    cases r1.str;refine⟨rfl,c,F1,U1,è,Ϸ.bind h1 λps U2 vs F2 H2 ę sF sH r2 h2=>?_⟩;cases ef:f (.str z) ps with
    |none=>rw[ef]at h2;exact h2.elim|some pv=>rw[ef]at h2;exact hf ę (.inl<|Ĉ.str (K:=kk X cm) (F:=F2)) r2 ef λz F' H' ž s1 s2 q'=>h2 z F' H' ž s1 s2 q'
   |_=>exact h1.elim⟩
end
section
variable{X:Cx}{K:KK}
def IA:List V->Hp->VK->Prop:=λxs H Q=>E3 xs H Q\/∃z n,xs=[.str z]/\nO z=some n/\z.length<=640/\Q (.int n) H
def Cd:ő X (.type "int") IA:=by
 intro Ç s a H vs us Q I r h;rcases h with h|⟨z,n,rfl,h1,h2,q⟩
 ·exact Ke Ç s a H vs us Q I r h
 ·obtain⟨u,rfl,ru⟩:=vals1 r;obtain⟨t,rfl⟩:=ru;exact PySem.W.KIN.call_text h1 h2 ⟨.int n,H,I.tok _,⟨_,rfl⟩,q⟩
def iG:List PV->Option PV
 |[.str z]=>if z.length<=640then(nO z).map .int else none|ps=>yU ps
def Ce:dG K IA iG:=by
 intro c F H a U ps pv vs Q rel r e k;unfold iG at e;split at e
 ·rename_i z;split at e
  ·rename_i hz;obtain⟨n,e1,rfl⟩:=fk.mp e;obtain⟨v,rfl,r1⟩:=ut r;cases r1.str;exact .inr ⟨z,n,rfl,e1,hz,k _ F H rel č č Ĉ.int⟩
  ·cases e
 ·exact .inl<|Kf rel r e k
def IB:List V->Hp->VK->Prop:=λxs H Q=>E4 xs H Q\/∃z,xs=[.str z]/\Q (.str z) H
def sC:ő X (.type "str") IB:=by
 intro Ç s a H vs us Q I r h;rcases h with h|⟨z,rfl,q⟩
 ·exact Kg Ç s a H vs us Q I r h
 ·obtain⟨u,rfl,ru⟩:=vals1 r;obtain⟨t,rfl⟩:=ru;exact PySem.P.str_of_str ⟨.str z,H,I,⟨t,rfl⟩,q⟩
def fY:List PV->Option PV
 |[.str z]=>some<|.str z|ps=>G3 ps
def sD:dG K IB fY:=by
 intro c F H a U ps pv vs Q rel r e k;unfold fY at e;split at e
 ·cases e;obtain⟨v,rfl,r1⟩:=ut r;cases r1.str;exact .inr ⟨_,rfl,k _ F H rel č č Ĉ.str⟩
 ·exact .inl<|Kh rel r e k
@[simp]theorem NO{z:aJ}:iG [.str z]=if z.length<=640then(nO z).map .int else none:=rfl
@[simp]theorem NP{i:Int}:iG [.int i]=some (.int i):=rfl
@[simp]theorem NQ{i:Bool}:iG [.bl i]=some (.int<|if i then 1 else 0):=rfl
@[simp]theorem NR{z:aJ}:fY [.str z]=some (.str z):=rfl
@[simp]theorem NT{i:Int}:fY [.int i]=if i.natAbs.log2<1920then some (.str<|fG i)else none:=rfl
end
@[simp]def Ft(mb:M Fl)(U:ċ):ĳ Fl:=match mb U with
  |.ok f U1=>.ok f U1|_=>.bad
section
variable{X:Cx}{cm:String->À}{E:Ċ->XK}
def KP{body:List ò}{h0:nN}{hs:List nN}{pos:Pos}{mb:M Fl}
 (hb:∀(xe:Á->Ä->Prop) (Ç:List (À×Obj)) (Et:Ċ->XK),dB (C_ X xe Ç) body<|tS (kk X cm) Et mb):PS X (.Try body (h0::hs) [] [] pos) (tS (kk X cm) E<|Ft mb):=by
 rintro Ç s a H D I ⟨c,F,U,rel,h⟩;refine wpAny_Try_except ?_;have J:Inv (C_ X (λe s₁=>Ï (Ü X.prog X.w) X.A (noteFrame e X.env) (λ_ s₂=>Ï (Ü X.prog X.w) X.A (setFlight e none) (λ_ s₃=>Ï (Ü X.prog X.w) X.A (handleBy e X.env (h0::hs)) (SP X Ç D) X.xe s₃) X.xe s₂) X.xe s₁) Ç) [] a H s:=Inv.MX I;refine ϙ (hb _ Ç (λ_ _ _ _=>False) [] s a H D J ⟨c,F,U,rel,?_⟩) λf s1 q=>?_
 ·unfold Ft at h;cases em:mb U with
  |bad=>rw[em]at h;exact h|exc x U1=>rw[em]at h;exact h.elim|ok f U1=>rw[em]at h;cases f<;>exact h
 ·have q':=SP.vh q;cases f with
  |next=>exact nH q'|brk=>exact q'|cont=>exact q'|ret u=>exact q'
end
end P
namespace Sp
open PySem PySem.Builtin PySem.Builtin.Str PySem.StrLaws
def NU(x:aJ)(c:Nat):(!(jh x (S [c]) 0 x.length 1).isEmpty)=decide (c∈x.cps.toList):=by
 have hl:x.cps.toList.length=x.length:=by simp[cj]
 have h:=occ_none x (S [c]) x.length (jc 0<|x.length+1) 0<|λ_ _=>dS _;have e:(jh x (S [c]) 0 x.length 1).isEmpty=true↔¬c∈x.cps.toList:=by
  rw[occ_eq];rw[List.isEmpty_iff,Array.toList_eq_nil_iff];refine h.trans ?_;have hs:∀i,(hi:i<x.length)->(subAt x (S [c]) i=true↔x.cps.toList[i]'(by lia)=c):=λi hi=>by rw[subAt_eq,kY<|by lia];show((List.take 1 _==[c])=true)↔_;rw[AW,List.take_zero];simp
  constructor
  ·intro q z;obtain⟨i,hi,e⟩:=List.getElem_of_mem z;exact q i (by simp;lia) ⟨show i+1<=x.length by lia,(hs i<|by lia).mpr e⟩
  ·rintro q i _ ⟨z1,z2⟩;have z1':i+1<=x.length:=z1;exact q ((hs i<|by lia).mp z2▸Ū _)
 cases q:(jh x (S [c]) 0 x.length 1).isEmpty with
 |true=>have:=e.mp q;simp[this]|false=>
  have:c∈x.cps.toList:=AL λz=>by rw[e.mpr z]at q;cases q
  simp[this]
end Sp
namespace P
open PySem PySem.Spec PyProof.Rows L2 M2 M3 M4
def TC:R2:=λx y H Q=>∃c z,x=.str (S [c])/\y=.str z/\Q (.bl<|decide<|c∈z.cps.toList) H
def Cf(p q:PV):Option PV:=match p,q with
 |.str y,.str z=>(Db y).map λc=>.bl<|decide<|c∈z.cps.toList
 |_,_=>Cs false p q
def NW(K:Î):R2:=λx y H Q=>TC x y H Q\/Hh K false x y H Q
section
variable{X:Cx}{K:KK}
def t_(hu:X.A.units+64<Ź):aA X (ī .In) (NW X.K):=by
 intro Ç s a H x y v u Q I rx ry h;rcases h with⟨c,z,rfl,rfl,q⟩|h
 ·obtain⟨t,rfl⟩:=rx;obtain⟨t',rfl⟩:=ry;refine in_str ?_;rw[Sp.NU z c];exact⟨.bl _,H,I,rfl,q⟩
 ·exact Kp hu Ç s a H x y v u Q I rx ry h
def ua:kl K (NW K.K) Cf:=by
 intro c F H a U p q pv v u Q rel r1 r2 e k;unfold Cf at e;split at e
 ·rename_i y z;obtain⟨c',ec,rfl⟩:=fk.mp e;cases r1.str;cases r2.str;have ey:y=S [c']:=by
   unfold Db at ec;split at ec
   ·rename_i c2 e2;cases ec;exact jj (by rw[show y.cps=y.cps.toList.toArray by simp,e2])
   ·cases ec
  exact .inl ⟨c',z,by rw[ey],rfl,k _ F H rel č č Ĉ.bl⟩
 ·exact .inr<|Ff rel r1 r2 e k
end
@[simp]theorem TD{c:Nat}{z:aJ}:Cf (.str ⟨#[c]⟩) (.str z)=some (.bl<|decide<|c∈z.cps.toList):=rfl
@[simp]theorem Qi{p:PV}{ps:List PV}:Cf p (.lst ps)=Cs false p (.lst ps):=by cases p<;>rfl
@[simp]theorem Qj{p:PV}{ps:List PV}:Cf p (.tup ps)=Cs false p (.tup ps):=by cases p<;>rfl
mutual
def mQ(K:Î)(cm:String->À):PV->Á->Bool
 |.int i,v=>match v with
   |.int j _=>decide<|i=j|_=>false
 |.cls C,v=>match v with
   |.ref a=>decide<|a=cm C|_=>false
 |.tup ps,v=>match v with
   |.ref a=>match K.lookup a with
     |some o=>(match o.cls with
      |.type t=>decide<|t="tuple"|_=>false)&&match o.data with
      |.seq ď _=>decide (ď.size<=16777216)&&zq K cm ps ď.toList|_=>false
     |none=>false
   |_=>false
 |_,_=>false
def zq(K:Î)(cm:String->À):List PV->List Á->Bool
 |[],vs=>vs.isEmpty|p::ps,vs=>match vs with
  |v::r=>mQ K cm p v&&zq K cm ps r|[]=>false
end
mutual
theorem zr{K:KK}:∀(p:PV) (v:Á),mQ K.K K.cm p v=true->∃x,RelV x v/\∀F,Ĉ K F p x
 |.int i,v,h=>by
   unfold mQ at h;split at h
   ·rename_i j t;have:=of_decide_eq_true h;subst this;exact⟨.int i,⟨t,rfl⟩,λF=>by unfold Ĉ;rfl⟩
   ·cases h
 |.cls C,v,h=>by
   unfold mQ at h;split at h
   ·rename_i a;have:=of_decide_eq_true h;subst this;exact⟨.ref<|K.cm C,rfl,λF=>by unfold Ĉ;rfl⟩
   ·cases h
 |.tup ps,v,h=>by
   unfold mQ at h;split at h
   ·rename_i a;split at h
    ·rename_i o ho;rw[Ă]at h;obtain⟨h1,h2⟩:=h;split at h1
     ·rename_i t ht;have et:=of_decide_eq_true h1;subst et;split at h2
      ·rename_i ď n hd;rw[Ă]at h2;obtain⟨xs,h3,h4⟩:=vz ps ď.toList h2.2;refine⟨.ref a,rfl,λF=>?_⟩;unfold Ĉ;exact⟨a,xs,rfl,.inr ⟨o,ď,n,ho,ht,hd,by rw[Ĝ];exact of_decide_eq_true h2.1,h3⟩,h4 F⟩
      ·cases h2
     ·cases h1
    ·cases h
   ·cases h
 |.non,_,h=>by unfold mQ at h;cases h|.bl _,_,h=>by unfold mQ at h;cases h|.str _,_,h=>by unfold mQ at h;cases h|.lst _,_,h=>by unfold mQ at h;cases h|.ins _ _ _,_,h=>by unfold mQ at h;cases h|.xc _ _ _,_,h=>by unfold mQ at h;cases h|.ty _,_,h=>by unfold mQ at h;cases h|.Dx _ _,_,h=>by unfold mQ at h;cases h
theorem vz{K:KK}:∀(ps:List PV) (vs:List Á),zq K.K K.cm ps vs=true->∃xs,ł xs vs/\∀F,é K F ps xs
 |[],vs,h=>by
   unfold zq at h;cases vs with
   |nil=>exact⟨[],.nil,λF=>é.nil⟩
   |cons _ _=>cases h
 |p::ps,vs,h=>by
  unfold zq at h;cases vs with
  |nil=>cases h|cons v r=>rw[Ă]at h;obtain⟨x,h1,h2⟩:=zr p v h.1;obtain⟨xs,h3,h4⟩:=vz ps r h.2;exact⟨x::xs,.cons h1 h3,λF=>é.cons (h2 F)<|h4 F⟩
end
noncomputable def Dc(K:Î)(cm:String->À):List (Str×PV)->List gB->Bool
 |[],es=>es.isEmpty|(x,p)::t,es=>match es with
  |e::r=>fE x e.key&&mQ K cm p e.val&&Dc K cm t r|[]=>false
theorem ub{K:Î}{cm:String->À}(z:Str):∀{aj:List (Str×PV)}{es:List gB},Dc K cm aj es=true->(aj.lookup z=none/\(es.find? λe=>fE z e.key)=none)\/∃p e,aj.lookup z=some p/\(es.find? λe=>fE z e.key)=some e/\mQ K cm p e.val=true
 |[],es,h=>by
   unfold Dc at h;cases es with
   |nil=>exact .inl ⟨rfl,rfl⟩|cons _ _=>cases h
 |(x,p)::t,es,h=>by
  unfold Dc at h;cases es with
  |nil=>cases h|cons e r=>
   dsimp only at h;rw[Ă,Ă]at h;obtain⟨⟨h1,h2⟩,h3⟩:=h;by_cases hz:z=x
   ·subst hz;exact .inr ⟨p,e,by simp,by simp[h1],h2⟩
   ·have n1:fE z e.key=false:=by
     cases q:fE z e.key with
     |false=>rfl|true=>exact absurd (Value.isStrOf_inj _ _ _ q h1) hz
    have n2:(z==x)=false:=by simpa using hz
    rcases ub z h3 with⟨q1,q2⟩|⟨p',e',q1,q2,q3⟩
    ·exact .inl ⟨by rw[Ř,n2];exact q1,by rw[qP,n1];exact q2⟩
    ·exact .inr ⟨p',e',by rw[Ř,n2];exact q1,by rw[qP,n1];exact q2,q3⟩
def xY(K:Î)(cm:String->À)(P:gy)(a:À)(aj:List (Str×PV)):Prop:=∃es n,K.lookup a=some ⟨.type "dict",none,.dict es n,#[]⟩/\PySem.W.KeysLit P es.toList/\Dc K cm aj es.toList=true/\(a==nE)=false
noncomputable def Hr(nm:String)(aj:List (Str×PV)):PV->PV->Option PV
 |.str z,.cls n=>if n=nm then some (.bl<|!(aj.lookup z).isSome)else none|_,_=>none
def Hs(nm:String)(aj:List (Str×PV)):PV->PV->Option PV
 |.cls n,.str z=>if n=nm then aj.lookup z else none|_,_=>none
def IC(a:À)(aj:List (Str×PV)):R2:=λx y H Q=>∃z,x=.str z/\y=.ref a/\Q (.bl<|!(aj.lookup z).isSome) H
def ID(K:KK)(a:À)(aj:List (Str×PV)):R2:=λx y H Q=>∃z p,x=.ref a/\y=.str z/\aj.lookup z=some p/\∀v,(∀F,Ĉ K F p v)->Q v H
def qa(z:Str)(es:Array gB):findBy fE es z=(es.toList.find? λe=>fE z e.key).map (·.val):=by obtain⟨l⟩:=es;unfold findBy;rw[List.find?_toArray]
section
variable{X:Cx}{cm:String->À}{a:À}{aj:List (Str×PV)}{nm:String}
def Ht(h:xY X.K cm X.w.params a aj):aA X (ī .NotIn) (IC a aj):=by
 intro Ç s b H x y v u Q I rx ry hq;obtain⟨z,rfl,rfl,q⟩:=hq;obtain⟨t,rfl⟩:=rx;cases ry;obtain⟨es,n,h1,h2,h3,h4⟩:=h;refine wpAny_notIn_of (strKind_is X.prog X.w z t) h4 (PySem.W.mapOf_K (prog:=X.prog) I.mj h1 h2) ⟨.bl _,H,I.tok _,rfl,?_⟩;have e:(findBy fE es z).isSome=(aj.lookup z).isSome:=by rw[qa];rcases ub z h3 with⟨q1,q2⟩|⟨p,e,q1,q2,q3⟩<;>rw[q1,q2]<;>rfl
 rw[e];exact q
def KQ(h:xY X.K cm X.w.params a aj):zA X (ID (kk X cm) a aj):=by
 intro value slice Ç s b H x y v u Q I rx ry hq hs;obtain⟨z,p,rfl,rfl,hl,q⟩:=hq;cases rx;obtain⟨t,rfl⟩:=ry;obtain⟨es,n,h1,h2,h3,h4⟩:=h;have hm:=PySem.W.mapOf_K (prog:=X.prog) (w:=X.w) I.mj h1 h2;rcases ub z h3 with⟨q1,q2⟩|⟨p',e,q1,q2,q3⟩
 ·rw[q1]at hl;cases hl
 ·rw[q1]at hl;cases hl;obtain⟨x,r1,r2⟩:=zr (K:=kk X cm) p e.val q3;refine tail_any hm.typeIs slot_dict_getitem.lookup (wpAny_getItem_of (strKind_is X.prog X.w z t) hm (v:=e.val) ?_ ⟨x,H,I.tok _,r1,q x r2⟩) hs;rw[qa,q2];rfl
def Hv(ha:cm nm=a):kl (kk X cm) (IC a aj) (Hr nm aj):=by
 intro c F H b U p q pv v u Q rel r1 r2 e k;unfold Hr at e;split at e
 ·rename_i z n;split at e
  ·rename_i hn;subst hn;cases e;cases r1.str;have r2':u=.ref (cm n):=by
    rcases r2 with r2|r2
    ·unfold Ĉ at r2;exact r2
    ·exact r2.elim
   subst r2';exact⟨z,rfl,by rw[ha],k _ F H rel č č (by unfold Ĉ;rfl)⟩
  ·cases e
 ·cases e
def Hw(ha:cm nm=a):kl (kk X cm) (ID (kk X cm) a aj) (Hs nm aj):=by
 intro c F H b U p q pv v u Q rel r1 r2 e k;unfold Hs at e;split at e
 ·rename_i n z;split at e
  ·rename_i hn;subst hn;cases r2.str;have sE:v=.ref (cm n):=by
    rcases r1 with r1|r1
    ·unfold Ĉ at r1;exact r1
    ·exact r1.elim
   subst sE;exact⟨z,pv,by rw[ha],rfl,e,λx hx=>k x F H rel č č<|hx F⟩
  ·cases e
 ·cases e
end
def Cg(X:Cx)(cm:String->À)(CX:gJ)(k n:Nat)(C:String)(mf:MF):Prop:=∃fd ps,bC X.K (.ref<|cm C)=true/\bO X.prog X.w X.K X.mg X.base CX k (cm C) fd ps (u_ (kk X cm) n mf)/\Binds X.K fd ps []/\
 ∀{ps:List Slot},(∃r,mf ps=r/\∀z,r=z->z≠.bad)->ps.length=n
@[simp]def Hx(aj:List (String×MF))(mo:M PV)(ms:M (List Slot))(U:ċ):ĳ RV:=(mo U).bind fun p U1=>match p with
  |.cls C=>(match aj.lookup C with
    |some mf=>(ms U1).bind λas U2=>match mf as with
     |.ret r=>.ok r U2|.exc x=>.exc x U2|.bad=>.bad
    |none=>.bad)
  |_=>.bad
section
variable{X:Cx}{cm:String->À}{E:Ċ->XK}{CX:gJ}{k n:Nat}{aj:List (String×MF)}{m:M PV}{ms:M (List Slot)}{o e:È}{es:List È}{pos:Pos}
def Hy{c:Ctx}{F H:Hp}{a:Ċ}{U:ċ}{Q:VK}(h:Ϸ (kk X cm) E (rO<|kk X cm) c F H a Q (Hx aj m ms U))(mO:tD (λC mf=>Cg X cm CX k n C mf) aj):
 Ϸ (kk X cm) E (rV<|kk X cm) c F H a (λx H1=>∃g fd ps mf,x=.ref g/\bC X.K (.ref g)=true/\bO X.prog X.w X.K X.mg X.base CX k g fd ps (u_ (kk X cm) n mf)/\Binds X.K fd ps []/\
  tA (kk X cm) E ms a H1 λvs H2=>u_ (kk X cm) n mf vs H2 Q<|E a) (m U):=
 Ϸ.bind h λp U1 v F1 H1 è _ _ r1 h1=>by
  cases p with
  |cls C=>
   dsimp only at h1;cases el:aj.lookup C with
   |none=>rw[el]at h1;exact h1.elim|some mf=>rw[el]at h1;dsimp only at h1;obtain⟨fd,qs,k2,k3,k4,k5⟩:=mO.get el;have sE:Ĉ (kk X cm) F1 (.cls C) v:=r1;unfold Ĉ at sE;subst sE;exact⟨_,fd,qs,mf,rfl,k2,k3,k4,c,F1,U1,è,Ϸ.bind h1 λas U2 vs F2 H2 ę sF sH r3 h3=>sU k5 ę r3 h3⟩
  |_=>exact h1.elim
def NX(mO:tD (λC mf=>Cg X cm CX k n C mf) aj)(hr:ϛ k X.A)(hx:cY CX X E)(he:PE X o (tV (kk X cm) E m))(ha:PA X (e::es) (tA (kk X cm) E ms))
 (mZ:Ð (e::es) X.env=(false,eval e X.env)::Ð es X.env:=by exact ŋ rfl)(hpl:(Ć pos<|Ð es X.env).any (·.1)=false:=by kernel_rfl)
 (ht:eval (.Call o (e::es) [] pos) X.env=(do gC pos (<-eval o X.env) [] (Ć pos<|Ð (e::es) X.env) (bv pos<|bz [] X.env)):=by rfl):
 PE X (.Call o (e::es) [] pos) (tO (kk X cm) E<|Hx aj m ms):=by
 rintro Ç s a H Q I ⟨c,F,U,rel,h⟩;rw[ht];refine Ò<|ϙ (he Ç s a H _ I ⟨c,F,U,rel,Hy h mO⟩) λu s1 zz=>?_;obtain⟨x,H1,I1,rx,g,fd,ps,mf,ex,k2,k3,k4,q⟩:=zz;subst ex;obtain rfl:u=ń g:=rx;refine nZ (h₀:=X.base) I.ok.mod.HU k2 (ϙ (ha pos Ç s1 a H1 _ I1 q) λus s2 ⟨vs,H2,I2,r,q2⟩=>⟨I2.mj,?_⟩) mZ hpl;exact oz k3 hr k4 hx I2 r q2
end
inductive MR where
 |ret (p:PV) (ns:List Str) (ps:List PV) (q:Option (List PV))|exc (x:PX) (ns:List Str) (ps:List PV) (q:Option (List PV))|bad
abbrev MM:=List Str->List PV->Option (List PV)->List PV->MR
structure NY(Pg:ë)(w:â)(K:Î)(mg:Str->Option Á)(base:Ñ)(CX:gJ)(k:Nat)(f:À)(fd:ĉ)(ps:List Str)(sp:Sp):Prop where
 len:∀vs H Q E,sp vs H Q E->vs.length=ps.length
 run:∀(A:ì) (outer:List Env) (s:Ä) (H:Hp) (args:Args) (us:List Á) (vs:List V) (Q:VK) (E:XK),0<s.toks->ϛ k A->yD Pg w K mg base A outer s H->fC s fd args (ps.zip us)->ł vs us->sp vs H Q E->
  fB (Ü Pg w) A (.call (.ref f) args) (CR CX outer Pg w H s Q E) s
section
variable{Pg:ë}{w:â}{K:Î}{mg:Str->Option Á}{base:Ñ}{CX:gJ}{k:Nat}{f:À}{fd:ĉ}{ps:List Str}{sp:Sp}
def bO.pos(F:bO Pg w K mg base CX k f fd ps sp):NY Pg w K mg base CX k f fd ps sp:=⟨F.len,λA outer s H args us vs Q E _=>F.run A outer s H args us vs Q E⟩
end
end P
namespace L2
open PySem PySem.Spec PyProof.Rows
section
variable{κ:Type}[DecidableEq κ]
noncomputable def Hz(am:List (κ×V))(k:κ):Option V:=(am.find? λkv=>decide<|kv.1=k).map (·.2)
noncomputable def HQ(am:List (κ×V))(k:κ)(v:V):List (κ×V):=
 if(am.any λkv=>decide<|kv.1=k)=true then am.map (λkv=>if kv.1=k then(kv.1,v)else kv)else am++[(k,v)]
end
def HA(H:Hp)(a:À)(y:V)(r:Option V):Prop:=
 (∃am k,Rd H a (.dK am)/\y=kV k/\r=Hz am k)\/∃am k b,Rd H a (.dT am)/\y=.ref b/\H b=some (.tup<|k.map kV)/\r=Hz am k
def HC(H:Hp)(a:À)(y v:V)(H':Hp):Prop:=
 (∃am k,H a=some (.dK am)/\y=kV k/\am.length<sizeLine/\H'=upd H a (.dK<|HQ am k v))\/
 ∃am k b,H a=some (.dT am)/\y=.ref b/\H b=some (.tup<|k.map kV)/\am.length<sizeLine/\H'=upd H a (.dT<|HQ am k v)
theorem HA.k{H:Hp}{a:À}{am:List (Key×V)}{k:Key}(e:H a=some (.dK am)):HA H a (kV k) (Hz am k):=.inl ⟨am,k,.inl e,rfl,rfl⟩
def HA.t{H:Hp}{a b:À}{am:List (List Key×V)}{k:List Key}(e:H a=some (.dT am))(eb:H b=some (.tup<|k.map kV)):HA H a (.ref b) (Hz am k):=.inr ⟨am,k,b,.inl e,rfl,eb,rfl⟩
theorem HC.k{H:Hp}{a:À}{am:List (Key×V)}{k:Key}{v:V}(e:H a=some (.dK am))(hl:am.length<sizeLine):HC H a (kV k) v (upd H a<|.dK<|HQ am k v):=.inl ⟨am,k,e,rfl,hl,rfl⟩
def HC.t{H:Hp}{a b:À}{am:List (List Key×V)}{k:List Key}{v:V}(e:H a=some (.dT am))(eb:H b=some (.tup<|k.map kV))(hl:am.length<sizeLine):
 HC H a (.ref b) v (upd H a<|.dT<|HQ am k v):=.inr ⟨am,k,b,e,rfl,eb,hl,rfl⟩
end L2
namespace O7
open PySem PySem.W PySem.Calls PyProof.Rows
end O7
namespace L2
open PySem PySem.Spec PyProof.Rows
section
variable{κ:Type}[DecidableEq κ]
end
end L2
namespace P
open PySem PySem.Spec PyProof.Rows L2 M2 M3 M4
abbrev DS:=List<|Str×List PV
open M5
def NZ(st:ò):List Str:=(Ā st).names.filterMap λy=>match y.2 with
 |.local=>some y.1|.cell=>some y.1|_=>none
def uv(st:ò):List Str:=(bF st).args.map (·.arg)
set_option genInjectivity false in
set_option genSizeOf false in
structure VE where
 Pg:ë
 w:â
 K:Î
 mg:Str->Option Á
 cm:String->À
abbrev Kc(V:VE)(C:String):Prop:=zu V.K<|V.cm C
abbrev Na(V:VE)(C:String)(f:Str):Prop:=eU V.K (V.cm C) f
structure Gz(mg:Str->Option Á)(x:String):Prop where
 h:mg x=none
structure Gc(V:VE)(C:String):Prop where
 h:V.mg C=some (.ref<|V.cm C)
structure Gi(mg:Str->Option Á)(x:String)(i:Int):Prop where
 ex:∃t,mg x=some (.int i t)
structure Gs(mg:Str->Option Á)(x:String)(z:Str):Prop where
 ex:∃t,mg x=some (.str z t)
structure Dn(V:VE)(x:String)(st:ò)(N:List Str)(mf:MF)(k:Nat):Prop where
 ex:∃f fd,Df V.K V.mg x st (uv st) f fd
structure Dw(V:VE)(x:String)(st:ò)(N:List Str)(mf:MW)(k:Nat):Prop where
 ex:∃f fd,Df V.K V.mg x st (uv st) f fd
structure Di(V:VE)(C:String)(q:Str)(st:ò)(mi:MI)(k:Nat):Prop where
 ex:∃f fd,Mk V.K (V.cm C) f/\Dm V.K (V.cm C) "__init__" q st (uv st) f fd
structure Dh(V:VE)(C y:String)(q:Str)(st:ò)(mf:MF)(k:Nat):Prop where
 ex:∃f fd,Dl V.K (V.cm C) y f/\Dm V.K (V.cm C) y q st (uv st) f fd
structure Cl(x:String)(k:Nat)(sp:Sp)(V:VE):Prop where
 ex:∃f fd ps st,Df V.K V.mg x st ps f fd/\∀base,bO V.Pg V.w V.K V.mg base CN k f fd ps sp
structure Ci(C:String)(k n:Nat)(mi:MI)(V:VE):Prop where
 ex:∃f fd ps,Mk V.K (V.cm C) f/\Binds V.K fd ps []/\∀base,bO V.Pg V.w V.K V.mg base CN k f fd ps<|MV ⟨V.K,V.cm⟩ n C mi
structure Ch(y:String)(C:String)(k n:Nat)(mf:MF)(V:VE):Prop where
 ex:∃f fd ps,Dl V.K (V.cm C) y f/\Binds V.K fd ps []/\∀base,bO V.Pg V.w V.K V.mg base CN k f fd ps<|u_ ⟨V.K,V.cm⟩ n mf
abbrev vX(X:Cx)(cm:String->À):VE:=⟨X.prog,X.w,X.K,X.mg,cm⟩
section
variable{X:Cx}{cm:String->À}{E:Ċ->XK}{k j n:Nat}{mf:MF}{mr:M (List Slot)}{x:String}{C:String}{p pos Dr:Pos}{e:È}{es:List È}
def þ(hr:ϛ j X.A)(ha:PA X (e::es) (tA (kk X cm) E mr))(F:Cl x k (u_ (kk X cm) n mf) (vX X cm):=by assumption)(hlen:∀{ps:List Slot},(∃r,mf ps=r/\∀z,r=z->z≠.bad)->ps.length=n:=by exact oA)(hg:Gl X x:=by kernel_rfl)(AJ:k<=j:=by decide)(pN:((x:Str)==("__debug__":Str))=false:=by kernel_rfl)(he:Ð (e::es) X.env=(false,eval e X.env)::Ð es X.env:=by exact ŋ rfl)(hpl:(Ć pos<|Ð es X.env).any (·.1)=false:=by kernel_rfl):
 PE X (.Call (.Name x p) (e::es) [] pos) (tO (kk X cm) E<|à mf mr):=by
 obtain⟨_,_,_,_,D,F⟩:=F.ex;exact Hi (F _) D hr mJ ha hlen hg AJ pN he hpl
def KR{mf:MW}{m:Nat}(hr:ϛ j X.A){ns:List Nat}(ha:PA X (e::es) (Lw ns))(F:Cl x k (NF (kk X cm) m mf) (vX X cm):=by assumption)(hlen:∀{as:List Slot},mf as≠.bad->as.length=m:=by exact pH)(hg:Gl X x:=by kernel_rfl)(AJ:k<=j:=by decide)(pN:((x:Str)==("__debug__":Str))=false:=by kernel_rfl)(he:Ð (e::es) X.env=(false,eval e X.env)::Ð es X.env:=by exact ŋ rfl)(hpl:(Ć pos<|Ð es X.env).any (·.1)=false:=by kernel_rfl)(hs:ū (.Call (.Name x p) (e::es) [] pos) none Dr.line X.env=ñ false:=by kernel_rfl):
 dB X [.Expr (.Call (.Name x p) (e::es) [] pos) Dr] (tW (kk X cm) E n<|ϫ mf ns):=by
 obtain⟨_,_,_,_,D,F⟩:=F.ex;exact w_call (F _) D hr mJ ha hlen hg AJ pN he hpl hs
def N_{sp:Sp}{ta:TA}(hr:ϛ j X.A)(ha:PA X (e::es) ta)(F:Cl x k sp (vX X cm):=by assumption)(hg:Gl X x:=by kernel_rfl)(AJ:k<=j:=by decide)(pN:((x:Str)==("__debug__":Str))=false:=by kernel_rfl)(he:Ð (e::es) X.env=(false,eval e X.env)::Ð es X.env:=by exact ŋ rfl)(hpl:(Ć pos<|Ð es X.env).any (·.1)=false:=by kernel_rfl):
 PE X (.Call (.Name x p) (e::es) [] pos) (λa H Q=>ta a H λvs H1=>sp vs H1 Q<|E a):=by
 obtain⟨_,_,_,_,D,F⟩:=F.ex;exact zn (F _) (hr.mono AJ) hg D.m D.F.kp D.b mJ ha pN he hpl
def xZ{mi:MI}{ms:M (List Slot)}(hr:ϛ j X.A)(ha:PA X (e::es) (tA (kk X cm) E ms))(F:Ci C k n mi (vX X cm):=by assumption)(hm:Gc (vX X cm) C:=by assumption)(hlen:∀{as:List Slot},(∃r,mi as=r/\∀z,r=z->z≠.bad)->as.length+1=n:=by exact CZ)(hg:Gl X C:=by kernel_rfl)(AJ:k+1<=j:=by decide)(pN:((C:Str)==("__debug__":Str))=false:=by kernel_rfl)(he:Ð (e::es) X.env=(false,eval e X.env)::Ð es X.env:=by exact ŋ rfl)(hpl:(Ć pos<|Ð es X.env).any (·.1)=false:=by kernel_rfl):
 PE X (.Call (.Name C p) (e::es) [] pos) (tV (kk X cm) E<|eP C mi ms):=by
 obtain⟨_,_,_,M,B,F⟩:=F.ex;exact Kd M (F _) hlen (hr.mono AJ) hg hm.h B mJ ha pN he hpl
def N1{y:String}(hc:zu X.K (cm C):=by assumption)(F:Ch y C k n mf (vX X cm):=by assumption)(AJ:k<=j:=by decide)(hlen:∀{ps:List Slot},(∃r,mf ps=r/\∀z,r=z->z≠.bad)->ps.length=n:=by exact oA):pB X cm CN j n y C mf:=by obtain⟨_,_,_,M,B,F⟩:=F.ex;exact⟨hc,_,_,_,M,(F _).mono AJ,B,hlen⟩
def TF(F:Cl C k (u_ (kk X cm) n mf) (vX X cm):=by assumption)(hm:Gc (vX X cm) C:=by assumption)(AJ:k<=j:=by decide)(hlen:∀{ps:List Slot},(∃r,mf ps=r/\∀z,r=z->z≠.bad)->ps.length=n:=by exact oA):Cg X cm CN j n C mf:=by obtain⟨_,_,_,_,D,F⟩:=F.ex;cases D.m.symm.trans hm.h;exact⟨_,_,D.F.kp,(F _).mono AJ,D.b,hlen⟩
def aD{f:Str}{cs:List String}{m:M PV}(he:PE X e (tR (kk X cm) E m))(K8:Ap (λC=>zu X.K (cm C)/\eU X.K (cm C) f) cs:=by repeat' first|assumption|apply And.intro|exact True.intro)(hb:cS e f X.env (eval e X.env)=eval e X.env:=by kernel_rfl):PE X (.Attribute e f pos) (tV (kk X cm) E<|fM (Ŝ cs f) m):=MU cs K8 he hb
def kH{i:Nat}{x f:Str}{px cA:Pos}{cs:List String}{m:M PV}(ho:PE X (.Name x px) (jm i))(he:PE X e (tV (kk X cm) E m))(K8:Ap (λC=>zu X.K (cm C)/\eU X.K (cm C) f) cs:=by repeat' first|assumption|apply And.intro|exact True.intro)(hs:ū e (some<|.Attribute (.Name x px) f cA) pos.line X.env=ñ false:=by kernel_rfl):
 PS X (.Assign [.Attribute (.Name x px) f cA] e pos) (tS (kk X cm) E<|jV i cs f m):=Ka cs K8 ho he hs
def N2{pl:Sem Bool}{o:È}{pX:Str}{cB:Pos}{aj:List (String×MF)}{m:M PV}{ms:M (List Slot)}(hr:ϛ k X.A)(he:PE X o (tV (kk X cm) E m))(ha:PA X (e::es) (tA (kk X cm) E ms))(mO:tD (λC mf=>pB X cm CN k n pX C mf) aj:=by repeat' first|exact N1|apply And.intro|exact True.intro)
 (mZ:Ð (e::es) X.env=(false,eval e X.env)::Ð es X.env:=by exact ŋ rfl)(hpl:(Ć pos<|Ð es X.env).any (·.1)=false:=by kernel_rfl)
 (ht:eval (.Call (.Attribute o pX cB) (e::es) [] pos) X.env=(do
   let ov<-eval o X.env
   gv cB.atName
   let (f,first)<-ca [ov] (lf ov pX pl)
   gC pos f first (Ć pos<|Ð (e::es) X.env) (bv pos<|bz [] X.env)):=by rfl):
 PE X (.Call (.Attribute o pX cB) (e::es) [] pos) (tO (kk X cm) E<|jU pX aj m ms):=J9 mO hr mJ he ha mZ hpl ht
def N3{pl:Sem Bool}{o:È}{pX:Str}{cB:Pos}{aj:List (String×MF)}{m:M PV}(hr:ϛ k X.A)(he:PE X o (tV (kk X cm) E m))(mO:tD (λC mf=>pB X cm CN k n pX C mf) aj:=by repeat' first|exact N1|apply And.intro|exact True.intro)
 (ht:eval (.Call (.Attribute o pX cB) [] [] pos) X.env=(do
   let ov<-eval o X.env
   gv cB.atName
   let (f,first)<-ca [ov] (lf ov pX pl)
   gC pos f first (Ć pos<|Ð [] X.env) (bv pos<|bz [] X.env)):=by rfl):
 PE X (.Call (.Attribute o pX cB) [] [] pos) (tO (kk X cm) E<|jU pX aj m Ú):=G0 mO hr mJ he ht
def TJ{o:È}{aj:List (String×MF)}{m:M PV}{ms:M (List Slot)}(hr:ϛ k X.A)(he:PE X o (tV (kk X cm) E m))(ha:PA X (e::es) (tA (kk X cm) E ms))(mO:tD (λC mf=>Cg X cm CN k n C mf) aj:=by repeat' first|exact TF|apply And.intro|exact True.intro)
 (mZ:Ð (e::es) X.env=(false,eval e X.env)::Ð es X.env:=by exact ŋ rfl)(hpl:(Ć pos<|Ð es X.env).any (·.1)=false:=by kernel_rfl)
 (ht:eval (.Call o (e::es) [] pos) X.env=(do gC pos (<-eval o X.env) [] (Ć pos<|Ð (e::es) X.env) (bv pos<|bz [] X.env)):=by rfl):
 PE X (.Call o (e::es) [] pos) (tO (kk X cm) E<|Hx aj m ms):=NX mO hr mJ he ha mZ hpl ht
def mR{i:Int}(h:Gi X.mg x i:=by assumption)(hg:Gl X x:=by kernel_rfl)(hd:((x:Str)==("__debug__":Str))=false:=by kernel_rfl):PE X (.Name x pos) (tV (kk X cm) E<|mC<|.int i):=by obtain⟨t,h⟩:=h.ex;exact BI _<|xk (v:=.int i) hg h ⟨_,rfl⟩ hd
def N4{z:Str}(h:Gs X.mg x z:=by assumption)(hg:Gl X x:=by kernel_rfl)(hd:((x:Str)==("__debug__":Str))=false:=by kernel_rfl):PE X (.Name x pos) (tV (kk X cm) E<|mC<|.str z):=by obtain⟨t,h⟩:=h.ex;exact BI _<|xk (v:=.str z) hg h ⟨_,rfl⟩ hd
def N5(h:Gc (vX X cm) x:=by assumption)(hg:Gl X x:=by kernel_rfl)(hd:((x:Str)==("__debug__":Str))=false:=by kernel_rfl):PE X (.Name x pos) (tV (kk X cm) E<|mC<|.cls x):=
 BI _ (xk (v:=.ref<|cm x) hg h.h rfl hd)
def gz(h:Gz X.mg x:=by assumption):X.mg x=none:=h.h
end
section
variable{V:VE}{x:String}{q:Str}{st:ò}{N:List Str}{k n j:Nat}{mb:M Fl}{mf:MF}{G:Prop}{C y:String}
set_option genInjectivity false in
set_option genSizeOf false in
structure HZ where
 f:À
 base:Ñ
 cdv:Á
 A:ì
 outer:List Env
 s:Ä
 H:Hp
 E:XK
abbrev HB(V:VE)(q:Str)(st:ò)(N:List Str)(k:Nat)(t:XK->TS):Prop:=ż N (uv st) (Ā st)->∀z:HZ,ϛ k (z.A.deeper<|Ϗ q (Ā st) z.s.heap.objs.size z.f z.cdv)->(z.A.deeper<|Ϗ q (Ā st) z.s.heap.objs.size z.f z.cdv).units+64<Ź->
 dB (sO CN V.Pg V.w V.K V.mg z.base N q (Ā st) z.f z.cdv z.A z.outer z.s z.H z.E) (Ž st) (t z.E)
def ϰ(D:Dn V x st N mf k)(hf:mf=Ď n j mb)(hb:HB V x st N k λE=>tS ⟨V.K,V.cm⟩ (λ_=>E) mb)(hg:Cl x (k+1) (u_ ⟨V.K,V.cm⟩ n mf) V->G)(hn:(uv st).length=n:=by rfl)(hj:N.length=j:=by rfl)(S:ż N (uv st) (Ā st):=by exact Nv):G:=by obtain⟨f,fd,D⟩:=D.ex;exact hg ⟨f,fd,_,st,D,λbase=>Kx D.F S (λcdv A outer s H E=>hb S ⟨f,base,cdv,A,outer,s,H,E⟩) hn hj hf⟩
def Qk{mf:MW}{mb:M WR}(D:Dw V x st N mf k)(hf:mf=fW n j mb)(hb:HB V x st N k λE=>tW ⟨V.K,V.cm⟩ (λ_=>E) (uv st).length mb)(hg:Cl x (k+1) (NF ⟨V.K,V.cm⟩ n mf) V->G)(hn:(uv st).length=n:=by rfl)(hj:N.length=j:=by rfl)(S:ż N (uv st) (Ā st):=by exact Nv):G:=by obtain⟨f,fd,D⟩:=D.ex;exact hg ⟨f,fd,_,st,D,λbase=>fnW D.F S (λcdv A outer s H E=>hb S ⟨f,base,cdv,A,outer,s,H,E⟩) hn hj hf⟩
def stI{mi:MI}(D:Di V C q st mi k)(hf:mi=dH n n C mb)(hb:HB V q st (uv st) k λE=>tS ⟨V.K,V.cm⟩ (λ_=>E) mb)(hg:Ci C (k+1) n mi V->G)(hn:(uv st).length=n:=by rfl)(S:ż (uv st) (uv st) (Ā st):=by exact Nv):G:=by obtain⟨f,fd,M,D⟩:=D.ex;exact hg ⟨f,fd,_,M,D.b,λbase=>Y1 D.F S hn hn hf λcdv A outer s H E hr=>hb S ⟨f,base,cdv,A,outer,s,H,E⟩ hr hr.units⟩
def stH(D:Dh V C y q st mf k)(hf:mf=Ď n j mb)(hb:HB V q st (NZ st) k λE=>tS ⟨V.K,V.cm⟩ (λ_=>E) mb)(hg:Ch y C (k+1) n mf V->G)(hn:(uv st).length=n:=by rfl)(hj:(NZ st).length=j:=by rfl)(S:ż (NZ st) (uv st) (Ā st):=by exact Nv):G:=by obtain⟨f,fd,M,D⟩:=D.ex;exact hg ⟨f,fd,_,M,D.b,λbase=>Kx D.F S (λcdv A outer s H E=>hb S ⟨f,base,cdv,A,outer,s,H,E⟩) hn hj hf⟩
abbrev N6(V:VE)(fa:À)(z:Str)(k:Nat)(mf:MF):Prop:=∃fd:ĉ,(∀(s:Ä) (v:Á),fC s fd ⟨[v],[]⟩ [(z,v)])/\∀base:Ñ,V.K.In base->base.Ns ġ V.mg->∃cm,bO V.Pg V.w V.K V.mg base CN k fa fd [z] (u_ ⟨V.K,cm⟩ 1 mf)
def stL{fa:À}{z:Str}(D:Dn V x st N mf k)(hf:mf=Ď 1 j mb)(hb:HB V x st N k λE=>tS ⟨V.K,V.cm⟩ (λ_=>E) mb)(hm:V.mg x=some (.ref fa):=by assumption)(hn:uv st=[z]:=by rfl)(hj:N.length=j:=by rfl)(S:ż N (uv st) (Ā st):=by exact Nv):
 N6 V fa z (k+1) mf:=by
 obtain⟨f,fd,D⟩:=D.ex;cases D.m.symm.trans hm;have B:=D.bb;have Q:=λbase=>Kx D.F S (λcdv A outer s H E=>hb S ⟨_,base,cdv,A,outer,s,H,E⟩) (by rw[hn];rfl) hj hf;rw[hn]at B Q;exact⟨fd,λs v=>B s [v] rfl,λbase _ _=>⟨_,Q base⟩⟩
end
def Dd(K:Î)(x:Str):À:=match en K ġ x with
 |some (some<|.ref a)=>a|_=>0
def cmK(K:Î)(s:String):À:=Dd K s
def AE(K:Î)(C:À)(y:Str):À:=match Ż K (.ref C) y with
 |some (some<|.ref a)=>a|_=>0
def FO(K:Î)(f:À):Option ĉ:=match K.lookup f with
 |some ⟨_,_,.func fd,_⟩=>some fd|_=>none
def Lx(K:Î)(f:À)(x q:Str)(st:ò):ĉ:=
 let d:=(FO K f).getD default
 aK x q (bF st) (Ž st) (Ā st) .none d.kwdefaults d.doc d.pyModule d.annotations d.code d.closureTuple
def Fu{K:Î}{f:À}{fd:ĉ}(h:FO K f=some fd):∃oc od sl,K.lookup f=some ⟨oc,od,.func fd,sl⟩:=by
 unfold FO at h;split at h
 ·cases h;exact⟨_,_,_,by assumption⟩
 ·cases h
def IE(K:Î)(f:À)(q:Str):Bool:=lz K ((FO K f).getD default).code q&&bC K (.ref f)
section
variable{V:VE}{h:Ñ}{x C y:String}{st:ò}{k:Nat}{q:Str}
abbrev Ly(x q:Str)(st:ò):Prop:=∀(kV dc pm:Á) (an:Option À) (cd ct:Á),BN (uv st).length λus=>nL (aK x q (bF st) (Ž st) (Ā st) .none kV dc pm an cd ct) ⟨us,[]⟩=ñ ((uv st).zip us)
def TK(KX:V.K.In h)(G:h.Ns ġ V.mg)(e:en V.K ġ x=some none):Gz V.mg x:=⟨PySem.W.mg_none_of KX G e⟩
def TL(KX:V.K.In h)(G:h.Ns ġ V.mg)(e:en V.K ġ C=some (some<|.ref<|V.cm C)):Gc V C:=⟨r_ KX G e⟩
def Wq(K:Î)(x:Str):Tok:=match en K ġ x with
 |some (some<|.int _ t)=>t|some (some<|.str _ t)=>t|_=>0
def TM{i:Int}(KX:V.K.In h)(G:h.Ns ġ V.mg)(e:en V.K ġ x=some (some<|.int i<|Wq V.K x)):Gi V.mg x i:=⟨_,r_ KX G e⟩
def TN{z:Str}(KX:V.K.In h)(G:h.Ns ġ V.mg)(e:en V.K ġ x=some (some<|.str z<|Wq V.K x)):Gs V.mg x z:=⟨_,r_ KX G e⟩
def N7(KX:V.K.In h)(G:h.Ns ġ V.mg)(hb:Ly x x st)(a:en V.K ġ x=some (some<|.ref<|Dd V.K x))(l:FO V.K (Dd V.K x)=some (Lx V.K (Dd V.K x) x x st))(c:IE V.K (Dd V.K x) x=true):∃f fd,Df V.K V.mg x st (uv st) f fd:=by have c':=c;unfold IE at c';rw[l,Ă]at c';obtain⟨_,_,_,l⟩:=Fu l;exact⟨_,_,Nt KX G hb a l c'.1 c'.2⟩
def TQ{N:List Str}{mf:MF}(KX:V.K.In h)(G:h.Ns ġ V.mg)(hb:Ly x x st)(a:en V.K ġ x=some (some<|.ref<|Dd V.K x))(l:FO V.K (Dd V.K x)=some (Lx V.K (Dd V.K x) x x st))(c:IE V.K (Dd V.K x) x=true):Dn V x st N mf k:=⟨N7 KX G hb a l c⟩
def TR{N:List Str}{mf:MW}(KX:V.K.In h)(G:h.Ns ġ V.mg)(hb:Ly x x st)(a:en V.K ġ x=some (some<|.ref<|Dd V.K x))(l:FO V.K (Dd V.K x)=some (Lx V.K (Dd V.K x) x x st))(c:IE V.K (Dd V.K x) x=true):Dw V x st N mf k:=⟨N7 KX G hb a l c⟩
def N8{K:Î}{c:À}{y q:Str}(hb:Ly y q st)(a:Ż K (.ref c) y=some (some<|.ref<|AE K c y))(l:FO K (AE K c y)=some (Lx K (AE K c y) y q st))(b:IE K (AE K c y) q=true):∃fd,Dm K c y q st (uv st) (AE K c y) fd:=by have c':=b;unfold IE at c';rw[l,Ă]at c';obtain⟨_,_,_,l⟩:=Fu l;exact⟨_,Nu hb a l c'.1 c'.2⟩
def TU{mi:MI}(hb:Ly "__init__" q st)(m:S4 V.K (V.cm C) (AE V.K (V.cm C) "__init__")=true)(a:Ż V.K (.ref<|V.cm C) "__init__"=some (some<|.ref<|AE V.K (V.cm C) "__init__"))(l:FO V.K (AE V.K (V.cm C) "__init__")=some (Lx V.K (AE V.K (V.cm C) "__init__") "__init__" q st))(b:IE V.K (AE V.K (V.cm C) "__init__") q=true):Di V C q st mi k:=by obtain⟨_,d⟩:=N8 hb a l b;exact⟨_,_,M1 m,d⟩
def TY{mf:MF}(hb:Ly y q st)(m:E9 V.K (V.cm C) y (AE V.K (V.cm C) y)=true)(a:Ż V.K (.ref<|V.cm C) y=some (some<|.ref<|AE V.K (V.cm C) y))(l:FO V.K (AE V.K (V.cm C) y)=some (Lx V.K (AE V.K (V.cm C) y) y q st))(b:IE V.K (AE V.K (V.cm C) y) q=true):Dh V C y q st mf k:=by obtain⟨_,d⟩:=N8 hb a l b;exact⟨_,_,G6 m,d⟩
def uc:List gB->List (Str×Tok)
 |[]=>[]|e::r=>match e.key with
  |.str x t=>(x,t)::uc r|_=>uc r
theorem vA:∀l:List gB,(uc l).length<=l.length
 |[]=>ø _|e::r=>by
  have:=vA r;unfold uc;split
  ·exact Nat.succ_le_succ this
  ·exact Nat.le_succ_of_le this
theorem Cj{P:gy}:∀{l:List gB},(l.map λe=>(e.key,e.hash))=((uc l).map λx=>(ly x.1 x.2,PyData.keyHash P x.1))->PySem.W.KeysLit P l
 |[],_=>True.intro|e::r,h=>by
  unfold uc at h;split at h
  ·rename_i x t e1;rw[á,á]at h;obtain⟨h1,h2⟩:=List.cons.inj h;exact⟨⟨x,t,e1,congrArg (·.2) h1⟩,Cj h2⟩
  ·have:=congrArg cJ h;simp at this;have:=vA r;lia
def N9(K:Î)(a:À):Array gB×Nat:=match K.lookup a with
 |some ⟨_,_,.dict es n,_⟩=>(es,n)|_=>(#[],0)
def KS{K:Î}{cm:String->À}{pm:gy}{a:À}{aj:List (Str×PV)}(h1:K.lookup a=some ⟨.type "dict",none,.dict (N9 K a).1 (N9 K a).2,#[]⟩)(h2:((N9 K a).1.toList.map λe=>(e.key,e.hash))=((uc (N9 K a).1.toList).map λx=>(ly x.1 x.2,PyData.keyHash pm x.1)))(h3:Dc K cm aj (N9 K a).1.toList=true)(h4:(a==nE)=false):xY K cm pm a aj:=⟨_,_,h1,Cj h2,h3,h4⟩
end
end P
namespace My
noncomputable def gd(a b:Int):Int:=((Int.gcd a b:Nat):Int)
def Z3U(a b:Int):gd b (Int.fmod a b)=gd a b:=by unfold gd;rw[Int.fmod_def,Int.gcd_sub_mul_left_right,Int.gcd_comm]
def Z3V(a:Int){b:Int}(h:b≠0):(Int.fmod a b).natAbs<b.natAbs:=by
 rcases(by lia:0<b\/b<0)with h|h
 ·have h1:=AN a h;have h2:=Int.fmod_lt_of_pos a h;lia
 ·have e:=Int.neg_fmod_neg a b;have h1:=AN (-a) (show 0< -b by lia);have h2:=Int.fmod_lt_of_pos (-a) (show 0< -b by lia);lia
def Z3W(a:Int):gd a 0=if a<0then -a else a:=by unfold gd;rw[Int.gcd_zero];split<;>lia
def TZ(a:Int){b:Int}(h:b≠0):0<gd a b:=by have:=AO (a:=a) h;unfold gd;lia
def Z2j(a b:Int):0<=gd a b:=by unfold gd;lia
def Z5k(a:Int){b:Int}(h:b≠0):gd a b<=b.natAbs:=by unfold gd;have:=Int.gcd_dvd_natAbs_right a b;have:=Nat.le_of_dvd (by lia) this;lia
def dv(t b:Int):Int:=if b<0then-gd t b else gd t b
def Z5l(t:Int){b:Int}(h:b≠0):dv t b≠0:=by have:=TZ t h;unfold dv;split<;>lia
def Z4z(t b:Int):dv t b ∣ t/\dv t b ∣ b:=by
 have h1:=Int.gcd_dvd_left t b;have h2:=Int.gcd_dvd_right t b;unfold dv gd;split
 ·exact⟨Int.neg_dvd.mpr h1,Int.neg_dvd.mpr h2⟩
 ·exact⟨h1,h2⟩
def Z3X{t b g:Int}(h1:g ∣ t)(h2:g ∣ b)(hg:g.natAbs=Int.gcd t b)(hb:b≠0):Int.gcd (t/g) (b/g)=1:=by
 have hp:0<Int.gcd t b:=Nat.pos_of_ne_zero<|AO hb;rcases Int.natAbs_eq g with e|e
 ·rw[hg]at e;rw[e];exact AQ hp
 ·rw[hg]at e;rw[e,Int.ediv_neg,Int.ediv_neg,Int.neg_gcd,Int.gcd_neg];exact AQ hp
def Z37(t:Int){b:Int}(h:b≠0):
 1<=b.fdiv (dv t b)/\gd (t.fdiv<|dv t b) (b.fdiv<|dv t b)=1/\t.fdiv (dv t b)*b=t*b.fdiv (dv t b):=by
 obtain⟨h1,h2⟩:=Z4z t b;rw[AR h1,AR h2];have hn:=Z5l t h;obtain⟨x,hx⟩:=h1;obtain⟨y,hy⟩:=h2;have e1:t/dv t b=x:=by
  conv=>lhs;lhs;rw[hx]
  exact vN x hn
 have e2:b/dv t b=y:=by
  conv=>lhs;lhs;rw[hy]
  exact vN y hn
 refine⟨?_,?_,?_⟩
 ·rw[e2];have hp:=TZ t h;by_cases c:b<0
  ·have d:dv t b= -gd t b:=if_pos c;rw[d]at hy;rcases(by lia:1<=y\/y<=0)with z|z
   ·exact z
   ·have:=qA z<|vO hp;rw[Int.neg_mul]at hy;lia
  ·have d:dv t b=gd t b:=if_neg c;rw[d]at hy;rcases(by lia:1<=y\/y<=0)with z|z
   ·exact z
   ·have:=qA z<|vO hp;lia
 ·unfold gd;rw[Z3X ⟨x,hx⟩ ⟨y,hy⟩ ?_ h]
  ·rfl
  ·unfold dv gd;split<;>lia
 ·rw[e1,e2]
  conv=>lhs;rw[hy]
  conv=>rhs;lhs;rw[hx]
  rw[dP (dv t b) x,bj]
end My
namespace Hu
abbrev Pt:=Int×Int
noncomputable def tn(a b c:Pt):Int:=(b.1-a.1)*(c.2-a.2)-(b.2-a.2)*(c.1-a.1)
theorem Ql{α:Type}(R:α->α->Prop):∀(l:List α),l≠[]->(∀x∈l,∀y∈l,R x y\/R y x)->(∀x∈l,∀y∈l,∀z∈l,R x y->R y z->R x z)->∃b∈l,∀s∈l,R b s
 |[],h,_,_=>absurd rfl h|[x],_,t,_=>⟨x,by simp,fun s hs=>by
     have e:s=x:=by simpa using hs
     subst e;rcases t s (by simp) s (by simp)with q|q<;>exact q⟩
 |x::y::r,_,t,tr=>by
  obtain⟨b,hb,hl⟩:=Ql R (y::r) (by simp) (λa ha c hc=>t a (ð _ ha) c<|ð _ hc)<|λa ha c hc d hd=>tr a (ð _ ha) c (ð _ hc) d<|ð _ hd;have DG:b∈x::y::r:=ð _ hb;have hx:x∈x::y::r:=by simp
  have bb:R b b:=hl b hb;have xx:R x x:=by rcases t x hx x hx with q|q<;>exact q
  rcases t b DG x hx with q|q
  ·refine⟨b,DG,λs hs=>?_⟩;rcases ö.mp hs with e|e
   ·subst e;exact q
   ·exact hl s e
  ·refine⟨x,hx,λs hs=>?_⟩;rcases ö.mp hs with e|e
   ·subst e;exact xx
   ·exact tr x hx b DG s hs q<|hl s e
def zB(a b c p:Pt):Prop:=tn a b c≠0/\0<=tn p b c*tn a b c/\0<=tn a p c*tn a b c/\0<=tn a b p*tn a b c
def Qm(a b c p:Pt):tn p b c+tn a p c+tn a b p=tn a b c:=by simp only[tn];grind
def Zn(a b c:Pt):tn b c a=tn a b c:=by simp only[tn];grind
def ZP(a b c:Pt):tn b a c= -tn a b c:=by simp only[tn];grind
def Zw(a b c:Pt):tn a c b= -tn a b c:=by simp only[tn];grind
def zB.swap{a b c p:Pt}(h:zB a b c p):zB b a c p:=by
 obtain⟨h1,h2,h3,h4⟩:=h;unfold zB;rw[ZP a b c,ZP a p c,ZP p b c,ZP a b p];refine⟨by lia,?_,?_,?_⟩
 ·rw[qB];exact h3
 ·rw[qB];exact h2
 ·rw[qB];exact h4
def zB.DB{a b c p:Pt}(h:zB a b c p):zB b c a p:=by obtain⟨h1,h2,h3,h4⟩:=h;unfold zB;rw[Zn a b c,show tn p c a=tn a p c from Zn a p c,show tn b p a=tn a b p from Zn a b p,show tn b c p=tn p b c from Zn p b c];exact⟨h1,h3,h4,h2⟩
def Wr{a b c p:Pt}(h1:0<=tn p a b)(h2:0<=tn p b c)(h3:0<=tn p c a)(h:0<tn p a b\/0<tn p b c\/0<tn p c a):zB a b c p:=by
 have e:=Qm a b c p;have e1:tn a p c=tn p c a:=(Zn a p c).symm;have e2:tn a b p=tn p a b:=Zn p a b;have pos:0<tn a b c:=by lia
 refine⟨by lia,Ŏ h2 (by lia),Ŏ (by lia) (by lia),Ŏ (by lia)<|by lia⟩
section
variable{S:List Pt}{p:Pt}
def Z5m(no:∀x∈S,∀y∈S,∀z∈S,¬zB x y z p):∀x∈S,∀y∈S,∀z∈S,0<=tn p x y->0<=tn p y z->0<=tn p x z:=by
 intro x hx y hy z hz h1 h2;by_cases h:0<=tn p x z
 ·exact h
 ·exfalso;have e:=Zw p x z;exact no x hx y hy z hz (Wr h1 h2 (by lia)<|by lia)
noncomputable def dt(u v:Pt)(p:Pt):Int:=(u.1-p.1)*(v.1-p.1)+(u.2-p.2)*(v.2-p.2)
def Z4A{u p:Pt}(h:u≠p):0<dt u u p:=by
 unfold dt;have h1:0<=(u.1-p.1)*(u.1-p.1):=by
  rcases iY 0 (u.1-p.1)with q|q
  ·exact Ŏ q q
  ·exact qC q q
 have h2:0<=(u.2-p.2)*(u.2-p.2):=by
  rcases iY 0 (u.2-p.2)with q|q
  ·exact Ŏ q q
  ·exact qC q q
 by_cases e1:u.1-p.1=0
 ·by_cases e2:u.2-p.2=0
  ·exact absurd (Prod.ext (by lia)<|by lia) h
  ·have:(u.2-p.2)*(u.2-p.2)≠0:=Int.mul_ne_zero e2 e2;omega
 ·have:(u.1-p.1)*(u.1-p.1)≠0:=Int.mul_ne_zero e1 e1;omega
def Z5M(tri:∃x∈S,∃y∈S,∃z∈S,tn x y z≠0)(no:∀x∈S,∀y∈S,∀z∈S,¬zB x y z p):
 ∃a∈S,∃b∈S,a≠b/\(∀s∈S,0<=tn a b s)/\tn a b p<0:=by
 obtain⟨x,hx,y,hy,z,hz,Zaa⟩:=tri;have hp:p∉S:=by
  intro hp;have e:=Qm x y z p;have key:∀u∈S,∀v∈S,tn p u v=0:=by
   intro u hu v hv;by_cases h:tn p u v=0
   ·exact h
   ·exfalso;refine no p hp u hu v hv ⟨h,?_,?_,?_⟩
    ·rcases iY 0 (tn p u v)with q|q
     ·exact Ŏ q q
     ·exact qC q q
    ·rw[show tn p p v=0 by simp only[tn];grind];simp
    ·rw[show tn p u p=0 by simp only[tn];grind];simp
  have k1:=key y hy z hz;have k2:=key z hz x hx;have k3:=key x hx y hy;rw[Zn p z x|>.symm]at k2;have e1:tn x p z=tn p z x:=(Zn x p z).symm;have e2:tn x y p=tn p x y:=Zn p x y;have e3:tn z x p=tn p z x:=Zn p z x;lia
 have tr:=Z5m no;have tot:∀x∈S,∀y∈S,0<=tn p x y\/0<=tn p y x:=λx _ y _=>by have:=Zw p x y;lia
 obtain⟨b0,VC,l0⟩:=Ql (λu v=>0<=tn p u v) S (List.ne_nil_of_mem hx) tot tr;have hT:∃b∈S,(∀s∈S,0<=tn p b s)/\∀s∈S,tn p b s=0->dt b b p<=dt s s p:=by
  let T:=S.filter λs=>decide<|tn p b0 s=0
  have mT:∀{s},s∈T↔s∈S/\tn p b0 s=0:=by intro s;simp[T]
  have T_:b0∈T:=mT.mpr ⟨VC,by simp only[tn];grind⟩;obtain⟨b,hb,lb⟩:=Ql (λu v=>dt u u p<=dt v v p) T (List.ne_nil_of_mem T_) (λu _ v _=>iY _ _)<|λu _ v _ w _ h1 h2=>Int.le_trans h1 h2;obtain⟨VD,eb⟩:=mT.mp hb;have bm:∀s∈S,0<=tn p b s:=λs hs=>tr b VD b0 VC s hs (by have:=Zw p b0 b;lia)<|l0 s hs;refine⟨b,VD,bm,λs hs es=>lb s<|mT.mpr ⟨hs,?_⟩⟩;have h1:=l0 s hs;have h2:0<=tn p s b0:=tr s hs b VD b0 VC (by have:=Zw p b s;lia) (by have:=Zw p b0 b;lia);have:=Zw p b0 s;lia
 obtain⟨b,hb,bm,bn⟩:=hT;have hbp:b≠p:=λe=>hp<|e▸hb;have hw:=Z4A hbp
 let Qqq:=S.filter λs=>decide<|0<tn p b s
 have mU:∀{s},s∈Qqq↔s∈S/\0<tn p b s:=by intro s;simp[Qqq]
 have hU:Qqq≠[]:=by
  intro hU;have key:∀s∈S,tn p b s=0:=by
   intro s hs;have h1:=bm s hs;by_cases h:tn p b s=0
   ·exact h
   ·have:s∈Qqq:=mU.mpr ⟨hs,by lia⟩;rw[hU]at this;cases this
  have k1:=key x hx;have k2:=key y hy;have k3:=key z hz;have fx:∀u v:Pt,tn p b u=0->tn p b v=0->dt b b p*tn p u v=0:=by
   intro u v e1 e2;have i1:dt b b p*tn p u v=dt b u p*tn p b v-dt b v p*tn p b u:=by simp only[dt,tn];grind
   rw[i1,e1,e2];simp
  have z0:∀u v:Pt,tn p b u=0->tn p b v=0->tn p u v=0:=by
   intro u v e1 e2;rcases Int.mul_eq_zero.mp (fx u v e1 e2)with q|q
   ·lia
   ·exact q
  have e:=Qm x y z p;have w1:=z0 y z k2 k3;have w2:=z0 z x k3 k1;have w3:=z0 x y k1 k2;have e1:tn x p z=tn p z x:=(Zn x p z).symm;have e2:tn x y p=tn p x y:=Zn p x y;lia
 obtain⟨d,hd,dm⟩:=Ql (λu v=>0<=tn u b v) Qqq hU
  (fun u _ v _=>by
    have e:tn v b u= -tn u b v:=by simp only[tn];grind
    lia)
  (fun u hu v hv w hw' h1 h2=>by
    have ku:=(mU.mp hu).2;have kv:=(mU.mp hv).2;have kw:=(mU.mp hw').2;have e:tn u b w*tn p b v=tn u b v*tn p b w+tn v b w*tn p b u:=by simp only[tn];grind
    have n1:0<=tn u b v*tn p b w:=Ŏ h1 (by lia);have n2:0<=tn v b w*tn p b u:=Ŏ h2 (by lia);by_cases h:0<=tn u b w
    ·exact h
    ·have:tn u b w*tn p b v<0:=iZ (by lia) kv;lia)
 obtain⟨YC,kd⟩:=mU.mp hd;refine⟨d,YC,b,hb,λe=>?_,λs hs=>?_,?_⟩
 ·rw[e,show tn p b b=0 by simp only[tn];grind]at kd;lia
 ·have h1:=bm s hs;by_cases h:0<tn p b s
  ·exact dm s<|mU.mpr ⟨hs,h⟩
  ·have es:tn p b s=0:=by lia
   have VF:=bn s hs es;have c1:dt b b p*tn s p d= -(dt b s p*tn p b d):=by
    have i1:dt b b p*tn s p d=dt b d p*tn p b s-dt b s p*tn p b d:=by simp only[dt,tn];grind
    rw[i1,es];simp
   have c2:dt b b p*tn d b s=(dt b s p-dt b b p)*tn p b d:=by
    have i1:dt b b p*tn d b s=(dt b s p-dt b b p)*tn p b d-(dt b d p-dt b b p)*tn p b s:=by simp only[dt,tn];grind
    rw[i1,es];simp
   have c3:dt b s p*dt b s p=dt b b p*dt s s p:=by
    have i1:dt b b p*dt s s p=dt b s p*dt b s p+tn p b s*tn p b s:=by simp only[dt,tn];grind
    rw[i1,es];simp
   have hge:dt b b p<=dt b s p:=by
    by_cases q:0<=dt b s p
    ·by_cases q2:dt b b p<=dt b s p
     ·exact q2
     ·exfalso;have l1:dt b s p*dt b s p<=dt b s p*dt b b p:=qA (by lia) q;have l2:dt b s p*dt b b p<dt b b p*dt b b p:=Int.mul_lt_mul_of_pos_right (by lia) hw;have l3:dt b b p*dt b b p<=dt b b p*dt s s p:=qA VF (by lia);lia
    ·exfalso;have pos:0<tn s p d:=by
      have l1:0< -(dt b s p*tn p b d):=by have:=iZ (show dt b s p<0 by lia) kd;lia
      by_cases h0:0<tn s p d
      ·exact h0
      ·have:=Ŏ (show 0<=dt b b p by lia) (show 0<= -tn s p d by lia);rw[Int.mul_neg]at this;lia
     refine no s hs b hb d YC (Wr (by have:=Zw p b s;lia) (by lia) ?_ (.inr<|.inl kd));have:tn p d s=tn s p d:=Zn s p d;lia
   have n1:0<=(dt b s p-dt b b p)*tn p b d:=Ŏ (by lia) (by lia);by_cases h0:0<=tn d b s
   ·exact h0
   ·have:=Int.mul_neg_of_pos_of_neg hw (show tn d b s<0 by lia);lia
 ·have:tn d b p= -tn p b d:=by simp only[tn];grind
  lia
end
abbrev Ln:=Int×Int×Int
def hd(l:Ln)(p:Pt):Bool:=decide<|l.1*p.1+l.2.1*p.2<=l.2.2
def Z4(a b:Pt):Ln:=(b.2-a.2,a.1-b.1,(b.2-a.2)*a.1+(a.1-b.1)*a.2)
def Lz{a b s:Pt}:hd (Z4 a b) s=true↔0<=tn a b s:=by
 unfold hd Z4;rw[decide_eq_true_iff];have e:tn a b s=((b.2-a.2)*a.1+(a.1-b.1)*a.2)-((b.2-a.2)*s.1+(a.1-b.1)*s.2):=by simp only[tn];grind
 dsimp only;lia
def Z5(S:List Pt):List Pt:=S.foldl (λk x=>if x∈k then k else k++[x]) []
theorem Ws(x:Pt):∀(S k:List Pt),x∈S.foldl (λk x=>if x∈k then k else k++[x]) k↔x∈k\/x∈S
 |[],k=>by simp|y::S,k=>by
  rw[ϡ,Ws x S];by_cases h:y∈k
  ·rw[if_pos h];constructor
   ·rintro (q|q)
    ·exact .inl q
    ·exact .inr<|ð _ q
   ·rintro (q|q)
    ·exact .inl q
    ·rcases ö.mp q with e|e
     ·exact .inl<|e▸h
     ·exact .inr e
  ·rw[if_neg h];simp only[aH,ö,br,or_false];constructor
   ·rintro ((q|q)|q)
    ·exact .inl q
    ·exact .inr<|.inl q
    ·exact .inr<|.inr q
   ·rintro (q|q|q)
    ·exact .inl<|.inl q
    ·exact .inl<|.inr q
    ·exact .inr q
def Zr{x:Pt}{S:List Pt}:x∈Z5 S↔x∈S:=by unfold Z5;rw[Ws];simp
def ZJ(S:List Pt):List Ln:=(Z5 S).flatMap λa=>(Z5 S).filterMap λb=>if a≠b/\(Z5 S).all (hd<|Z4 a b)then some (Z4 a b)else none
def ZF{S:List Pt}{l:Ln}:l∈ZJ S↔∃a∈S,∃b∈S,a≠b/\(∀s∈S,0<=tn a b s)/\l=Z4 a b:=by
 unfold ZJ;simp only[qQ,vS];constructor
 ·rintro ⟨a,ha,b,hb,h⟩;split at h
  ·rename_i hc;refine⟨a,Zr.mp ha,b,Zr.mp hb,hc.1,λs hs=>?_,(š h).symm⟩;exact Lz.mp<|bp.mp hc.2 s<|Zr.mpr hs
  ·cases h
 ·rintro ⟨a,ha,b,hb,h1,h2,rfl⟩;refine⟨a,Zr.mpr ha,b,Zr.mpr hb,?_⟩;rw[if_pos ⟨h1,bp.mpr λs hs=>Lz.mpr<|h2 s<|Zr.mp hs⟩]
noncomputable def mx(l:List Int):Int:=l.tail.foldl max<|l.headD 0
def mn(l:List Int):Int:=l.tail.foldl min<|l.headD 0
theorem T1:∀(l:List Int) (m:Int),m<=l.foldl max m/\(∀x∈l,x<=l.foldl max m)/\(l.foldl max m=m\/l.foldl max m∈l)
 |[],m=>by simp|y::l,m=>by
  rw[ϡ];obtain⟨h1,h2,h3⟩:=T1 l<|max m y;have hm:m<=(max m y)/\y<=(max m y):=⟨Int.le_max_left ..,Int.le_max_right ..⟩;refine⟨by lia,λx hx=>?_,?_⟩
  ·rcases ö.mp hx with e|e
   ·subst e;lia
   ·exact h2 x e
  ·rcases h3 with q|q
   ·rw[q];rcases iY m y with h|h
    ·right;rw[Int.max_eq_right h];simp
    ·left;rw[Int.max_eq_left h]
   ·right;exact ð _ q
theorem T2:∀(l:List Int) (m:Int),l.foldl min m<=m/\(∀x∈l,l.foldl min m<=x)/\(l.foldl min m=m\/l.foldl min m∈l)
 |[],m=>by simp|y::l,m=>by
  rw[ϡ];obtain⟨h1,h2,h3⟩:=T2 l<|min m y;have hm:(min m y)<=m/\(min m y)<=y:=⟨Int.min_le_left ..,Int.min_le_right ..⟩;refine⟨by lia,λx hx=>?_,?_⟩
  ·rcases ö.mp hx with e|e
   ·subst e;lia
   ·exact h2 x e
  ·rcases h3 with q|q
   ·rw[q];rcases iY m y with h|h
    ·left;rw[Int.min_eq_left h]
    ·right;rw[Int.min_eq_right h];simp
   ·right;exact ð _ q
def Qn{l:List Int}{x:Int}(h:x∈l):x<=mx l:=by
 cases l with
 |nil=>cases h|cons y l=>
  obtain⟨h1,h2,_⟩:=T1 l y;rcases ö.mp h with e|e
  ·subst e;exact h1
  ·exact h2 x e
def Wt{l:List Int}(h:l≠[]):mx l∈l:=by
 cases l with
 |nil=>exact absurd rfl h|cons y l=>
  obtain⟨_,_,h3⟩:=T1 l y;rcases h3 with q|q
  ·show _∈y::l;rw[show mx (y::l)=y from q];simp
  ·exact ð _ q
def Qo{l:List Int}{x:Int}(h:x∈l):mn l<=x:=by
 cases l with
 |nil=>cases h|cons y l=>
  obtain⟨h1,h2,_⟩:=T2 l y;rcases ö.mp h with e|e
  ·subst e;exact h1
  ·exact h2 x e
def Wu{l:List Int}(h:l≠[]):mn l∈l:=by
 cases l with
 |nil=>exact absurd rfl h|cons y l=>
  obtain⟨_,_,h3⟩:=T2 l y;rcases h3 with q|q
  ·show _∈y::l;rw[show mn (y::l)=y from q];simp
  ·exact ð _ q
def box(S:List Pt):List Ln:=[(1,0,mx<|S.map (·.1)),(-1,0,-mn (S.map (·.1))),(0,1,mx<|S.map (·.2)),(0,-1,-mn (S.map (·.2)))]
def Zq(S:List Pt):List Ln:=box S++ZJ S
def Z1X{S:List Pt}{l:Ln}(h:l∈Zq S){s:Pt}(hs:s∈S):hd l s=true:=by
 unfold Zq at h;rcases aH.mp h with h|h
 ·have h1:=Qn<|cK (f:=(·.1)) hs;have h2:=Qo<|cK (f:=(·.1)) hs;have h3:=Qn<|cK (f:=(·.2)) hs;have h4:=Qo<|cK (f:=(·.2)) hs;unfold box at h;simp only[ö,br,or_false]at h;unfold hd;rw[decide_eq_true_iff];rcases h with e|e|e|e<;>subst e<;>simp only<;>lia
 ·obtain⟨a,_,b,_,_,h',rfl⟩:=ZF.mp h;exact Lz.mpr<|h' s hs
def Zs(S:List Pt)(p:Pt):Option Ln:=(Zq S).find? λl=>!hd l p
def Z2l{S:List Pt}{p:Pt}{l:Ln}(h:Zs S p=some l):l∈Zq S/\hd l p=false:=by unfold Zs at h;have h1:=List.find?_some h;have h2:=List.mem_of_find?_eq_some h;exact⟨h2,by simpa using h1⟩
def Z2m{S:List Pt}{p:Pt}(h:Zs S p=none):∀l∈Zq S,hd l p=true:=by unfold Zs at h;intro l hl;have:=List.find?_eq_none.mp h l hl;simpa using this
def qt(a b c p:Pt):List Int:=[tn p b c,tn a p c,tn a b p]
noncomputable def lH(a b p:Pt):List Int:=
 let g:=(b.1-a.1)*(p.1-a.1)+(b.2-a.2)*(p.2-a.2)
 [(b.1-a.1)*(b.1-a.1)+(b.2-a.2)*(b.2-a.2)-g,g]
def Zp(w:List Int):Bool:=decide (w.sum≠0)&&w.all λs=>decide<|0<=s*w.sum
def Z38{a b c p:Pt}:Zp (qt a b c p)=true↔zB a b c p:=by
 unfold Zp qt zB;have e:[tn p b c,tn a p c,tn a b p].sum=tn a b c:=by simp;have:=Qm a b c p;lia
 rw[e];simp[and_assoc]
def at_(S:List Pt)(i:Nat):Pt:=S.getD i (0,0)
def ZQ{S:List Pt}{i:Nat}(h:i<S.length):at_ S i∈S:=by unfold at_;rw[Ϡ,ũ h];exact Ū h
def Oa{S:List Pt}{x:Pt}(h:x∈S):∃i,i<S.length/\at_ S i=x:=by obtain⟨i,hi,e⟩:=qJ.mp h;exact⟨i,hi,by unfold at_;rw[Ϡ,ũ hi];exact e⟩
def Zc(n:Nat):List (Nat×Nat):=(å n).flatMap λj=>(å j).map λi=>(i,j)
def Ze(n:Nat):List (Nat×Nat×Nat):=(å n).flatMap λk=>(Zc k).map λq=>(q.1,q.2,k)
def Zz{n i j:Nat}:(i,j)∈Zc n↔i<j/\j<n:=by
 unfold Zc;simp only[qQ,Ϝ,Đ,wr];constructor
 ·rintro ⟨k,hk,m,hm,rfl,rfl⟩;exact⟨hm,hk⟩
 ·rintro ⟨h1,h2⟩;exact⟨j,h2,i,h1,rfl,rfl⟩
def Zf{n i j k:Nat}:(i,j,k)∈Ze n↔i<j/\j<k/\k<n:=by
 unfold Ze;simp only[qQ,Ϝ,Đ,wr];constructor
 ·rintro ⟨m,hm,⟨a,b⟩,hq,rfl,rfl,rfl⟩;have:=Zz.mp hq;exact⟨this.1,this.2,hm⟩
 ·rintro ⟨h1,h2,h3⟩;exact⟨k,h3,(i,j),Zz.mpr ⟨h1,h2⟩,rfl,rfl,rfl⟩
def Ob(S:List Pt)(p:Pt):Option (List Int×List Nat):=(Ze S.length).findSome? λq=>if Zp (qt (at_ S q.1) (at_ S q.2.1) (at_ S q.2.2) p)then some (qt (at_ S q.1) (at_ S q.2.1) (at_ S q.2.2) p,[q.1,q.2.1,q.2.2])else none
def Qp(S:List Pt)(p:Pt):Option (List Int×List Nat):=(Zc S.length).findSome? λq=>if Zp (lH (at_ S q.1) (at_ S q.2) p)then some (lH (at_ S q.1) (at_ S q.2) p,[q.1,q.2])else none
def Zj(S:List Pt)(p:Pt):List Int×List Nat:=((Ob S p).orElse λ_=>Qp S p).getD ([1],[0])
structure T3(S:List Pt)(p:Pt)(w:List Int)(q:List Nat):Prop where
 len:w.length=q.length
 sum:w.sum≠0
 sign:∀s∈w,0<=s*w.sum
 nd:q.Nodup
 lt:∀i∈q,i<S.length
 x:((w.zip q).map λa=>a.1*(at_ S a.2).1).sum=w.sum*p.1
 y:((w.zip q).map λa=>a.1*(at_ S a.2).2).sum=w.sum*p.2
def Zx{w:List Int}:Zp w=true↔w.sum≠0/\∀s∈w,0<=s*w.sum:=by unfold Zp;simp
def Z5n{S:List Pt}{p:Pt}{i j k:Nat}(h1:i<j)(h2:j<k)(h3:k<S.length)(h:Zp (qt (at_ S i) (at_ S j) (at_ S k) p)=true):T3 S p (qt (at_ S i) (at_ S j) (at_ S k) p) [i,j,k]:=by
 have hs:=Zx.mp h;refine⟨rfl,hs.1,hs.2,by simp;lia,by simp;lia,?_,?_⟩
 ·unfold qt;simp[tn];grind
 ·unfold qt;simp[tn];grind
def Z5o{S:List Pt}{p:Pt}{i j:Nat}(h1:i<j)(h2:j<S.length)(h:Zp (lH (at_ S i) (at_ S j) p)=true)(on:tn (at_ S i) (at_ S j) p=0):T3 S p (lH (at_ S i) (at_ S j) p) [i,j]:=by
 have hs:=Zx.mp h;refine⟨rfl,hs.1,hs.2,by simp;lia,by simp;lia,?_,?_⟩
 ·unfold lH;unfold tn at on;simp;grind
 ·unfold lH;unfold tn at on;simp;grind
def Qq{a b:Pt}:tn a a b=0/\tn a b a=0/\tn b a a=0:=by simp only[tn];grind
def Z5p{S:List Pt}{p:Pt}{i j k:Nat}(hi:i<S.length)(hj:j<S.length)(hk:k<S.length)(h:zB (at_ S i) (at_ S j) (at_ S k) p):∃i j k,(i,j,k)∈Ze S.length/\zB (at_ S i) (at_ S j) (at_ S k) p:=by
 have n1:i≠j:=λe=>h.1 (by rw[e];exact Qq.1);have n2:j≠k:=λe=>h.1 (by rw[e];exact Qq.2.2);have n3:i≠k:=λe=>h.1 (by rw[e];exact Qq.2.1);rcases wl n1 with a|a<;>rcases wl n2 with b|b<;>rcases wl n3 with c|c
 ·exact⟨i,j,k,Zf.mpr ⟨a,b,hk⟩,h⟩
 ·lia
 ·exact⟨i,k,j,Zf.mpr ⟨c,b,hj⟩,h.swap.DB.swap.DB.swap.DB.swap.DB.swap.DB|>λ_=>h.DB.swap.DB.DB⟩
 ·exact⟨k,i,j,Zf.mpr ⟨c,a,hj⟩,h.DB.DB⟩
 ·exact⟨j,i,k,Zf.mpr ⟨a,c,hk⟩,h.swap⟩
 ·exact⟨j,k,i,Zf.mpr ⟨b,c,hi⟩,h.DB⟩
 ·lia
 ·exact⟨k,j,i,Zf.mpr ⟨b,a,hi⟩,h.DB.swap⟩
def Z2n{S:List Pt}{p:Pt}(h:Ob S p=none):∀x∈S,∀y∈S,∀z∈S,¬zB x y z p:=by intro x hx y hy z hz Q4;obtain⟨i,hi,rfl⟩:=Oa hx;obtain⟨j,hj,rfl⟩:=Oa hy;obtain⟨k,hk,rfl⟩:=Oa hz;obtain⟨i,j,k,hm,h3⟩:=Z5p hi hj hk Q4;have:=AX.mp h (i,j,k) hm;rw[if_pos<|Z38.mpr h3]at this;cases this
def Z2o{S:List Pt}{p:Pt}(hS:S≠[])(h:Zs S p=none):T3 S p (Zj S p).1 (Zj S p).2:=by
 have hl:=Z2m h;unfold Zj;cases e3:Ob S p with
 |some r=>
  obtain⟨⟨i,j,k⟩,hm,hr⟩:=qR e3;obtain⟨h1,h2,h4⟩:=Zf.mp hm;split at hr
  ·rename_i hw;cases hr;exact Z5n h1 h2 h4 hw
  ·cases hr
 |none=>
  have no:=Z2n e3;have OU:∀x∈S,∀y∈S,∀z∈S,tn x y z=0:=by
   intro x hx y hy z hz;by_cases q:tn x y z=0
   ·exact q
   ·exfalso;obtain⟨a,ha,b,hb,Ld,h1,h2⟩:=Z5M ⟨x,hx,y,hy,z,hz,q⟩ no;have:=Lz.mp<|hl (Z4 a b)<|bo _<|ZF.mpr ⟨a,ha,b,hb,Ld,h1,rfl⟩;lia
  have on:∀a∈S,∀b∈S,tn a b p=0:=by
   intro a ha b hb;by_cases Ld:a=b
   ·subst Ld;exact Qq.1
   ·have h1:=Lz.mp (hl (Z4 a b)<|bo _<|ZF.mpr ⟨a,ha,b,hb,Ld,λs hs=>by rw[OU a ha b hb s hs];exact Int.le_refl 0,rfl⟩);have h2:=Lz.mp (hl (Z4 b a)<|bo _<|ZF.mpr ⟨b,hb,a,ha,λe=>Ld e.symm,λs hs=>by rw[OU b hb a ha s hs];exact Int.le_refl 0,rfl⟩);rw[ZP a b p]at h2;lia
  have bx:∀l∈box S,hd l p=true:=λl hm=>hl l<|kU _ hm;have b1:=bx (1,0,mx<|S.map (·.1)) (by simp[box]);have b2:=bx (-1,0,-mn (S.map (·.1))) (by simp[box]);have b3:=bx (0,1,mx<|S.map (·.2)) (by simp[box]);have b4:=bx (0,-1,-mn (S.map (·.2))) (by simp[box]);simp only[hd,decide_eq_true_iff]at b1 b2 b3 b4;have c1:p.1<=mx (S.map (·.1)):=by lia
  have c2:mn (S.map (·.1))<=p.1:=by lia
  have c3:p.2<=mx (S.map (·.2)):=by lia
  have c4:mn (S.map (·.2))<=p.2:=by lia
  have sq:∀z:Int,0<=z*z:=λz=>by
   rcases iY 0 z with q|q
   ·exact Ŏ q q
   ·exact qC q q
  cases e2:Qp S p with
  |some r=>
   obtain⟨⟨i,j⟩,hm,hr⟩:=qR e2;obtain⟨h1,h2⟩:=Zz.mp hm;split at hr
   ·rename_i hw;cases hr;exact Z5o h1 h2 hw (on _ (ZQ<|by lia) _<|ZQ h2)
   ·cases hr
  |none=>
   have Wv:∀a∈S,∀b∈S,¬(Zp (lH a b p)=true):=by
    intro a ha b hb hw;obtain⟨i,hi,rfl⟩:=Oa ha;obtain⟨j,hj,rfl⟩:=Oa hb;have OW:∀i j,i<j->j<S.length->Zp (lH (at_ S i) (at_ S j) p)=true->False:=by intro i j h1 h2 hw;have:=AX.mp e2 (i,j)<|Zz.mpr ⟨h1,h2⟩;rw[if_pos hw]at this;cases this
    rcases Nat.lt_trichotomy i j with q|q|q
    ·exact OW i j q hj hw
    ·subst q;refine(Zx.mp hw).1 ?_;simp[lH]
    ·refine OW j i q hi ?_;rw[Zx]at hw⊢;have e1:(lH (at_ S j) (at_ S i) p).sum=(lH (at_ S i) (at_ S j) p).sum:=by simp[lH];grind
     refine⟨by rw[e1];exact hw.1,λs hs=>?_⟩;rw[e1];refine hw.2 s ?_;simp[lH]at hs⊢;rcases hs with e|e
     ·right;rw[e];grind
     ·left;rw[e];grind
   have key:∀a∈S,∀b∈S,(0<b.1-a.1->a.1<=p.1->p.1<=b.1->False)/\(0<b.2-a.2->a.2<=p.2->p.2<=b.2->False):=by
    intro a ha b hb;have o:=on a ha b hb;have e:(b.1-a.1)*(p.2-a.2)=(b.2-a.2)*(p.1-a.1):=by unfold tn at o;lia
    refine⟨λh1 h2 h3=>Wv a ha b hb ?_,λh1 h2 h3=>Wv a ha b hb ?_⟩
    all_goals
     rw[Zx];have jR:(lH a b p).sum=(b.1-a.1)*(b.1-a.1)+(b.2-a.2)*(b.2-a.2):=by simp[lH]
     have s1:=sq<|b.1-a.1;have s2:=sq<|b.2-a.2
    ·have pos:0<(b.1-a.1)*(b.1-a.1):=vP h1 h1;have g1:0<=(b.1-a.1)*(p.1-a.1)+(b.2-a.2)*(p.2-a.2):=by
      have i1:((b.1-a.1)*(p.1-a.1)+(b.2-a.2)*(p.2-a.2))*(b.1-a.1)=((b.1-a.1)*(b.1-a.1)+(b.2-a.2)*(b.2-a.2))*(p.1-a.1):=by grind
      have i2:0<=((b.1-a.1)*(b.1-a.1)+(b.2-a.2)*(b.2-a.2))*(p.1-a.1):=Ŏ (by lia) (by lia);by_cases q:0<=(b.1-a.1)*(p.1-a.1)+(b.2-a.2)*(p.2-a.2)
      ·exact q
      ·have:=iZ (show(b.1-a.1)*(p.1-a.1)+(b.2-a.2)*(p.2-a.2)<0 by lia) h1;lia
     have g2:0<=(b.1-a.1)*(b.1-a.1)+(b.2-a.2)*(b.2-a.2)-((b.1-a.1)*(p.1-a.1)+(b.2-a.2)*(p.2-a.2)):=by
      have i1:((b.1-a.1)*(b.1-a.1)+(b.2-a.2)*(b.2-a.2)-((b.1-a.1)*(p.1-a.1)+(b.2-a.2)*(p.2-a.2)))*(b.1-a.1)=((b.1-a.1)*(b.1-a.1)+(b.2-a.2)*(b.2-a.2))*(b.1-p.1):=by grind
      have i2:0<=((b.1-a.1)*(b.1-a.1)+(b.2-a.2)*(b.2-a.2))*(b.1-p.1):=Ŏ (by lia) (by lia);by_cases q:0<=(b.1-a.1)*(b.1-a.1)+(b.2-a.2)*(b.2-a.2)-((b.1-a.1)*(p.1-a.1)+(b.2-a.2)*(p.2-a.2))
      ·exact q
      ·have:=iZ (show(b.1-a.1)*(b.1-a.1)+(b.2-a.2)*(b.2-a.2)-((b.1-a.1)*(p.1-a.1)+(b.2-a.2)*(p.2-a.2))<0 by lia) h1;lia
     rw[jR];refine⟨by lia,λs hs=>?_⟩;simp[lH]at hs;rcases hs with e|e<;>rw[e]
     ·exact Ŏ g2 (by lia)
     ·exact Ŏ g1 (by lia)
    ·have pos:0<(b.2-a.2)*(b.2-a.2):=vP h1 h1;have g1:0<=(b.1-a.1)*(p.1-a.1)+(b.2-a.2)*(p.2-a.2):=by
      have i1:((b.1-a.1)*(p.1-a.1)+(b.2-a.2)*(p.2-a.2))*(b.2-a.2)=((b.1-a.1)*(b.1-a.1)+(b.2-a.2)*(b.2-a.2))*(p.2-a.2):=by grind
      have i2:0<=((b.1-a.1)*(b.1-a.1)+(b.2-a.2)*(b.2-a.2))*(p.2-a.2):=Ŏ (by lia) (by lia);by_cases q:0<=(b.1-a.1)*(p.1-a.1)+(b.2-a.2)*(p.2-a.2)
      ·exact q
      ·have:=iZ (show(b.1-a.1)*(p.1-a.1)+(b.2-a.2)*(p.2-a.2)<0 by lia) h1;lia
     have g2:0<=(b.1-a.1)*(b.1-a.1)+(b.2-a.2)*(b.2-a.2)-((b.1-a.1)*(p.1-a.1)+(b.2-a.2)*(p.2-a.2)):=by
      have i1:((b.1-a.1)*(b.1-a.1)+(b.2-a.2)*(b.2-a.2)-((b.1-a.1)*(p.1-a.1)+(b.2-a.2)*(p.2-a.2)))*(b.2-a.2)=((b.1-a.1)*(b.1-a.1)+(b.2-a.2)*(b.2-a.2))*(b.2-p.2):=by grind
      have i2:0<=((b.1-a.1)*(b.1-a.1)+(b.2-a.2)*(b.2-a.2))*(b.2-p.2):=Ŏ (by lia) (by lia);by_cases q:0<=(b.1-a.1)*(b.1-a.1)+(b.2-a.2)*(b.2-a.2)-((b.1-a.1)*(p.1-a.1)+(b.2-a.2)*(p.2-a.2))
      ·exact q
      ·have:=iZ (show(b.1-a.1)*(b.1-a.1)+(b.2-a.2)*(b.2-a.2)-((b.1-a.1)*(p.1-a.1)+(b.2-a.2)*(p.2-a.2))<0 by lia) h1;lia
     rw[jR];refine⟨by lia,λs hs=>?_⟩;simp[lH]at hs;rcases hs with e|e<;>rw[e]
     ·exact Ŏ g2 (by lia)
     ·exact Ŏ g1 (by lia)
   have nm:∀f:Pt->Int,S.map f≠[]:=λf e=>hS<|List.map_eq_nil_iff.mp e;obtain⟨xa,hxa,exa⟩:=Đ.mp<|Wu<|nm (·.1);obtain⟨xb,hxb,exb⟩:=Đ.mp<|Wt<|nm (·.1);obtain⟨ya,hya,eya⟩:=Đ.mp<|Wu<|nm (·.2);obtain⟨yb,hyb,eyb⟩:=Đ.mp<|Wt<|nm (·.2);have h0:at_ S 0∈S:=ZQ<|qS.mpr hS;have l1:=Qn<|cK (f:=(·.1)) h0;have l2:=Qo<|cK (f:=(·.1)) h0;have l3:=Qn<|cK (f:=(·.2)) h0;have l4:=Qo<|cK (f:=(·.2)) h0;have ex:p.1=(at_ S 0).1:=by
    by_cases q:mn (S.map (·.1))<mx (S.map (·.1))
    ·exact((key xa hxa xb hxb).1 (by lia) (by lia) (by lia)).elim
    ·lia
   have ey:p.2=(at_ S 0).2:=by
    by_cases q:mn (S.map (·.2))<mx (S.map (·.2))
    ·exact((key ya hya yb hyb).2 (by lia) (by lia) (by lia)).elim
    ·lia
   refine⟨rfl,by simp,by simp,by simp,by simp;exact qS.mpr hS,?_,?_⟩
   ·simp[ex]
   ·simp[ey]
end Hu
namespace Fr
def Z3a{t b s W C:Int}(hb:0<b)(h:t*W=s*b)(hd:b ∣ C):C/b*t*W=C*s:=by
 obtain⟨q,rfl⟩:=hd;rw[vN q<|by lia]
 calc q*t*W=q*(t*W):=by rw[bj]
  _=q*(s*b):=by rw[h]
  _=b*q*s:=by rw[dP b q,bj,dP s b]
theorem ZN{α:Type}{f g:α->Int}{W C:Int}:∀(l:List α),(∀x∈l,f x*W=C*g x)->(l.map f).sum*W=C*(l.map g).sum
 |[],_=>by simp|x::l,h=>by rw[á,á,nq,nq,Int.add_mul,Int.mul_add,h x (by simp),ZN l λy hy=>h y<|ð _ hy]
theorem Ww:∀(bs:List Int) (a:Int),a ∣ bs.foldl (·*·) a/\∀b∈bs,b ∣ bs.foldl (·*·) a
 |[],a=>⟨⟨1,by simp⟩,λb hb=>by cases hb⟩
 |x::bs,a=>by
  obtain⟨h1,h2⟩:=Ww bs<|a*x;rw[ϡ];refine⟨Int.dvd_trans ⟨x,rfl⟩ h1,λb hb=>?_⟩;rcases ö.mp hb with e|e
  ·subst e;exact Int.dvd_trans ⟨a,dP a b⟩ h1
  ·exact h2 b e
noncomputable def df:List Int->(Nat->Int)->Int
 |[],_=>0|x::l,f=>x*f 0+df l λk=>f<|k+1
theorem Wx:∀(l:List Int) (i:Nat) (s:Int) (f:Nat->Int),i<l.length->l.getD i 0=0->df (l.set i s) f=df l f+s*f i
 |[],_,_,_,h,_=>by simp at h|x::l,0,s,f,_,h=>by
  have e:x=0:=by simpa using h
  subst e;simp[df];lia
 |x::l,i+1,s,f,hl,h=>by have:=Wx l i s (λk=>f<|k+1) (by simpa using hl) (by simpa using h);simp only[nr,df,this];lia
def Z3Y(n:Nat):∀(f:Nat->Int),df (Ù n 0) f=0:=by
 induction n with
 |zero=>intro f;rfl|succ n ih=>intro f;rw[vZ];simp[df,ih]
def lay(l:List Int)(a:List (Int×Nat)):List Int:=a.foldl (λacc a=>acc.set a.2 a.1) l
theorem Wy:∀(a:List (Int×Nat)) (l:List Int),(lay l a).length=l.length
 |[],l=>rfl|x::a,l=>by unfold lay;rw[ϡ];exact(Wy a _).trans (by simp)
theorem Wz:∀(a:List (Int×Nat)) (l:List Int) (f:Nat->Int),(a.map (·.2)).Nodup->(∀x∈a,x.2<l.length)->(∀x∈a,l.getD x.2 0=0)->df (lay l a) f=df l f+(a.map λx=>x.1*f x.2).sum
 |[],l,f,_,_,_=>by simp[lay]|x::a,l,f,nd,lt,z=>by
  rw[á,b_]at nd;have h1:=Wx l x.2 x.1 f (lt x<|by simp) (z x<|by simp);have h2:=Wz a (l.set x.2 x.1) f nd.2 (λy hy=>by simpa using lt y (ð _ hy)) λy hy=>by have iX:x.2≠y.2:=λe=>nd.1<|e▸cK hy;rw[Ϡ,i_ iX,<-Ϡ];exact z y<|ð _ hy
  unfold lay at h2⊢;rw[ϡ,h2,h1,á,nq];lia
theorem WA:∀(a:List (Int×Nat)) (l:List Int) (x:Int),x∈lay l a->x∈l\/x∈a.map (·.1)
 |[],l,x,h=>.inl h|y::a,l,x,h=>by
  unfold lay at h;rw[ϡ]at h;rcases WA a (l.set y.2 y.1) x h with q|q
  ·rcases AV q with q|q
   ·exact .inl q
   ·right;rw[q];simp
  ·right;rw[á];exact ð _ q
theorem WB:∀(l:List Int),df l (λ_=>1)=l.sum
 |[]=>rfl|x::l=>by simp[df,WB l]
theorem WC:∀(l:List Int) (f:Nat->Int),df l f=((å l.length).map λk=>l.getD k 0*f k).sum
 |[],f=>rfl|x::l,f=>by rw[Ę,List.range_succ_eq_map,á,Ğ,nq];simp only[df,WC l];rfl
end Fr
namespace T
open PySem L2 M2 M3 M4 P
noncomputable section
def top(i:Nat):ò:=PySem.Challenge.pw_shadowpost_k81_whole_dark_by_witnesses.main.body.getD i<|.Pass ⟨0,0,0,0⟩
def ZR:List (Str×PV):=[("show",.tup [.int 0,.int 0,.cls "answer_show"]),("dark",.tup [.int 1,.int 1,.cls "answer_dark"]),("who",.tup [.int 1,.int 3,.cls "answer_who"]),("lit",.tup [.int 1,.int 2,.cls "answer_lit"]),("hours",.tup [.int 0,.int 2,.cls "answer_hours"]),("first",.tup [.int 0,.int 2,.cls "answer_first"]),("walk",.tup [.int 1,.int 4,.cls "answer_walk"]),("dial",.tup [.int 0,.int 3,.cls "answer_dial"])]
def oP:M Fl:=(ú<|Ķ<|Ϲ An<|É (Â 2) ã)
def jH:M Fl:=(æ (eN (Ϻ<|Ý<|oB (Â 0) (mP<|ä 1)<|mP<|Ý<|Ą ü (Â 1)<|Å 1) (gN 2) oP)
 (ú<|Ķ<|Å 0))
def ŝ:MF:=Ď 2 3 jH
def eC:M Fl:=(ú<|Ķ<|gm (mH eO eO (Å 1) (Ϲ aa<|É (Â 0) ã)<|Â 2)<|Ϲ kD<|É (Ý<|ģ [1] 1 (ı 0) (gN 1) Ĕ (Ê Cf (Â 1)<|Â 0)) ã)
def ac:MF:=Ď 3 3 eC
def fH:M Fl:=(æ (ć 1<|ϴ (aU<|Ha oE (Â 0)<|É (mC<|.str "-") ã) (oB (Â 0) (mP<|Å 1) jC)<|Ķ<|ä 0)
 (æ (ϴ (cW<|aU<|Ý<|à ac<|Í 1<|Û (mC<|.str "0123456789")<|Û (mC<|.int<|10) Ú)
 (ú<|Ķ<|mC<|.bl false)
 bi)
 (ú<|Ķ<|Pa (Ê ŉ (Â 0)<|mC<|.str "0")<|JW<|Ha oE (Â 1)<|É (mC<|.str "0") ã)))
def ϔ:MF:=Ď 1 2 fH
def lP:M Fl:=(æ (ϴ (aU<|Ϲ kD<|É (Ý<|ģ [] 1 (ı 0) (gN 0) Ĕ (Ý<|à ϔ<|Í 0 Ú)) ã)
 (ú<|ģ [] 1 (ı 0) (gN 0) Ĕ (Ϲ iG<|É (Â 0) ã))
 bi)
 (ú<|Ķ<|mC .non))
def cZ:MF:=Ď 1 1 lP
def lQ:M Fl:=(æ (ć 2<|à cZ<|Í 0 Ú)
 (æ (ϴ (ϯ<|Ê tq (Â 2)<|mC .non)
 cX
 bi)
 (ú<|dE 2)))
def ae:MF:=Ď 2 3 lQ
def oQ:M Fl:=(æ (ϴ (kc (ϯ<|Ê ϲ (Ê ß (Â 0)<|Å 0)<|mC<|.str "yard")<|ϯ<|Ê ϲ (Ϲ aa<|É (Â 0) ã)<|Å 3)
 cX
 bi)
 (æ (ć 2<|à ae<|Û (Ý<|oB (Â 0) (mP<|Å 1) jC)<|Í 1 Ú)
 (æ (ϴ (cW<|aU<|Ϲ kD<|É (Ý<|ģ [] 1 (ı 2) (gN 0) Ĕ (mH eO eO (Å 1) (Â 0)<|mC<|.int<|20)) ã)
 cX
 bi)
 (ú<|dE 2))))
def gW:MF:=Ď 2 3 oQ
def c_:M Fl:=(ú<|Ķ<|gm (Ê CW (tQ 0)<|Å 0)<|Ê ŉ (zm 0)<|Å 0)
def Ů:MF:=Ď 1 1 c_
def iH:M Fl:=(æ (jV 0 ["Yard"] "width" (ä 1))
 (æ (jV 0 ["Yard"] "height" (ä 2))
 (æ (jV 0 ["Yard"] "things" (Ý<|xD kz<|É (Â 3) ã))
 (jV 0 ["Yard"] "days" (Ý<|Qc (Ky 4) (ģ [] 3 (pG 4) (gD 0 1 2) Ĕ (Ō<|É (ä 0)<|É (ä 1)<|É (Ý<|xD kz<|É (Â 2) ã) ã))<|ģ [] 3 (ı 4) (gT 3<|ï (gN 0)<|ï (gN 1)<|ï (gN 2) ϒ) Ĕ (Ō<|É (ä 0)<|É (ä 1)<|É (Ý<|xD kz<|É (Â 2) ã) ã))))))
def jI:MI:=dH 5 5 "Yard" iH
def vB:M Fl:=(ú<|Ķ<|gm (Ê eO (Ϲ An<|É (Ê ß (Â 0)<|Å 0) ã)<|mC<|.int<|1000000)<|gm (Ê eO (Ϲ An<|É (Ê ß (Â 0)<|Å 1) ã)<|mC<|.int<|1000000)<|mH eO eO (Å 1) (Ê ß (Â 0)<|Å 2)<|mC<|.int<|1000000)
def oR:MF:=Ď 1 1 vB
def jJ:M Fl:=(æ (ϴ (ϯ<|Ê ŉ (Â 0)<|Ý<|bP<|É (mC<|.str "night") ã)
 (ú<|Ķ<|mC .non)
 bi)
 (æ (ϴ (kc (ϯ<|Ê ϲ (Ê ß (Â 0)<|Å 0)<|mC<|.str "ray")<|ϯ<|Ê ϲ (Ϲ aa<|É (Â 0) ã)<|Å 4)
 cX
 bi)
 (æ (ć 2<|Ķ<|Ϲ jD<|É (Ý<|à ae<|Û (Ý<|oB (Â 0) (mP<|Å 1) jC)<|Í 1 Ú) ã)
 (æ (ϴ (cW<|aU<|Ý<|à oR<|Í 2 Ú)
 cX
 bi)
 (ú<|dE 2)))))
def eQ:MF:=Ď 2 3 jJ
def oS:M WR:=(tN (kc (ϯ<|Ê ŉ (tQ 2)<|Å 0)<|ϯ<|Ê ŉ (zm 2)<|mC<|.int<|24) cX<|zl 2<|Ý<|à eQ<|Í 0<|Í 1 Ú)
def gX:MW:=fW 3 3 oS
def ud:M Fl:=(ú<|à ac<|Í 0<|Û (mC<|.str "abcdefghijklmnopqrstuvwxyz")<|Û (mC<|.int<|8) Ú)
def lI:MF:=Ď 1 1 ud
def qb:M Fl:=(æ (ϴ (kc (ϯ<|Ê ϲ (Ϲ aa<|É (Â 0) ã)<|Å 3)<|cW<|aU<|Ý<|à lI<|Û (Ê ß (Â 0)<|Å 1) Ú)
 cX
 bi)
 (æ (ć 2<|Ķ<|Ê ß (Ý<|à ae<|Û (Ý<|oB (Â 0) (mP<|Å 2) jC)<|Í 1 Ú)<|Å 0)
 (æ (ϴ (cW<|ϯ<|mH eO eO (Å 1) (Â 2)<|mC<|.int<|1000000000)
 cX
 bi)
 (ú<|Iw<|Ax (Ê ß (Â 0)<|Å 1)<|Ax (ä 2)<|Iv<|bP ã))))
def jK:MF:=Ď 2 3 qb
def qc:M WR:=(tN (kc (aU<|Ý<|à Ů<|Í 2 Ú)<|ϯ<|Ê ŉ (tQ 2)<|mC<|.int<|12) cX<|Iy 3 (à jK<|Í 0<|Í 1 Ú)<|tN (zc 3<|ϯ<|Ê Cf (Ê ß (Â 3)<|Å 0)<|Ý<|ģ [] 3 (pG 2) (gD 0 1 2) Ĕ (ä 0)) cX<|zj 2 3)
def jL:MW:=fW 3 4 qc
def qd:M Fl:=(ú<|Ķ<|mH eO eO (fM kx<|mC<|.int<|1000000000) (Â 0)<|mC<|.int<|1000000000)
def a_:MF:=Ď 1 1 qd
def oT:M Fl:=(ú<|Ķ<|mH eO eO (Å 1) (Â 0)<|mC<|.int<|1000000000)
def eR:MF:=Ď 1 1 oT
def il:M Fl:=(ú<|Ķ<|gm (Ê ŉ (Ϲ aa<|É (Â 0) ã)<|Å 3)<|gm (Ý<|à a_<|Û (Ê ß (Â 0)<|Å 0) Ú)<|gm (Ý<|à a_<|Û (Ê ß (Â 0)<|Å 1) Ú)<|Ý<|à eR<|Û (Ê ß (Â 0)<|Å 2) Ú)
def da:MF:=Ď 1 1 il
def ĵ:M Fl:=(æ (jV 0 ["Thing","Post","Fence","Sail","Cloth","House"] "word" (ä 1))
 (jV 0 ["Thing","Post","Fence","Sail","Cloth","House"] "numbers" (Ý<|xD kz<|É (Â 2) ã)))
def Fv:MI:=dH 3 3 "Thing" ĵ
def x_:MI:=dH 3 3 "Post" ĵ
def ue:MI:=dH 3 3 "Fence" ĵ
def yc:MI:=dH 3 3 "Sail" ĵ
def uf:MI:=dH 3 3 "Cloth" ĵ
def ug:MI:=dH 3 3 "House" ĵ
def eV:M Fl:=(ú<|Ķ<|gm (Ê ŉ (Ϲ aa<|É (Â 0) ã)<|Å 5)<|gm (Ϲ kD<|É (Ý<|ģ [] 1 (Ϻ<|Ý<|oB (Â 0) jC<|mP<|Å 4) (gN 0) Ĕ (Ý<|à a_<|Í 0 Ú)) ã)<|Ý<|à eR<|Û (Ê ß (Â 0)<|Å 4) Ú)
def Ϭ:MF:=Ď 1 1 eV
def fZ:M Fl:=(ú<|Ķ<|gm (Ý<|à Ϭ<|Í 0 Ú)<|Ê ϲ (Ý<|oB (Â 0) jC<|mP<|Å 2)<|Ý<|oB (Â 0) (mP<|Å 2)<|mP<|Å 4)
def bS:MF:=Ď 1 1 fZ
def af:M Fl:=(ú<|Ķ<|gm (Ý<|à Ϭ<|Í 0 Ú)<|gm (Ê kt (Ê ß (Â 0)<|Å 0)<|Ê ß (Â 0)<|Å 2)<|Ê kt (Ê ß (Â 0)<|Å 1)<|Ê ß (Â 0)<|Å 3)
def ķ:MF:=Ď 1 1 af
def f_:M Fl:=(ú<|Ķ<|gm (Ý<|à a_<|Û (Ê ß (Â 0)<|Å 0) Ú)<|gm (Ý<|à a_<|Û (Ê ß (Â 0)<|Å 1) Ú)<|mH eO eO (Å 0) (Ê ß (Â 0)<|Å 2)<|mC<|.int<|1000000000)
def aO:MF:=Ď 1 1 f_
def ga:M Fl:=(ú<|Ķ<|gm (Ê ŉ (Ϲ aa<|É (Â 0) ã)<|Å 9)<|Ϲ kD<|É (Ý<|ģ [0] 1 (Ϻ<|Ō<|É (Å 0)<|É (Å 3)<|É (Å 6) ã) (gN 1) Ĕ (Ý<|à aO<|Û (Ý<|oB (Â 0) (mP<|ä 1)<|mP<|Ý<|Ą ü (Â 1)<|Å 3) Ú)) ã)
def bT:MF:=Ď 1 1 ga
def ba:M Fl:=(æ (ϴ (ou (ϯ<|Ê ŉ (Â 0)<|mC<|.str "post")<|aU<|Ý<|à da<|Í 1 Ú)
 (ú<|Ķ<|eP "Post" x_ (Í 0<|Í 1 Ú))
 bi)
 (æ (ϴ (ou (ϯ<|Ê ŉ (Â 0)<|mC<|.str "fence")<|aU<|Ý<|à bS<|Í 1 Ú)
 (ú<|Ķ<|eP "Fence" ue (Í 0<|Í 1 Ú))
 bi)
 (æ (ϴ (ou (ϯ<|Ê ŉ (Â 0)<|mC<|.str "sail")<|aU<|Ý<|à ķ<|Í 1 Ú)
 (ú<|Ķ<|eP "Sail" yc (Í 0<|Í 1 Ú))
 bi)
 (æ (ϴ (ou (ϯ<|Ê ŉ (Â 0)<|mC<|.str "cloth")<|aU<|Ý<|à bT<|Í 1 Ú)
 (ú<|Ķ<|eP "Cloth" uf (Í 0<|Í 1 Ú))
 bi)
 (æ (ϴ (ou (ϯ<|Ê ŉ (Â 0)<|mC<|.str "house")<|aU<|Ý<|à ķ<|Í 1 Ú)
 (ú<|Ķ<|eP "House" ug (Í 0<|Í 1 Ú))
 bi)
 cX)))))
def ŕ:MF:=Ď 2 2 ba
def lR:M Fl:=(æ (ć 2<|à ae<|Û (Ý<|oB (Â 0) (mP<|Å 1) jC)<|Í 1 Ú)
 (Ft<|ú<|à ŕ<|Û (Ê ß (Â 0)<|Å 0)<|Í 2 Ú))
def fI:MF:=Ď 2 3 lR
def lS:M WR:=(tN (kc (ϯ<|Ê CW (tQ 3)<|Å 0)<|ϯ<|Ê ŉ (Ϲ aa<|É (Â 2) ã)<|mC<|.int<|40) cX<|zi 2<|Ý<|à fI<|Í 0<|Í 1 Ú)
def db:MW:=fW 4 4 lS
def gY:M WR:=(Kz (ϯ<|Ê Cf (Ê ß (Â 0)<|Å 0)<|Ō<|É (mC<|.str "ray")<|É (mC<|.str "night") ã) (ϫ gX [0,1,3])<|Kz (ϯ<|Ê ŉ (Ê ß (Â 0)<|Å 0)<|mC<|.str "day") (ϫ jL [0,1,3])<|ϫ db [0,1,2,3])
def Ħ:MW:=fW 4 4 gY
def oU:M Fl:=(æ (ć 1<|ģ [] 1 (Ϻ<|Ý<|AD fX (Â 0)<|É (mC<|.str "\n") ã) (gN 0) Ĕ (Ý<|AD fX (Â 0)<|É (mC<|.str " ") ã))
 (æ (ć 2<|à gW<|Û (Ê ß (Â 1)<|Å 0)<|Û (Å 0) Ú)
 (Qe 5 6 3 4 (AB<|PU<|Ý<|oB (Â 1) (mP<|Å 1) jC) (ϫ Ħ [6,5,3,4]) (æ (ϴ (aU<|Ý<|à Ů<|Í 4 Ú)
 cX
 bi)
 (ú<|Ķ<|eP "Yard" jI (Û (Ê ß (Â 2)<|Å 0)<|Û (Ê ß (Â 2)<|Å 1)<|Í 3<|Í 4 Ú))))))
def gZ:MF:=Ď 1 7 oU
def iI:M Fl:=(jV 0 ["Desk"] "yard" (Ý<|à gZ<|Í 1 Ú))
def oW:MI:=dH 2 2 "Desk" iI
def Ŵ:M Fl:=(æ (xE (gS 2<|ï (gN 7)<|ï (gN 8) ϒ)<|Ϲ gU<|É (Â 3)<|É (Å 4099) ã)
 (ć 3<|Ķ<|Ê Ļ (Ý<|Ą ü (Ý<|Ą ü (Ý<|Ą ü (Ê ó (Â 8)<|Å 240007)<|Ê ó (Â 7)<|Å 89)<|Ê ó (Å 1201)<|Ϲ aa<|É (Â 2) ã)<|Å 11)<|Å 998244353))
def bc:M Fl:=(aC (ϯ<|Ê kt (Ϲ aa<|É (Â 2) ã)<|Â 1)
 (æ (eN (Ϫ Ϛ<|É (Å 2) ã) (gN 5) Ŵ)
 (xF 2<|Ê eY (Â 3)<|Å 5)))
def be:M Fl:=(æ (xE (gS 2<|ï (gN 3)<|ï (gN 6) ϒ)<|Ϲ gU<|É (Â 3)<|É (Ê yO (Å 10)<|Å 9) ã)
 (xF 2<|ä 6))
def gb:M Fl:=(æ (ć 2<|bP ã)
 (æ (ć 3<|Ķ<|Ê eY (Â 0)<|Å 2)
 (æ (eN (Ϫ Ϛ<|É (Ê ó (Â 1)<|Ê Œ (Å 1)<|Ê Ļ (Â 0)<|Å 2) ã) (gN 4) be)
 (æ (ć 3<|Ą ü (Ê Ļ (Â 3)<|Å 998244341)<|Å 5)
 (æ bc
 (ú<|dE 2))))))
def ů:MF:=Ď 2 9 gb
def T4:M Fl:=(æ (ϴ (ϯ<|Ê ŉ (Ê Ļ (Ê ß (Â 3)<|Å 0)<|Å 5)<|Å 0)
 (ú<|bP<|É (mC<|.str "post")<|É (Ê Œ (Ê Ļ (Ê ß (Â 3)<|Å 1)<|Ý<|Ą ü (Â 1)<|Å 2)<|Å 1)<|É (Ê Œ (Ê Ļ (Ê ß (Â 3)<|Å 2)<|Ý<|Ą ü (Â 2)<|Å 2)<|Å 1)<|É (ä 8) ã)
 bi)
 (æ (ϴ (ϯ<|Ê ŉ (Ê Ļ (Ê ß (Â 3)<|Å 0)<|Å 5)<|Å 1)
 (æ (ć 10<|Ķ<|Ê ß (Ý<|bP<|É (Ō<|É (ä 6)<|É (ä 5) ã)<|É (Ō<|É (ä 6)<|É (ä 7) ã)<|É (Ō<|É (ä 4)<|É (ä 7) ã)<|É (Ō<|É (Ê Œ (Â 4)<|Å 2)<|É (ä 7) ã) ã)<|Ê Ļ (Ê ß (Â 3)<|Å 7)<|Å 4)
 (ú<|bP<|É (mC<|.str "fence")<|É (ä 4)<|É (ä 5)<|É (Ê ß (Â 10)<|Å 0)<|É (Ê ß (Â 10)<|Å 1)<|É (ä 8) ã))
 bi)
 (æ (ϴ (ϯ<|Ê ŉ (Ê Ļ (Ê ß (Â 3)<|Å 0)<|Å 5)<|Å 2)
 (ú<|bP<|É (mC<|.str "sail")<|É (ä 4)<|É (ä 5)<|É (ä 6)<|É (ä 7)<|É (ä 8) ã)
 bi)
 (æ (ϴ (ϯ<|Ê ŉ (Ê Ļ (Ê ß (Â 3)<|Å 0)<|Å 5)<|Å 3)
 (ú<|bP<|É (mC<|.str "house")<|É (ä 4)<|É (ä 5)<|É (ä 6)<|É (ä 7)<|É (ä 8) ã)
 bi)
 (æ (ć 9<|Ķ<|Ê ó (Ê Ļ (Ê ß (Â 3)<|Å 10)<|Å 7)<|Ê Ļ (Ê ß (Â 3)<|Å 6)<|Å 2)
 (ú<|bP<|É (mC<|.str "cloth")<|É (ä 4)<|É (ä 5)<|É (Ê Ļ (Ê ß (Â 3)<|Å 5)<|Å 7)<|É (ä 6)<|É (Ý<|Ą ü (Ê Œ (Â 5)<|Å 2)<|Ê Ļ (Ê ß (Â 3)<|Å 7)<|Å 5)<|É (Ê Ļ (Ê ß (Â 3)<|Å 8)<|Å 7)<|É (Ý<|Ą ü (Ê Œ (Â 4)<|Å 3)<|Ê Ļ (Ê ß (Â 3)<|Å 9)<|Å 7)<|É (ä 7)<|É (ä 9) ã))))))
def pI:M Fl:=(æ (ć 3<|à ů<|Í 0<|Û (Å 11) Ú)
 (æ (ć 4<|Ķ<|Ê Œ (Ê Ļ (Ê ß (Â 3)<|Å 1)<|Ý<|Ą ü (Ê ó (Å 2)<|Â 1)<|Å 7)<|Å 4)
 (æ (ć 5<|Ķ<|Ê Œ (Ê Ļ (Ê ß (Â 3)<|Å 2)<|Ý<|Ą ü (Ê ó (Å 2)<|Â 2)<|Å 7)<|Å 4)
 (æ (ć 6<|Ą ü (Ý<|Ą ü (Â 4)<|Å 1)<|Ê Ļ (Ê ß (Â 3)<|Å 3)<|Å 5)
 (æ (ć 7<|Ą ü (Ý<|Ą ü (Â 5)<|Å 1)<|Ê Ļ (Ê ß (Â 3)<|Å 4)<|Å 5)
 (æ (ć 8<|Ą ü (Å 1)<|Ê Ļ (Ê ß (Â 3)<|Å 5)<|Å 8)
 (æ (ϴ (ϯ<|Ê ŉ (Ê Ļ (Ê ß (Â 3)<|Å 6)<|Å 8)<|Å 5)
 (ć 8<|Ķ<|Ê Œ (Ê yO (Å 10)<|Å 9)<|Ê Ļ (Ê ß (Â 3)<|Å 5)<|Å 1000)
 bi)
 T4)))))))
def ϋ:MF:=Ď 3 11 pI
def de:M Fl:=(æ (ć 1<|à ů<|Í 0<|Û (Å 4) Ú)
 (æ (ϴ (ϯ<|Ê ŉ (Ê Ļ (Ê ß (Â 1)<|Å 3)<|Å 6)<|Å 4)
 (ú<|Ķ<|mC .non)
 bi)
 (æ (ϴ (ϯ<|Ê ŉ (Ê Ļ (Ê ß (Â 1)<|Å 3)<|Å 6)<|Å 5)
 (ú<|Ķ<|Ō<|É (Ê Œ (Ê Ļ (Ê ß (Â 1)<|Å 0)<|Å 2000001)<|Å 1000000)<|É (Ê Œ (Ê Ļ (Ê ß (Â 1)<|Å 1)<|Å 2000001)<|Å 1000000)<|É (Ý<|Ą ü (Å 1)<|Ê Ļ (Ê ß (Â 1)<|Å 2)<|Å 1000000) ã)
 bi)
 (ú<|Ķ<|Ō<|É (Ê Œ (Ê Ļ (Ê ß (Â 1)<|Å 0)<|Å 7)<|Å 3)<|É (Ê Œ (Ê Ļ (Ê ß (Â 1)<|Å 1)<|Å 7)<|Å 3)<|É (Ý<|Ą ü (Å 1)<|Ê Ļ (Ê ß (Â 1)<|Å 2)<|Å 3) ã))))
def Ϙ:MF:=Ď 1 2 de
def kI:M Fl:=(ú<|Ķ<|Ha iC (mC<|.str " ")<|É (Ý<|ģ [] 1 (ı 0) (gN 0) Ĕ (Ϲ fY<|É (Â 0) ã)) ã)
def ě:MF:=Ď 1 1 kI
def Ť:M Fl:=(ϴ (ϯ<|Ê tq (Â 8)<|mC .non)
 (xF 4<|mC<|.str "night")
 (xF 4<|Ý<|à ě<|Û (Ý<|Ą ü (Ý<|bP<|É (mC<|.str "ray") ã)<|Ý<|xD kz<|É (Â 8) ã) Ú))
def aP:M Fl:=(æ (xF 4<|Ý<|à ě<|Û (Ý<|bP<|É (mC<|.str "day")<|É (ä 5)<|É (ä 6) ã) Ú)
 (eN (ı 7) (gN 8) Ť))
def g_:M Fl:=(æ (ć 4<|Ą ü (Ý<|bP<|É (Ý<|à ě<|Û (Ý<|bP<|É (mC<|.str "yard")<|É (ä 0)<|É (ä 1) ã) Ú) ã)<|Ý<|ģ [] 1 (ı 2) (gN 0) Ĕ (Ý<|à ě<|Í 0 Ú))
 (æ (eN (ı 3) (gT 3<|ï (gN 5)<|ï (gN 6)<|ï (gN 7) ϒ) aP)
 (ú<|Ķ<|Ha iC (mC<|.str "\n")<|É (Â 4) ã)))
def bI:MF:=Ď 4 9 g_
def hG:M Fl:=(æ (ć 2<|à cZ<|Û (Ý<|oB (Â 0) (mP<|ä 1) jC) Ú)
 (æ (ϴ (ϯ<|Ê tq (Â 2)<|mC .non)
 cX
 bi)
 (ú<|dE 2)))
def Ŗ:MF:=Ď 2 3 hG
def uh:M Fl:=(ú<|Ķ<|mH eO kt (Å 0) (Â 1)<|Ϲ aa<|É (fM (Ŝ ["Yard"] "days")<|Â 0) ã)
def lJ:MF:=Ď 2 2 uh
def qe:M Fl:=(ú<|Ķ<|Ê ß (Ê ß (fM (Ŝ ["Yard"] "days")<|Â 0)<|Â 1)<|Å 2)
def dL:MF:=Ď 2 2 qe
def lU:M Fl:=(ϴ (kc (cW<|aU<|Ý<|à lJ<|Í 0<|Í 1 Ú)<|cW<|ϯ<|mH eO kt (Å 0) (Â 2)<|Ϲ aa<|É (Ý<|à dL<|Í 0<|Í 1 Ú) ã)
 cX
 bi)
def dg:MF:=Ď 3 3 lU
def oX:M Fl:=(æ (ć 1<|ģ [] 1 (ı 0) (gN 0) Ĕ (Ê ß (Â 0)<|Å 0))
 (æ (ć 2<|ģ [] 1 (ı 0) (gN 0) Ĕ (Ê ß (Â 0)<|Å 1))
 (ú<|bP<|É (Ō<|É (Å 1)<|É (Å 0)<|É (Ϲ vi<|É (Â 1) ã) ã)<|É (Ō<|É (fM kx<|Å 1)<|É (Å 0)<|É (fM kx<|Ϲ vj<|É (Â 1) ã) ã)<|É (Ō<|É (Å 0)<|É (Å 1)<|É (Ϲ vi<|É (Â 2) ã) ã)<|É (Ō<|É (Å 0)<|É (fM kx<|Å 1)<|É (fM kx<|Ϲ vj<|É (Â 2) ã) ã) ã)))
def hV:MF:=Ď 1 3 oX
def bJ:M Fl:=(ϴ (ϯ<|Ê (Cs true) (Â 2)<|Â 1)
 (xF 1<|ä 2)
 bi)
def oY:M Fl:=(æ (ć 1<|bP ã)
 (æ (eN (ı 0) (gN 2) bJ)
 (ú<|dE 1)))
def h_:MF:=Ď 1 3 oY
def jY:M Fl:=(æ (ć 2<|Ķ<|Ê Œ (Ê ß (Â 1)<|Å 1)<|Ê ß (Â 0)<|Å 1)
 (æ (ć 3<|Ķ<|Ê Œ (Ê ß (Â 0)<|Å 0)<|Ê ß (Â 1)<|Å 0)
 (ú<|Ķ<|Ō<|É (ä 2)<|É (ä 3)<|É (Ý<|Ą ü (Ê ó (Â 2)<|Ê ß (Â 0)<|Å 0)<|Ê ó (Â 3)<|Ê ß (Â 0)<|Å 1) ã)))
def dh:MF:=Ď 2 4 jY
def zt:M Fl:=(ú<|Ķ<|Ê eO (Ý<|Ą ü (Ê ó (Ê ß (Â 0)<|Å 0)<|Ê ß (Â 1)<|Å 0)<|Ê ó (Ê ß (Â 0)<|Å 1)<|Ê ß (Â 1)<|Å 1)<|Ê ß (Â 0)<|Å 2)
def jM:MF:=Ď 2 2 zt
def av:M Fl:=(æ (ć 5<|à dh<|Í 3<|Í 4 Ú)
 (ϴ (ou (ϯ<|Ê ϲ (Â 3)<|Â 4)<|aU<|Ϲ kD<|É (Ý<|ģ [5] 1 (ı 2) (gN 1) Ĕ (Ý<|à jM<|Í 0<|Í 1 Ú)) ã)
 (xF 1<|ä 5)
 bi))
def eD:M Fl:=(eN (ı 2) (gN 4) av)
def lV:M Fl:=(æ (ć 1<|bP ã)
 (æ (ć 2<|à h_<|Í 0 Ú)
 (æ (eN (ı 2) (gN 3) eD)
 (ú<|dE 1))))
def fJ:MF:=Ď 1 6 lV
def kJ:M Fl:=(ú<|Ą ü (Ý<|à hV<|Í 0 Ú)<|Ý<|à fJ<|Í 0 Ú)
def bU:MF:=Ď 1 1 kJ
def Ck:M Fl:=(ú<|Ķ<|Ō<|É (Ý<|Ą ü (Ê ó (Ê ß (Â 1)<|Å 2)<|Ê ß (Â 0)<|Å 0)<|Ê ó (Ê ß (Â 1)<|Å 0)<|Ê ß (Â 0)<|Å 2)<|É (Ý<|Ą ü (Ê ó (Ê ß (Â 1)<|Å 2)<|Ê ß (Â 0)<|Å 1)<|Ê ó (Ê ß (Â 1)<|Å 1)<|Ê ß (Â 0)<|Å 2) ã)
def mS:MF:=Ď 2 2 Ck
def iJ:M Fl:=(ú<|bP<|É (Ō<|É (ä 0)<|É (ä 1)<|É (ä 4) ã)<|É (Ō<|É (ä 2)<|É (ä 1)<|É (ä 4) ã)<|É (Ō<|É (ä 2)<|É (ä 3)<|É (ä 4) ã)<|É (Ō<|É (ä 0)<|É (ä 3)<|É (ä 4) ã) ã)
def ό:MF:=Ď 5 5 iJ
def iK:M Fl:=(ú<|Ą ü (Ý<|à ό<|Í 0<|Í 1<|Í 2<|Í 3<|Û (Å 0) Ú)<|Ý<|à ό<|Í 0<|Í 1<|Í 2<|Í 3<|Í 4 Ú)
def ao:MF:=Ď 5 5 iK
def jZ:M Fl:=(æ (ć 1<|Ķ<|Ê ó (Å 2)<|Ê ß (fM (Ŝ ["Thing","Post","Fence","Sail","Cloth","House"] "numbers")<|Â 0)<|Å 0)
 (æ (ć 2<|Ķ<|Ê ó (Å 2)<|Ê ß (fM (Ŝ ["Thing","Post","Fence","Sail","Cloth","House"] "numbers")<|Â 0)<|Å 1)
 (ú<|à ao<|Û (Ê Œ (Â 1)<|Å 1)<|Û (Ê Œ (Â 2)<|Å 1)<|Û (Ý<|Ą ü (Â 1)<|Å 1)<|Û (Ý<|Ą ü (Â 2)<|Å 1)<|Û (Ê ß (fM (Ŝ ["Thing","Post","Fence","Sail","Cloth","House"] "numbers")<|Â 0)<|Å 2) Ú)))
def ŵ:MF:=Ď 1 3 jZ
def iL:M Fl:=(æ (ć 1<|Ķ<|fM (Ŝ ["Thing","Post","Fence","Sail","Cloth","House"] "numbers")<|Â 0)
 (æ (ć 2<|Ķ<|Ō<|É (Ê ß (Â 1)<|Å 0)<|É (Ê ß (Â 1)<|Å 1) ã)
 (æ (ć 3<|Ķ<|Ō<|É (Ê ß (Â 1)<|Å 2)<|É (Ê ß (Â 1)<|Å 3) ã)
 (ú<|bP<|É (Ý<|Ą ü (Â 2)<|Ō<|É (Å 0) ã)<|É (Ý<|Ą ü (Â 3)<|Ō<|É (Å 0) ã)<|É (Ý<|Ą ü (Â 3)<|Ō<|É (Ê ß (Â 1)<|Å 4) ã)<|É (Ý<|Ą ü (Â 2)<|Ō<|É (Ê ß (Â 1)<|Å 4) ã) ã))))
def Ŧ:MF:=Ď 1 4 iL
def j_:M Fl:=(æ (ć 1<|Ķ<|fM (Ŝ ["Thing","Post","Fence","Sail","Cloth","House"] "numbers")<|Â 0)
 (ú<|à ό<|Û (Ê ß (Â 1)<|Å 0)<|Û (Ê ß (Â 1)<|Å 1)<|Û (Ê ß (Â 1)<|Å 2)<|Û (Ê ß (Â 1)<|Å 3)<|Û (Ê ß (Â 1)<|Å 4) Ú))
def Ŷ:MF:=Ď 1 2 j_
def iM:M Fl:=(ú<|ģ [0] 1 (Ϻ<|Ō<|É (Å 0)<|É (Å 3)<|É (Å 6) ã) (gN 1) Ĕ (Ϲ jD<|É (Ý<|oB (fM (Ŝ ["Thing","Post","Fence","Sail","Cloth","House"] "numbers")<|Â 0) (mP<|ä 1)<|mP<|Ý<|Ą ü (Â 1)<|Å 3) ã))
def ŧ:MF:=Ď 1 1 iM
def iN:M Fl:=(æ (ć 1<|Ķ<|fM (Ŝ ["Thing","Post","Fence","Sail","Cloth","House"] "numbers")<|Â 0)
 (ú<|à ao<|Û (Ê ß (Â 1)<|Å 0)<|Û (Ê ß (Â 1)<|Å 1)<|Û (Ê ß (Â 1)<|Å 2)<|Û (Ê ß (Â 1)<|Å 3)<|Û (Ê ß (Â 1)<|Å 4) Ú))
def Ũ:MF:=Ď 1 2 iN
def ka:M Fl:=(ú<|ģ [1] 1 (Ϻ<|Ý<|jU "corners" [("Post",ŵ),("Fence",Ŧ),("Sail",Ŷ),("Cloth",ŧ),("House",Ũ)] (ä 0) Ú) (gN 1) Ĕ (Ý<|à mS<|Í 1<|Í 0 Ú))
def ϭ:MF:=Ď 2 2 ka
def jN:M Fl:=(æ (ϴ (ϯ<|Ê kt (Â 1)<|Â 0)
 (ú<|Ķ<|Å 0)
 bi)
 (ú<|Ķ<|Ê Œ (Ê yP (Å 1)<|Ý<|Ą ü (Â 1)<|Å 1)<|Ê yP (Å 1)<|Â 0))
def cG:MF:=Ď 2 2 jN
def ϕ:M Fl:=(æ (ć 9<|Ķ<|Ê ó (Â 6)<|Â 1)
 (æ (ć 10<|Ķ<|Ê Œ (Â 8)<|Ê ó (Ê ó (Â 7)<|Â 1)<|Â 2)
 (ϴ (ϯ<|Ê CW (Â 9)<|Å 0)
 (ć 5<|Ķ<|Ϲ BV<|É (Â 5)<|É (Ê eY (Â 10)<|Â 9) ã)
 (ϴ (ϯ<|Ê kt (Â 9)<|Å 0)
 (ć 4<|Ķ<|Ϲ BW<|É (Â 4)<|É (fM kx<|Ê eY (Â 10)<|fM kx<|Â 9) ã)
 (ϴ (ϯ<|Ê kt (Â 10)<|Å 0)
 (ú<|Ķ<|Å 0)
 bi)))))
def kK:M Fl:=(æ (ć 4<|Ķ<|Å 0)
 (æ (ć 5<|Ķ<|Ê Œ (Â 3)<|Å 1)
 (æ (eN (ı 0) (gT 3<|ï (gN 6)<|ï (gN 7)<|ï (gN 8) ϒ) ϕ)
 (ú<|à cG<|Í 4<|Í 5 Ú))))
def gc:MF:=Ď 4 11 kK
def jO:M Fl:=(B4 4<|Ê yP (Ý<|à gc<|Í 3<|Û (Ê ó (Å 2)<|Ê ß (Â 2)<|Å 2)<|Í 5<|Û (fM (Ŝ ["Yard"] "width")<|Â 0) Ú)<|Ê ó (Â 5)<|fM (Ŝ ["Yard"] "width")<|Â 0)
def ui:M Fl:=(æ (ć 3<|à bU<|Û (Ý<|à ϭ<|Í 1<|Í 2 Ú) Ú)
 (æ (ć 4<|Ķ<|Å 0)
 (æ (eN (Ϫ Ϛ<|É (fM (Ŝ ["Yard"] "height")<|Â 0) ã) (gN 5) jO)
 (ú<|dE 4))))
def fN:MF:=Ď 3 6 ui
def ge:M Fl:=(ú<|ģ [0,1] 1 (Ϻ<|fM (Ŝ ["Yard"] "things")<|Â 0) (gN 2) Ĕ (Ý<|à fN<|Í 0<|Í 2<|Í 1 Ú))
def ϖ:MF:=Ď 2 2 ge
def ye:M Fl:=(B4 2<|ä 3)
def yf:M Fl:=(æ (ϴ (ϯ<|Ê tq (Â 1)<|mC .non)
 (ú<|à cG<|Û (Å 0)<|Û (Ê Œ (Ê ó (fM (Ŝ ["Yard"] "width")<|Â 0)<|fM (Ŝ ["Yard"] "height")<|Â 0)<|Å 1) Ú)
 bi)
 (æ (ć 2<|Ķ<|Å 0)
 (æ (eN (Ϻ<|Ý<|à ϖ<|Í 0<|Í 1 Ú) (gN 3) ye)
 (ú<|dE 2))))
def pJ:MF:=Ď 2 4 yf
def kL:M Fl:=(æ (BK<|Ý<|à dg<|Í 0<|Û (Ê ß (Â 1)<|Å 0)<|Û (Ê ß (Â 1)<|Å 1) Ú)
 (æ (ć 2<|à pJ<|Í 0<|Û (Ê ß (Ý<|à dL<|Í 0<|Û (Ê ß (Â 1)<|Å 0) Ú)<|Ê ß (Â 1)<|Å 1) Ú)
 (æ (ć 3<|Ķ<|fM (Ŝ ["Yard"] "width")<|Â 0)
 (æ (ć 4<|ģ [2] 1 (Ϫ Ϛ<|É (Ê ó (Â 3)<|fM (Ŝ ["Yard"] "height")<|Â 0) ã) (gN 1) Ĕ (ϴ (aU<|Ê mL (Ê vc (Â 0)<|Â 1)<|Å 1) (mC<|.str "#")<|mC<|.str "."))
 (ú<|Ķ<|Ha iC (mC<|.str "/")<|É (Ý<|ģ [4,3] 1 (Ϫ Ϛ<|É (fM (Ŝ ["Yard"] "height")<|Â 0) ã) (gN 2) Ĕ (Ha iC (mC<|.str "")<|É (Ý<|oB (Â 0) (mP<|Ê ó (Â 2)<|Â 1)<|mP<|Ý<|Ą ü (Ê ó (Â 2)<|Â 1)<|Â 1) ã)) ã)))))
def bV:MF:=Ď 2 5 kL
def oZ:M Fl:=(ú<|Ķ<|gm (mH eO kt (Å 0) (Ê ß (Â 1)<|Å 0)<|fM (Ŝ ["Yard"] "width")<|Â 0)<|mH eO kt (Å 0) (Ê ß (Â 1)<|Å 1)<|fM (Ŝ ["Yard"] "height")<|Â 0)
def ia:MF:=Ď 2 2 oZ
def kM:M Fl:=(ϴ (cW<|aU<|Ý<|à ia<|Í 0<|Í 1 Ú)
 cX
 bi)
def eE:MF:=Ď 2 2 kM
def bK:M Fl:=(ϴ (aU<|Ê mL (Ê vc (Â 3)<|Â 1)<|Å 1)
 (ú<|dE 2)
 bi)
def dM:M Fl:=(æ (eN (Iq<|He 0) (gT 2<|ï (gN 2)<|ï (gN 3) ϒ) bK)
 (ú<|Ķ<|mC .non))
def ύ:MF:=Ď 2 4 dM
def Fw:M Fl:=(æ (ć 2<|à ϖ<|Í 0<|Í 1 Ú)
 (ú<|ģ [2] 1 (Ϫ Ϛ<|É (Ê ó (fM (Ŝ ["Yard"] "width")<|Â 0)<|fM (Ŝ ["Yard"] "height")<|Â 0) ã) (gN 1) Ĕ (Ý<|à ύ<|Í 0<|Í 1 Ú)))
def Cm:MF:=Ď 2 3 Fw
def o_:M Fl:=(ú<|Ą ü (Ê ó (Ê ß (Â 0)<|Å 1)<|Â 1)<|Ê ß (Â 0)<|Å 0)
def ib:MF:=Ď 2 2 o_
def eG:M Fl:=(æ (ć 2<|Ķ<|Ō<|É (Ê ß (Â 1)<|Å 2)<|É (Ê ß (Â 1)<|Å 3) ã)
 (æ (BK<|Ý<|à eE<|Í 0<|Í 2 Ú)
 (æ (BK<|Ý<|à dg<|Í 0<|Û (Ê ß (Â 1)<|Å 0)<|Û (Ê ß (Â 1)<|Å 1) Ú)
 (æ (ć 3<|Ķ<|Ê ß (Ý<|à dL<|Í 0<|Û (Ê ß (Â 1)<|Å 0) Ú)<|Ê ß (Â 1)<|Å 1)
 (æ (ϴ (ϯ<|Ê tq (Â 3)<|mC .non)
 (ú<|Ķ<|mC<|.str "night")
 bi)
 (æ (ć 4<|Ķ<|Ê ß (Ý<|à Cm<|Í 0<|Í 3 Ú)<|Ý<|à ib<|Í 2<|Û (fM (Ŝ ["Yard"] "width")<|Â 0) Ú)
 (ú<|Ķ<|ϴ (ϯ<|Ê tq (Â 4)<|mC .non) (mC<|.str "-")<|Ϲ fY<|É (Â 4) ã)))))))
def ag:MF:=Ď 2 5 eG
def uj:M Fl:=(ú<|Ķ<|Ê ß (Ê ß (fM (Ŝ ["Yard"] "days")<|Â 0)<|Â 1)<|Å 0)
def lK:MF:=Ď 2 2 uj
def ay:M Fl:=(ϴ (ϯ<|Ê ŉ (Ý<|à lK<|Í 0<|Í 2 Ú)<|Â 1)
 (ú<|dE 2)
 bi)
def lW:M Fl:=(æ (eN (Ϫ Ϛ<|É (Ϲ aa<|É (fM (Ŝ ["Yard"] "days")<|Â 0) ã) ã) (gN 2) ay)
 cX)
def bL:MF:=Ď 2 3 lW
def vC:M Fl:=(æ (ϴ (ϯ<|Ê (Hr "ROWS" ZR) (Ê ß (Â 1)<|Å 0)<|mC<|.cls "ROWS")
 cX
 bi)
 (æ (ć 2<|Ķ<|Ê (Hs "ROWS" ZR) (mC<|.cls "ROWS")<|Ê ß (Â 1)<|Å 0)
 (æ (ć 3<|oB (Â 1) (mP<|Å 1)<|mP<|Ý<|Ą ü (Å 1)<|Ê ß (Â 2)<|Å 0)
 (æ (ϴ (ϯ<|Ê ϲ (Ϲ aa<|É (Â 1) ã)<|Ý<|Ą ü (Ý<|Ą ü (Å 1)<|Ê ß (Â 2)<|Å 0)<|Ê ß (Â 2)<|Å 1)
 cX
 bi)
 (æ (ć 4<|à Ŗ<|Í 1<|Û (Ý<|Ą ü (Å 1)<|Ê ß (Â 2)<|Å 0) Ú)
 (ú<|Hx [("answer_dark",bV),("answer_who",ag)] (Ê ß (Â 2)<|Å 2) (Í 0<|Û (Ý<|Ą ü (Ý<|ģ [0] 1 (ı 3) (gN 1) Ĕ (Ý<|à bL<|Í 0<|Í 1 Ú))<|Â 4) Ú)))))))
def kN:MF:=Ď 2 5 vC
def uG:M Fl:=(æ (ϴ (ϯ<|Ê kt (Ϲ aa<|É (Â 1) ã)<|Å 2)
 cX
 bi)
 (æ (ć 2<|à Ŗ<|Í 1<|Û (Å 2) Ú)
 (æ (ϴ (ϯ<|Ê ŉ (Ϲ aa<|É (fM (Ŝ ["Yard"] "things")<|Â 0) ã)<|mC<|.int<|40)
 cX
 bi)
 (ú<|Ķ<|eP "Yard" jI (Û (fM (Ŝ ["Yard"] "width")<|Â 0)<|Û (fM (Ŝ ["Yard"] "height")<|Â 0)<|Û (Ý<|Ą ü (fM (Ŝ ["Yard"] "things")<|Â 0)<|Ý<|bP<|É (Ý<|à ŕ<|Û (Ê ß (Â 1)<|Å 1)<|Í 2 Ú) ã)<|Û (fM (Ŝ ["Yard"] "days")<|Â 0) Ú)))))
def yg:MF:=Ď 2 3 uG
def pK:M Fl:=(æ (ϴ (ϯ<|Ê ϲ (Ϲ aa<|É (Â 1) ã)<|Å 2)
 cX
 bi)
 (æ (ć 2<|Ķ<|Ê ß (Ý<|à Ŗ<|Í 1<|Û (Å 1) Ú)<|Å 0)
 (æ (ϴ (cW<|ϯ<|mH eO kt (Å 0) (Â 2)<|Ϲ aa<|É (fM (Ŝ ["Yard"] "things")<|Â 0) ã)
 cX
 bi)
 (ú<|Ķ<|eP "Yard" jI (Û (fM (Ŝ ["Yard"] "width")<|Â 0)<|Û (fM (Ŝ ["Yard"] "height")<|Â 0)<|Û (Ý<|Ą ü (Ý<|oB (fM (Ŝ ["Yard"] "things")<|Â 0) jC<|mP<|ä 2)<|Ý<|oB (fM (Ŝ ["Yard"] "things")<|Â 0) (mP<|Ý<|Ą ü (Â 2)<|Å 1) jC)<|Û (fM (Ŝ ["Yard"] "days")<|Â 0) Ú)))))
def qu:MF:=Ď 2 3 pK
def qf:M Fl:=(æ (ć 2<|AD fX (Â 1)<|É (mC<|.str " ") ã)
 (æ (ϴ (ϯ<|Ê ŉ (Ê ß (Â 2)<|Å 0)<|mC<|.str "put")
 (æ cX
 (ú<|Ķ<|mC<|.str "ok"))
 bi)
 (æ (ϴ (ϯ<|Ê ŉ (Ê ß (Â 2)<|Å 0)<|mC<|.str "take")
 (æ cX
 (ú<|Ķ<|mC<|.str "ok"))
 bi)
 (ú<|à kN<|Û (fM (Ŝ ["Desk"] "yard")<|Â 0)<|Í 2 Ú))))
def ŷ:MF:=Ď 2 3 qf
def cn:M Fl:=(ϴ (cW<|aU<|Ý<|à jM<|Í 2<|Í 1 Ú)
 (ú<|dE 2)
 bi)
def eW:M Fl:=(æ (eN (Ϻ<|Ý<|à bU<|Í 0 Ú) (gN 2) cn)
 (ú<|Ķ<|mC .non))
def bf:MF:=Ď 2 3 eW
def bg:M Fl:=(C2 1<|ģ [2] 1 (Ϫ Ϛ<|É (ä 2) ã) (gN 1) Ĕ (Ō<|É (ä 1)<|É (ä 0) ã))
def kO:M Fl:=(æ (ć 1<|bP ã)
 (æ (eN (Ϫ Ϛ<|É (ä 0) ã) (gN 2) bg)
 (ú<|dE 1)))
def bW:MF:=Ď 1 3 kO
def Ϯ:M Fl:=(C2 1<|ģ [2] 1 (Ϻ<|Ý<|à bW<|Í 2 Ú) (gN 1) Ĕ (Ō<|É (Ê ß (Â 1)<|Å 0)<|É (Ê ß (Â 1)<|Å 1)<|É (ä 0) ã))
def iO:M Fl:=(æ (ć 1<|bP ã)
 (æ (eN (Ϫ Ϛ<|É (ä 0) ã) (gN 2) Ϯ)
 (ú<|dE 1)))
def cq:MF:=Ď 1 3 iO
def e_:M Fl:=(aC (ϯ<|Ê ϲ (Â 1)<|Å 0)
 (æ (ć 2<|Ķ<|Ê Ļ (Â 0)<|Â 1)
 (æ (ć 0<|Ķ<|ä 1)
 (ć 1<|Ķ<|ä 2))))
def fb:M Fl:=(æ e_
 (ú<|Ķ<|Ϲ An<|É (Â 0) ã))
def ah:MF:=Ď 2 3 fb
def uk:M Fl:=(æ (ϴ (ϯ<|Ê ŉ (Â 1)<|Å 0)
 cX
 bi)
 (æ (ć 2<|à ah<|Í 0<|Í 1 Ú)
 (æ (ϴ (ϯ<|Ê kt (Â 1)<|Å 0)
 (ć 2<|Ķ<|fM kx<|Â 2)
 bi)
 (ú<|Ķ<|Ō<|É (Ê eY (Â 0)<|Â 2)<|É (Ê eY (Â 1)<|Â 2) ã))))
def ie:MF:=Ď 2 3 uk
def lL:M Fl:=(EH 4 (ä 6)<|Ý<|à ie<|Í 5<|Í 3 Ú)
def iP:M Fl:=(æ (ć 3<|Ķ<|Ϲ tE<|É (Â 0) ã)
 (æ (ć 4<|ģ [3] 1 (Ϫ Ϛ<|É (ä 2) ã) (gN 1) Ĕ (Ý<|à ie<|Û (Å 0)<|Í 0 Ú))
 (æ (eN (C4 (Fb 0)<|Fb 1) (gT 2<|ï (gN 5)<|ï (gN 6) ϒ) lL)
 (ú<|dE 4))))
def di:MF:=Ď 3 7 iP
def vD:M Fl:=(æ (ć 3<|Ķ<|Ê ó (Ê Œ (Ê ß (Â 1)<|Å 0)<|Ê ß (Â 0)<|Å 0)<|Ê Œ (Ê ß (Â 2)<|Å 1)<|Ê ß (Â 0)<|Å 1)
 (ú<|Ķ<|Ê Œ (Â 3)<|Ê ó (Ê Œ (Ê ß (Â 1)<|Å 1)<|Ê ß (Â 0)<|Å 1)<|Ê Œ (Ê ß (Â 2)<|Å 0)<|Ê ß (Â 0)<|Å 0))
def iQ:MF:=Ď 3 4 vD
def gf:M Fl:=(æ (ć 2<|Ķ<|Ê ß (Â 0)<|Å 0)
 (æ (ć 3<|Ķ<|Ê ß (Â 0)<|Å 1)
 (æ (ć 4<|Ķ<|Ê ß (Â 0)<|Å 2)
 (ú<|bP<|É (Ý<|à iQ<|Í 1<|Í 3<|Í 4 Ú)<|É (Ý<|à iQ<|Í 2<|Í 1<|Í 4 Ú)<|É (Ý<|à iQ<|Í 2<|Í 3<|Í 1 Ú) ã))))
def aQ:MF:=Ď 2 5 gf
def gh:M Fl:=(æ (ć 1<|Ķ<|Ϲ tE<|É (Â 0) ã)
 (ú<|Ķ<|gm (Ê ϲ (Â 1)<|Å 0)<|Ϲ kD<|É (Ý<|ģ [1] 1 (ı 0) (gN 1) Ĕ (Ê EQ (Ê ó (Â 1)<|Â 0)<|Å 0)) ã))
def az:MF:=Ď 1 2 gh
def iR:M Fl:=(æ (ć 2<|Ķ<|Ê Œ (Ê ß (Ê ß (Â 0)<|Å 1)<|Å 0)<|Ê ß (Ê ß (Â 0)<|Å 0)<|Å 0)
 (æ (ć 3<|Ķ<|Ê Œ (Ê ß (Ê ß (Â 0)<|Å 1)<|Å 1)<|Ê ß (Ê ß (Â 0)<|Å 0)<|Å 1)
 (æ (ć 4<|Ą ü (Ê ó (Â 2)<|Ê Œ (Ê ß (Â 1)<|Å 0)<|Ê ß (Ê ß (Â 0)<|Å 0)<|Å 0)<|Ê ó (Â 3)<|Ê Œ (Ê ß (Â 1)<|Å 1)<|Ê ß (Ê ß (Â 0)<|Å 0)<|Å 1)
 (ú<|bP<|É (Ê Œ (Ý<|Ą ü (Ê ó (Â 2)<|Â 2)<|Ê ó (Â 3)<|Â 3)<|Â 4)<|É (ä 4) ã))))
def cr:MF:=Ď 2 5 iR
def eI:M Fl:=(æ (ć 4<|à cr<|Û (Ý<|ģ [0] 1 (ı 3) (gN 1) Ĕ (Ê ß (Â 0)<|Â 1))<|Í 1 Ú)
 (ϴ (aU<|Ý<|à az<|Í 4 Ú)
 (ú<|à di<|Í 4<|Í 3<|Í 2 Ú)
 bi))
def eJ:M Fl:=(æ (ć 4<|à aQ<|Û (Ý<|ģ [0] 1 (ı 3) (gN 1) Ĕ (Ê ß (Â 0)<|Â 1))<|Í 1 Ú)
 (ϴ (aU<|Ý<|à az<|Í 4 Ú)
 (ú<|à di<|Í 4<|Í 3<|Í 2 Ú)
 bi))
def eK:M Fl:=(æ (ć 2<|Ķ<|Ϲ aa<|É (Â 0) ã)
 (æ (eN (Ϻ<|Ý<|à cq<|Í 2 Ú) (gN 3) eJ)
 (æ (eN (Ϻ<|Ý<|à bW<|Í 2 Ú) (gN 3) eI)
 (ú<|à di<|Û (Ý<|bP<|É (Å 1) ã)<|Û (Ý<|bP<|É (Å 0) ã)<|Í 2 Ú))))
def bM:MF:=Ď 2 5 eK
def yi:M Fl:=(æ (ć 2<|à bf<|Í 0<|Í 1 Ú)
 (æ (ϴ (ϯ<|Ê tq (Â 2)<|mC .non)
 (ú<|Ķ<|Ō<|É (mC<|.str "in")<|É (Ý<|à bM<|Í 0<|Í 1 Ú) ã)
 bi)
 (ú<|Ķ<|Ō<|É (mC<|.str "out")<|É (ä 2) ã)))
def ul:MF:=Ď 2 3 yi
def lX:M Fl:=(ú<|à mS<|Û (Ō<|É (Ê ó (Å 2)<|Ê ß (Â 0)<|Å 0)<|É (Ê ó (Å 2)<|Ê ß (Â 0)<|Å 1)<|É (Å 0) ã)<|Í 1 Ú)
def fK:MF:=Ď 2 2 lX
def um:M Fl:=(ú<|à ul<|Û (Ý<|à ϭ<|Í 0<|Í 2 Ú)<|Û (Ý<|à fK<|Í 1<|Í 2 Ú) Ú)
def fO:MF:=Ď 3 3 um
def lY:M Fl:=(ú<|Ķ<|gm (Ϲ ql<|É (Â 0)<|É (mC<|.ty "int") ã)<|JW<|Ϲ ql<|É (Â 0)<|É (mC<|.ty "bool") ã)
def bN:MF:=Ď 1 1 lY
def aq:M Fl:=(ϴ (ϯ<|Ê ϲ (Ϲ tE<|É (Ý<|ģ [5,6,1] 1 (Ϫ Ϛ<|É (Ϲ aa<|É (Â 1) ã) ã) (gN 3) Ĕ (Ê ó (Ê ß (Â 0)<|Â 3)<|Ê ß (Ê ß (Â 2)<|Â 3)<|Â 1)) ã)<|Ê ó (Â 3)<|Ê ß (Â 2)<|Â 6)
 (ú<|Ķ<|mC<|.bl false)
 bi)
def ar:M Fl:=(æ (ϴ (kc (cW<|aU<|Ϲ ql<|É (Â 4)<|É (mC<|.ty "tuple") ã)<|kc (ϯ<|Ê ϲ (Ϲ aa<|É (Â 4) ã)<|Å 2)<|kc (cW<|aU<|Ý<|à bN<|Û (Ê ß (Â 4)<|Å 0) Ú)<|cW<|aU<|Ý<|à bN<|Û (Ê ß (Â 4)<|Å 1) Ú)
 (ú<|Ķ<|mC<|.bl false)
 bi)
 (æ (ϴ (kc (ϯ<|Ê kt (Ê ß (Â 4)<|Å 0)<|Å 0)<|ϯ<|Ê kt (Ê ß (Â 4)<|Å 1)<|Å 1)
 (ú<|Ķ<|mC<|.bl false)
 bi)
 (ć 3<|Ķ<|Ê ó (Â 3)<|Ê ß (Â 4)<|Å 1)))
def kb:M Fl:=(æ (ϴ (kc (cW<|aU<|Ϲ ql<|É (Â 0)<|É (mC<|.ty "list") ã)<|ϯ<|Ê ϲ (Ϲ aa<|É (Â 0) ã)<|Ϲ aa<|É (Â 1) ã)
 (ú<|Ķ<|mC<|.bl false)
 bi)
 (æ (ć 3<|Ķ<|Å 1)
 (æ (eN (ı 0) (gN 4) ar)
 (æ (ć 5<|ģ [3] 1 (ı 0) (gN 1) Ĕ (Ê ó (Ê ß (Â 1)<|Å 0)<|Ê eY (Â 0)<|Ê ß (Â 1)<|Å 1))
 (æ (eN (Ϫ Ϛ<|É (Å 2) ã) (gN 6) aq)
 (ú<|Ķ<|Ê ŉ (Ϲ tE<|É (Â 5) ã)<|Â 3))))))
def bh:MF:=Ď 3 7 kb
def kP:M Fl:=(æ (ϴ (kc (cW<|aU<|Ϲ ql<|É (Â 0)<|É (mC<|.ty "tuple") ã)<|kc (ϯ<|Ê ϲ (Ϲ aa<|É (Â 0) ã)<|Å 3)<|cW<|aU<|Ϲ kD<|É (Ý<|ģ [] 1 (ı 0) (gN 0) Ĕ (Ý<|à bN<|Í 0 Ú)) ã)
 (ú<|Ķ<|mC<|.bl false)
 bi)
 (æ (xE (gS 3<|ï (gN 3)<|ï (gN 4)<|ï (gN 5) ϒ)<|ä 0)
 (ú<|Ķ<|gm (Ê CW (Ý<|Ą ü (Ê ó (Â 3)<|Ê ß (Â 2)<|Å 0)<|Ê ó (Â 4)<|Ê ß (Â 2)<|Å 1)<|Â 5)<|Ϲ kD<|É (Ý<|ģ [5,3,4] 2 (ı 1) (gT 2<|ï (gN 3)<|ï (gN 4) ϒ) Ĕ (Ê eO (Ý<|Ą ü (Ê ó (Â 1)<|Â 3)<|Ê ó (Â 2)<|Â 4)<|Â 0)) ã)))
def eL:MF:=Ď 3 6 kP
def qg:M Fl:=(æ (ć 6<|bP<|É (Ō<|É (ä 0)<|É (ä 1) ã)<|É (Ō<|É (ä 2)<|É (ä 1) ã)<|É (Ō<|É (ä 2)<|É (ä 3) ã)<|É (Ō<|É (ä 0)<|É (ä 3) ã) ã)
 (ú<|Ą ü (Ý<|ģ [4] 2 (ı 6) (gT 2<|ï (gN 1)<|ï (gN 2) ϒ) Ĕ (Ō<|É (ä 1)<|É (ä 2)<|É (ä 0) ã))<|Ý<|ģ [5] 2 (ı 6) (gT 2<|ï (gN 1)<|ï (gN 2) ϒ) Ĕ (Ō<|É (ä 1)<|É (ä 2)<|É (ä 0) ã)))
def dN:MF:=Ď 6 7 qg
def ώ:M Fl:=(æ (ć 1<|oB (Â 0) (mP<|Å 1) jC)
 (æ (ϴ (ϯ<|Ê ŉ (Ê ß (Â 0)<|Å 0)<|mC<|.str "post")
 (æ (xE (gS 3<|ï (gN 2)<|ï (gN 3)<|ï (gN 4) ϒ)<|ä 1)
 (ú<|à dN<|Û (Ê Œ (Ê ó (Å 2)<|Â 2)<|Å 1)<|Û (Ê Œ (Ê ó (Å 2)<|Â 3)<|Å 1)<|Û (Ý<|Ą ü (Ê ó (Å 2)<|Â 2)<|Å 1)<|Û (Ý<|Ą ü (Ê ó (Å 2)<|Â 3)<|Å 1)<|Û (Å 0)<|Í 4 Ú))
 bi)
 (æ (ϴ (ϯ<|Ê ŉ (Ê ß (Â 0)<|Å 0)<|mC<|.str "house")
 (æ (xE (gS 5<|ï (gN 5)<|ï (gN 6)<|ï (gN 7)<|ï (gN 8)<|ï (gN 4) ϒ)<|ä 1)
 (ú<|à dN<|Í 5<|Í 6<|Í 7<|Í 8<|Û (Å 0)<|Í 4 Ú))
 bi)
 (æ (ϴ (ϯ<|Ê ŉ (Ê ß (Â 0)<|Å 0)<|mC<|.str "sail")
 (æ (xE (gS 5<|ï (gN 5)<|ï (gN 6)<|ï (gN 7)<|ï (gN 8)<|ï (gN 4) ϒ)<|ä 1)
 (ú<|oB (Ý<|à dN<|Í 5<|Í 6<|Í 7<|Í 8<|Í 4<|Í 4 Ú) jC<|mP<|Å 4))
 bi)
 (æ (ϴ (ϯ<|Ê ŉ (Ê ß (Â 0)<|Å 0)<|mC<|.str "fence")
 (æ (xE (gS 5<|ï (gN 5)<|ï (gN 6)<|ï (gN 7)<|ï (gN 8)<|ï (gN 4) ϒ)<|ä 1)
 (ú<|bP<|É (Ō<|É (ä 5)<|É (ä 6)<|É (Å 0) ã)<|É (Ō<|É (ä 7)<|É (ä 8)<|É (Å 0) ã)<|É (Ō<|É (ä 7)<|É (ä 8)<|É (ä 4) ã)<|É (Ō<|É (ä 5)<|É (ä 6)<|É (ä 4) ã) ã))
 bi)
 (ú<|bP<|É (Ϲ jD<|É (Ý<|oB (Â 1) jC<|mP<|Å 3) ã)<|É (Ϲ jD<|É (Ý<|oB (Â 1) (mP<|Å 3)<|mP<|Å 6) ã)<|É (Ϲ jD<|É (Ý<|oB (Â 1) (mP<|Å 6) jC) ã) ã))))))
def Ş:MF:=Ď 1 9 ώ
def lZ:M Fl:=(æ (xE (gS 3<|ï (gN 2)<|ï (gN 3)<|ï (gN 4) ϒ)<|ä 1)
 (ú<|ģ [4,2,3] 3 (Ϻ<|Ý<|à Ş<|Í 0 Ú) (gT 3<|ï (gN 3)<|ï (gN 4)<|ï (gN 5) ϒ) Ĕ (Ō<|É (Ý<|Ą ü (Ê ó (Â 0)<|Â 3)<|Ê ó (Â 1)<|Â 5)<|É (Ý<|Ą ü (Ê ó (Â 0)<|Â 4)<|Ê ó (Â 2)<|Â 5) ã)))
def dn:MF:=Ď 2 5 lZ
def jP:M Fl:=(æ (ć 3<|Ķ<|Ō<|É (Ê ó (Ê ó (Å 2)<|Ê ß (Â 2)<|Å 2)<|Ê ß (Â 1)<|Å 0)<|É (Ê ó (Ê ó (Å 2)<|Ê ß (Â 2)<|Å 2)<|Ê ß (Â 1)<|Å 1) ã)
 (æ (ć 4<|à fO<|Û (Ý<|à ŕ<|Û (Ê ß (Â 0)<|Å 0)<|Û (Ý<|oB (Â 0) (mP<|Å 1) jC) Ú)<|Í 1<|Í 2 Ú)
 (æ (ϴ (kc (cW<|aU<|Ϲ ql<|É (Â 4)<|É (mC<|.ty "tuple") ã)<|ϯ<|Ê ϲ (Ϲ aa<|É (Â 4) ã)<|Å 2)
 (ú<|Ķ<|mC .non)
 bi)
 (æ (ϴ (ou (ϯ<|Ê ŉ (Ê ß (Â 4)<|Å 0)<|mC<|.str "in")<|aU<|Ý<|à bh<|Û (Ê ß (Â 4)<|Å 1)<|Û (Ý<|à dn<|Í 0<|Í 2 Ú)<|Í 3 Ú)
 (ú<|Ķ<|mC<|.bl true)
 bi)
 (æ (ϴ (ou (ϯ<|Ê ŉ (Ê ß (Â 4)<|Å 0)<|mC<|.str "out")<|aU<|Ý<|à eL<|Û (Ê ß (Â 4)<|Å 1)<|Û (Ý<|à dn<|Í 0<|Í 2 Ú)<|Í 3 Ú)
 (ú<|Ķ<|mC<|.bl false)
 bi)
 (ú<|Ķ<|mC .non))))))
def cH:MF:=Ď 3 5 jP
def pL:M Fl:=(ú<|Ķ<|Ê ŉ (Ê ß (Ý<|à fO<|Í 0<|Í 1<|Í 2 Ú)<|Å 0)<|mC<|.str "in")
def iS:MF:=Ď 3 3 pL
def cx:M Fl:=(æ (ć 5<|à iS<|Û (Ý<|à ŕ<|Û (Ê ß (Ê ß (Â 0)<|Â 4)<|Å 0)<|Û (Ý<|oB (Ê ß (Â 0)<|Â 4) (mP<|Å 1) jC) Ú)<|Í 1<|Í 2 Ú)
 (ϴ (kc (cW<|aU<|Ϲ ql<|É (Â 5)<|É (mC<|.ty "bool") ã)<|ϯ<|Ê ϲ (Â 5)<|Ê ß (Â 3)<|Â 4)
 (ú<|Ķ<|mC<|.str "wrong")
 bi))
def cy:M Fl:=(æ (ć 3<|ģ [1,2] 1 (ı 0) (gN 2) Ĕ (Ý<|à cH<|Í 2<|Í 0<|Í 1 Ú))
 (æ (ϴ (ϯ<|Ê Cf (mC .non)<|Â 3)
 (ú<|Ķ<|mC<|.str "wrong")
 bi)
 (æ (eN (Ϫ Ϛ<|É (Ϲ aa<|É (Â 0) ã) ã) (gN 4) cx)
 (æ (ϴ (ϯ<|Ê Cf (mC<|.bl true)<|Â 3)
 (ú<|Ķ<|Ϲ fY<|É (Wj sy (Â 3)<|É (mC<|.bl true) ã) ã)
 bi)
 (ú<|Ķ<|mC<|.str "-")))))
def ť:MF:=Ď 3 6 cy
def Ľ:M Fl:=(æ (ć 8<|Ķ<|mC<|.str "night")
 (æ (ϴ (ϯ<|Ê su (Â 3)<|mC .non)
 (ć 8<|à ť<|Í 1<|Û (Ō<|É (ä 7)<|É (ä 6) ã)<|Í 3 Ú)
 bi)
 (æ (ϴ (kc (ϯ<|Ê ϲ (Ý<|oB (Ê ß (Â 5)<|Â 6) (mP<|ä 7)<|mP<|Ý<|Ą ü (Â 7)<|Å 1)<|Ê ß (Ý<|bP<|É (mC<|.str "#")<|É (mC<|.str ".") ã)<|Ϲ iG<|É (Ê ŉ (Â 8)<|mC<|.str "-") ã)<|ϯ<|Ê ϲ (Ϲ aa<|É (Ê ß (Â 5)<|Â 6) ã)<|Ê ß (Â 2)<|Å 0)
 (ú<|Ķ<|mC<|.bl false)
 bi)
 (ϴ (ϯ<|Ê ϲ (Ý<|jU "say" [("Desk",ŷ)] (ä 0) (Û (Ý<|à ě<|Û (Ý<|bP<|É (mC<|.str "who")<|É (mC<|.str "day")<|É (ä 4)<|É (ä 7)<|É (ä 6) ã) Ú) Ú))<|Â 8)
 (ú<|Ķ<|mC<|.bl false)
 bi))))
def cz:M Fl:=(eN (Ϫ Ϛ<|É (Ê ß (Â 2)<|Å 0) ã) (gN 7) Ľ)
def gi:M Fl:=(æ (ć 5<|AD fX (Ý<|jU "say" [("Desk",ŷ)] (ä 0) (Û (Ý<|Ą ü (mC<|.str "dark day ")<|Ϲ fY<|É (Â 4) ã) Ú))<|É (mC<|.str "/") ã)
 (æ (ϴ (ϯ<|Ê ϲ (Ϲ aa<|É (Â 5) ã)<|Ê ß (Â 2)<|Å 1)
 (ú<|Ķ<|mC<|.bl false)
 bi)
 (æ (eN (Ϫ Ϛ<|É (Ê ß (Â 2)<|Å 1) ã) (gN 6) cz)
 (ú<|Ķ<|mC<|.bl true))))
def ϗ:MF:=Ď 5 9 gi
def Fx:M Fl:=(æ (ć 1<|Ķ<|Ō<|É (Ý<|Ą ü (Å 1)<|Ê Ļ (Ý<|à ŝ<|Í 0<|Û (Å 0) Ú)<|Å 3)<|É (Ý<|Ą ü (Å 1)<|Ê Ļ (Ê eY (Ý<|à ŝ<|Í 0<|Û (Å 0) Ú)<|Å 4)<|Å 3) ã)
 (æ (ć 2<|à ŝ<|Í 0<|Û (Å 1) Ú)
 (æ (ć 3<|ģ [2,1,0] 1 (Ϫ Ϛ<|É (Ê Ļ (Â 2)<|Å 4) ã) (gN 3) Ĕ (Ý<|à ϋ<|Û (Ý<|Ą ü (Ý<|à ŝ<|Í 2<|Û (Ý<|Ą ü (Å 2)<|Â 3) Ú)<|Â 0)<|Û (Ê ß (Â 1)<|Å 0)<|Û (Ê ß (Â 1)<|Å 1) Ú))
 (æ (ć 4<|ģ [0,2] 1 (Ϫ Ϛ<|É (Ý<|Ą ü (Å 1)<|Ê Ļ (Ê eY (Â 2)<|Å 4)<|Å 3) ã) (gN 2) Ĕ (Ý<|à Ϙ<|Û (Ý<|Ą ü (Ý<|à ŝ<|Í 0<|Û (Ý<|Ą ü (Å 5)<|Â 2) Ú)<|Ê eY (Â 1)<|Å 4) Ú))
 (æ (ć 5<|Ķ<|eP "Desk" oW (Û (Ý<|à bI<|Û (Ê ß (Â 1)<|Å 0)<|Û (Ê ß (Â 1)<|Å 1)<|Í 3<|Û (Ý<|bP<|É (Ō<|É (mC<|.str "day")<|É (Å 1)<|É (ä 4) ã) ã) Ú) Ú))
 (ú<|Ķ<|Ϲ kD<|É (Ý<|ģ [5,3,1,4] 1 (Ϫ Ϛ<|É (Ϲ aa<|É (Â 4) ã) ã) (gN 4) Ĕ (Ý<|à ϗ<|Í 0<|Í 1<|Í 2<|Û (Ê ß (Â 3)<|Â 4)<|Í 4 Ú)) ã))))))
def vE:MF:=Ď 1 6 Fx
abbrev Df(V:VE)(i:Nat)(x:String)(mf:MF)(k:Nat):Prop:=Dn V x (top i) (NZ<|top i) mf k
abbrev Dv(V:VE)(i:Nat)(x:String)(mf:MW)(k:Nat):Prop:=Dw V x (top i) (NZ<|top i) mf k
section
seal PE PT PW PA PS dB PG zy PI Du
def okL{V:VE}{fa:À}(_:Gz V.mg "abs")(_:Gz V.mg "all")(_:Gz V.mg "bool")(_:Gz V.mg "divmod")(_:Gz V.mg "enumerate")(_:Gz V.mg "int")(_:Gz V.mg "isinstance")(_:Gz V.mg "len")(_:Gz V.mg "list")(_:Gz V.mg "max")(_:Gz V.mg "min")(_:Gz V.mg "range")(_:Gz V.mg "str")(_:Gz V.mg "sum")(_:Gz V.mg "tuple")(_:Gz V.mg "zip")(_:Gc V "Thing")(_:Gc V "Post")(_:Gc V "Fence")(_:Gc V "Sail")(_:Gc V "Cloth")(_:Gc V "House")(_:Gc V "Yard")(_:Gc V "Desk")(_:Gc V "ROWS")(_:Gc V "answer_show")(_:Gc V "answer_lit")(_:Gc V "answer_hours")(_:Gc V "answer_first")(_:Gc V "answer_walk")(_:Gc V "answer_dial")(_:Gs V.mg "FIGURES" "0123456789")(_:Gs V.mg "LETTERS" "abcdefghijklmnopqrstuvwxyz")(_:Gi V.mg "MOST_DAYS" (12))(_:Gi V.mg "MOST_FIGURES" (10))(_:Gi V.mg "MOST_HEIGHT" (1000000000))(_:Gi V.mg "MOST_LETTERS" (8))(_:Gi V.mg "MOST_PLACE" (1000000000))(_:Gi V.mg "MOST_RAY" (1000000))(_:Gi V.mg "MOST_SIDE" (20))(_:Gi V.mg "MOST_THINGS" (40))(_:Gi V.mg "MOST_TIMES" (1000000000))(_:Gi V.mg "MOST_TURNS" (24))(_:Gc V "answer_dark")(_:Gc V "answer_who")(_:Kc V "Thing")(_:Na V "Thing" "word")(_:Na V "Thing" "numbers")(_:Kc V "Post")(_:Na V "Post" "word")(_:Na V "Post" "numbers")(_:Kc V "Fence")(_:Na V "Fence" "word")(_:Na V "Fence" "numbers")(_:Kc V "Sail")(_:Na V "Sail" "word")(_:Na V "Sail" "numbers")(_:Kc V "Cloth")(_:Na V "Cloth" "word")(_:Na V "Cloth" "numbers")(_:Kc V "House")(_:Na V "House" "word")(_:Na V "House" "numbers")(_:Kc V "Yard")(_:Na V "Yard" "width")(_:Na V "Yard" "height")(_:Na V "Yard" "things")(_:Na V "Yard" "days")(_:Kc V "Desk")(_:Na V "Desk" "yard")(_:xY V.K V.cm V.w.params (V.cm "ROWS") ZR)(_:V.mg "law"=some (.ref fa))(d0:Df V 148 "_law_part" ŝ 0)
 (d1:Df V 109 "is_made_of" ac 0)
 (d2:Df V 110 "is_number" ϔ 1)
 (d3:Df V 112 "numbers_of" cZ 2)
 (d4:Df V 114 "numbers_in" ae 3)
 (d5:Df V 115 "read_size" gW 4)
 (d6:Df V 119 "lacks_turns" Ů 0)
 (d7:Di V "Yard" "Yard.__init__" (ai (top 75) 0) jI 0)
 (d8:Df V 33 "is_ray" oR 0)
 (d9:Df V 118 "read_turn" eQ 4)
 (d10:Dv V 122 "take_turn" gX 5)
 (d11:Df V 111 "is_name" lI 1)
 (T5:Df V 117 "read_day" jK 4)
 (T6:Dv V 121 "take_day" jL 5)
 (T7:Df V 52 "is_place" a_ 0)
 (T8:Df V 53 "is_height" eR 0)
 (d16:Df V 55 "makes_post" da 1)
 (d17:Di V "Thing" "Thing.__init__" (ai (top 62) 0) Fv 0)
 (d18:Di V "Post" "Thing.__init__" (ai (top 62) 0) x_ 0)
 (d19:Di V "Fence" "Thing.__init__" (ai (top 62) 0) ue 0)
 (d20:Di V "Sail" "Thing.__init__" (ai (top 62) 0) yc 0)
 (T9:Di V "Cloth" "Thing.__init__" (ai (top 62) 0) uf 0)
 (d22:Di V "House" "Thing.__init__" (ai (top 62) 0) ug 0)
 (Qr:Df V 56 "has_two_ends" Ϭ 1)
 (Ua:Df V 57 "makes_fence" bS 2)
 (Qs:Df V 58 "makes_sail_or_house" ķ 2)
 (d26:Df V 54 "is_cloth_corner" aO 1)
 (d27:Df V 59 "makes_cloth" bT 2)
 (d28:Df V 68 "thing_of" ŕ 3)
 (d29:Df V 116 "read_thing" fI 4)
 (d30:Dv V 120 "take_thing" db 5)
 (Qb:Dv V 123 "take_row" Ħ 6)
 (Ub:Df V 124 "read_yard" gZ 7)
 (d33:Di V "Desk" "Desk.__init__" (ai (top 146) 0) oW 8)
 (Uc:Dn V "_law_spread" (top 149) ["_law_number","_law_many","_law_found","_law_rest","_law_k","_law_turn","_law_digits","_law_upper","_law_lower"] ů 0)
 (Qt:Dn V "_law_thing_by" (top 150) ["_law_number","_law_width","_law_height","_law_xs","_law_x","_law_y","_law_u","_law_v","_law_h","_law_high","_law_end"] ϋ 1)
 (d36:Df V 151 "_law_ray_by" Ϙ 1)
 (d37:Df V 152 "_law_joined" ě 0)
 (d38:Df V 153 "_law_yard_text" bI 1)
 (d39:Df V 142 "numbers_behind" Ŗ 3)
 (d40:Df V 78 "has_day" lJ 0)
 (Ud:Df V 77 "turns_of" dL 0)
 (Ue:Df V 81 "check_turn" dg 1)
 (Uf:Df V 14 "box_lines" hV 0)
 (d44:Df V 16 "each_once" h_ 0)
 (Qu:Df V 15 "line_through" dh 0)
 (d46:Df V 13 "holds" jM 0)
 (d47:Df V 17 "edge_lines" fJ 1)
 (d48:Df V 18 "lines_about" bU 2)
 (d49:Df V 34 "cast" mS 0)
 (d50:Df V 60 "level_corners" ό 0)
 (Ug:Df V 61 "block_corners" ao 1)
 (Uh:Dh V "Post" "corners" "Post.corners" (ai (top 63) 0) ŵ 2)
 (Ui:Dh V "Fence" "corners" "Fence.corners" (ai (top 64) 0) Ŧ 0)
 (Uj:Dh V "Sail" "corners" "Sail.corners" (ai (top 65) 0) Ŷ 1)
 (d55:Dh V "Cloth" "corners" "Cloth.corners" (ai (top 66) 0) ŧ 0)
 (d56:Dh V "House" "corners" "House.corners" (ai (top 67) 0) Ũ 2)
 (d57:Df V 37 "corner_casts" ϭ 3)
 (d58:Df V 41 "span_bits" cG 0)
 (d59:Df V 42 "row_bits" gc 1)
 (d60:Df V 43 "dark_of" fN 4)
 (d61:Df V 44 "darks_of_things" ϖ 5)
 (d62:Df V 45 "dark" pJ 6)
 (d63:Df V 132 "answer_dark" bV 7)
 (d64:Df V 76 "has_stone" ia 0)
 (d65:Df V 79 "check_stone" eE 1)
 (d66:Df V 47 "least_holding" ύ 0)
 (d67:Df V 48 "who" Cm 6)
 (d68:Df V 31 "number_of" ib 0)
 (d69:Df V 133 "answer_who" ag 7)
 (d70:Df V 128 "name_of" lK 0)
 (d71:Df V 129 "day_called" bL 1)
 (d72:Df V 143 "answer" kN 8)
 (d73:Df V 144 "with_thing" yg 4)
 (d74:Df V 145 "without_thing" qu 4)
 (d75:Dh V "Desk" "say" "Desk.say" (ai (top 146) 1) ŷ 9)
 (d76:Df V 19 "parting_line" bf 3)
 (d77:Df V 25 "pairs_below" bW 0)
 (d78:Df V 26 "triples_below" cq 1)
 (d79:Df V 10 "greatest_divisor" ah 0)
 (d80:Df V 11 "ratio" ie 1)
 (d81:Dn V "spread" (top 24) ["shares","places","many","whole","weights","share","place"] di 2)
 (d82:Df V 20 "turned" iQ 0)
 (d83:Df V 21 "shares_of_three" aQ 1)
 (d84:Df V 23 "are_weights" az 0)
 (d85:Df V 22 "shares_of_two" cr 0)
 (d86:Df V 27 "weights_of" bM 3)
 (d87:Df V 28 "held" ul 4)
 (d88:Df V 35 "stone_cast" fK 1)
 (d89:Df V 38 "shading" fO 5)
 (d90:Df V 157 "_law_whole" bN 0)
 (d91:Df V 158 "_law_weighed" bh 1)
 (d92:Df V 159 "_law_parted" eL 1)
 (d93:Df V 154 "_law_box" dN 0)
 (d94:Df V 155 "_law_corners" Ş 1)
 (d95:Df V 156 "_law_casts" dn 2)
 (d96:Df V 160 "_law_told" cH 6)
 (d97:Df V 39 "shades" iS 6)
 (d98:Df V 161 "_law_first_dark" ť 7)
 (d99:Df V 162 "_law_turn_right" ϗ 10)
 (Uk:Dn V "law" (top 163) ["_law_script","_law_size","_law_number","_law_things","_law_turns","_law_desk"] vE 11):
 N6 V fa "_law_script" 12 vE:=by
 refine ϰ d0 rfl (λS _ hr hu=>Ö (aM į rfl (gP<|î<|Ĺ (Ã 0) (Ĳ<|v_var 1)<|Ĳ<|v_add (Ã 1) Ë) (Ŋ S)<|ĥ<|Ŀ xv xI gz rj<|Ø (Ã 2) ê)<|ĥ đ) λ_=>?_;refine ϰ d1 rfl (λS _ hr hu=>ĥ<|v_and (oq aX aX aS aS Ë (ç<|Ŀ ļ Ň gz ğ<|Ø (Ã 0) ê)<|Ã 2)<|gO<|Ŀ (ii rfl) ik gz dU<|Ø (ç<|î<|bR (Ŕ 0) ϓ Ġ<|iw ua (t_ hu) (Ã 1) (Ã 0)<|by with_unfolding_all rfl) ê) λ_=>?_;refine ϰ d2 rfl (λS _ hr hu=>Ė S (JX (ű<|ç<|C0 dZ Bd Be vk uY (Ã 0)<|Ø ϊ ê) (Ĺ (Ã 0) (Ĳ đ) aY)<|ś<|v_var 0)<|Ö (ĭ (dF<|ű<|ç<|î<|þ hr<|Õ 1<|Ó N4<|Ó mR Ô) (ĥ oo) ù)<|ĥ<|v_or (v_eq hu (Ã 0) ϊ)<|gO<|v_not<|C0 dZ Bd Be vk uY (Ã 1)<|Ø ϊ ê) λ_=>?_;refine ϰ d3 rfl (λS _ hr hu=>Ö (ĭ (ű<|ç<|Ŀ (ii rfl) ik gz dU<|Ø (ç<|î<|bR (Ŕ 0) ϓ Ġ<|î<|þ hr<|Õ 0 Ô) ê) (ė<|bR (Ŕ 0) ϓ Ġ<|tM Cd Ce gz wt<|Ø (Ã 0) ê) ù)<|ĥ pU) λ_=>?_;refine ϰ d4 rfl (λS _ hr hu=>Ė S (þ hr<|Õ 0 Ô)<|Ö (ĭ (ϳ tu mz (Ã 2) oK<|ĸ _) (ô Ĵ) ù)<|ė<|fS 2) λ_=>?_;refine ϰ d5 rfl (λS _ hr hu=>Ö (ĭ (PW.pt<|w_or (jE hu (û (Ã 0) Ë) ϊ)<|gM<|jE hu (ç<|Ŀ ļ Ň gz ğ<|Ø (Ã 0) ê) Ë) (ô Ĵ) ù)<|Ė S (þ hr<|Ó (î<|Ĺ (Ã 0) (Ĳ đ) aY)<|Õ 1 Ô)<|Ö (ĭ (dF<|ű<|ç<|Ŀ (ii rfl) ik gz dU<|Ø (ç<|î<|bR (Ŕ 2) ϓ Ġ<|oq aX aX aS aS Ë (Ã 0)<|ç mR) ê) (ô Ĵ) ù)<|ė<|fS 2) λ_=>?_;refine ϰ d6 rfl (λS _ hr hu=>ĥ<|v_and (iw BR Bz (ç<|xU 0 gz<|pv 0) Ë<|ĸ _)<|gO<|v_eq hu (ç<|Fn 0 gz<|KE<|pv 0) Ë) λ_=>?_;refine stI d7 rfl (λS _ hr hu=>Ö (kH (pv 0)<|v_var 1)<|Ö (kH (pv 0)<|v_var 2)<|Ö (kH (pv 0)<|î<|uE eo eA gz cM<|Ø (Ã 3) ê)<|ô<|kH (pv 0)<|î<|Tq (Ky 4) (B9 ["name","times","turns"] [] 3 (Ā<|ai (top 75) 0) rfl rfl (Nz 4) (λ_ _ _ _ _=>NA (i:=0) (j:=1) (k:=2) rfl (show(["name","times","turns"]:List Str).Nodup by decide+kernel) rfl rfl rfl (aI rfl) (aI rfl) (aI rfl) (fx:=jd rfl) (fy:=jd rfl) (fz:=jd rfl)) (λ_ _ _ _ _=>Ġ) (λ_ _ _ _ _=>Ĩ<|Ì (v_var 0)<|Ì (v_var 1)<|Ì (î<|uE eo eA gz cM<|Ø (Ã 2) ê) í) trivial)<|bR (Ŕ 4) (oy rfl<|ÿ ϓ<|ÿ ϓ<|ÿ ϓ aV) Ġ<|Ĩ<|Ì (v_var 0)<|Ì (v_var 1)<|Ì (î<|uE eo eA gz cM<|Ø (Ã 2) ê) í) λ_=>?_;refine ϰ d8 rfl (λS _ hr hu=>ĥ<|v_and (iw aX aS (ç<|Ŀ xv xI gz rj<|Ø (û (Ã 0) Ë) ê) (ç mR)<|ĸ _)<|v_and (iw aX aS (ç<|Ŀ xv xI gz rj<|Ø (û (Ã 0) Ë) ê) (ç mR)<|ĸ _)<|gO<|oq aX aX aS aS Ë (û (Ã 0) Ë)<|ç mR) λ_=>?_;refine ϰ d9 rfl (λS _ hr hu=>Ö (ĭ (du hu (Ã 0)<|ç<|î<|Ų<|Ì ſ í) (ĥ pU) ù)<|Ö (ĭ (PW.pt<|w_or (jE hu (û (Ã 0) Ë) ϊ)<|gM<|jE hu (ç<|Ŀ ļ Ň gz ğ<|Ø (Ã 0) ê) Ë) (ô Ĵ) ù)<|Ė S (ś<|tM kB kC gz gu<|Ø (ç<|î<|þ hr<|Ó (î<|Ĺ (Ã 0) (Ĳ đ) aY)<|Õ 1 Ô) ê)<|Ö (ĭ (dF<|ű<|ç<|î<|þ hr<|Õ 2 Ô) (ô Ĵ) ù)<|ė<|fS 2) λ_=>?_;refine Qk d10 rfl (λS _ hr hu=>sA (PW.pt<|w_or (du hu (ç<|xU 2 gz<|pv 2) Ë)<|gM<|du hu (ç<|Fn 2 gz<|KE<|pv 2)<|ç mR) (ô Ĵ)<|KD (KE<|pv 2)<|î<|þ hr<|Õ 0<|Õ 1 Ô) λ_=>?_;refine ϰ d11 rfl (λS _ hr hu=>ė<|þ hr<|Õ 0<|Ó N4<|Ó mR Ô) λ_=>?_;refine ϰ T5 rfl (λS _ hr hu=>Ö (ĭ (PW.pt<|w_or (jE hu (ç<|Ŀ ļ Ň gz ğ<|Ø (Ã 0) ê) Ë)<|gM<|dF<|ű<|ç<|î<|þ hr<|Ó (ĩ (Ã 0) Ë) Ô) (ô Ĵ) ù)<|Ė S (ś<|ĩ (ç<|î<|þ hr<|Ó (î<|Ĺ (Ã 0) (Ĳ đ) aY)<|Õ 1 Ô) Ë)<|Ö (ĭ (dF<|ED aX aX aS aS Ë (Ã 2)<|ç mR) (ô Ĵ) ù)<|ė<|Kw<|B6 (ĩ (Ã 0) Ë)<|B6 (v_var 2)<|Kv<|Ų í) λ_=>?_;refine Qk T6 rfl (λS _ hr hu=>sA (PW.pt<|w_or (ű<|ç<|î<|þ hr<|Õ 2 Ô)<|gM<|du hu (ç<|xU 2 gz<|pv 2)<|ç mR) (ô Ĵ)<|NC (i:=3) S.nd rfl (aI rfl) (þ hr<|Õ 0<|Õ 1 Ô)<|sA (Kt 3<|ϳ ua (t_ hu) (û (Ã 3) Ë) (ç<|î<|B9 ["name","times","turns"] [] 3 (Ā<|top 121) rfl rfl (Nz 2) (λ_ _ _ _ _=>NA (i:=0) (j:=1) (k:=2) rfl (show(["name","times","turns"]:List Str).Nodup by decide+kernel) rfl rfl rfl (aI rfl) (aI rfl) (aI rfl) (fx:=jd rfl) (fy:=jd rfl) (fz:=jd rfl)) (λ_ _ _ _ _=>Ġ) (λ_ _ _ _ _=>v_var 0) trivial)<|by with_unfolding_all rfl) (ô Ĵ)<|KC (pv 2)<|pv 3) λ_=>?_;refine ϰ T7 rfl (λS _ hr hu=>ĥ<|oq aX aX aS aS (ç<|yL ky kh<|ç mR) (Ã 0)<|ç mR) λ_=>?_;refine ϰ T8 rfl (λS _ hr hu=>ĥ<|oq aX aX aS aS Ë (Ã 0)<|ç mR) λ_=>?_;refine ϰ d16 rfl (λS _ hr hu=>ĥ<|v_and (v_eq hu (ç<|Ŀ ļ Ň gz ğ<|Ø (Ã 0) ê) Ë)<|v_and (î<|þ hr<|Ó (ĩ (Ã 0) Ë) Ô)<|v_and (î<|þ hr<|Ó (ĩ (Ã 0) Ë) Ô)<|gO<|î<|þ hr<|Ó (ĩ (Ã 0) Ë) Ô) λ_=>?_;refine stI d17 rfl (λS _ hr hu=>Ö (kH (pv 0)<|v_var 1)<|ô<|kH (pv 0)<|î<|uE eo eA gz cM<|Ø (Ã 2) ê) λ_=>?_;refine stI d18 rfl (λS _ hr hu=>Ö (kH (pv 0)<|v_var 1)<|ô<|kH (pv 0)<|î<|uE eo eA gz cM<|Ø (Ã 2) ê) λ_=>?_;refine stI d19 rfl (λS _ hr hu=>Ö (kH (pv 0)<|v_var 1)<|ô<|kH (pv 0)<|î<|uE eo eA gz cM<|Ø (Ã 2) ê) λ_=>?_;refine stI d20 rfl (λS _ hr hu=>Ö (kH (pv 0)<|v_var 1)<|ô<|kH (pv 0)<|î<|uE eo eA gz cM<|Ø (Ã 2) ê) λ_=>?_;refine stI T9 rfl (λS _ hr hu=>Ö (kH (pv 0)<|v_var 1)<|ô<|kH (pv 0)<|î<|uE eo eA gz cM<|Ø (Ã 2) ê) λ_=>?_;refine stI d22 rfl (λS _ hr hu=>Ö (kH (pv 0)<|v_var 1)<|ô<|kH (pv 0)<|î<|uE eo eA gz cM<|Ø (Ã 2) ê) λ_=>?_;refine ϰ Qr rfl (λS _ hr hu=>ĥ<|v_and (v_eq hu (ç<|Ŀ ļ Ň gz ğ<|Ø (Ã 0) ê) Ë)<|v_and (Ŀ (ii rfl) ik gz dU<|Ø (ç<|î<|bR (gP<|î<|Ĺ (Ã 0) aY<|Ĳ đ) ϓ Ġ<|î<|þ hr<|Õ 0 Ô) ê)<|gO<|î<|þ hr<|Ó (ĩ (Ã 0) Ë) Ô) λ_=>?_;refine ϰ Ua rfl (λS _ hr hu=>ĥ<|v_and (î<|þ hr<|Õ 0 Ô)<|gO<|iw ET (Ac hu) (ç<|î<|Ĺ (Ã 0) aY<|Ĳ đ) (ç<|î<|Ĺ (Ã 0) (Ĳ đ)<|Ĳ đ)<|ĸ _) λ_=>?_;refine ϰ Qs rfl (λS _ hr hu=>ĥ<|v_and (î<|þ hr<|Õ 0 Ô)<|v_and (iw fT fR (û (Ã 0) Ë) (û (Ã 0) Ë)<|ĸ _)<|gO<|iw fT fR (û (Ã 0) Ë) (û (Ã 0) Ë)<|ĸ _) λ_=>?_;refine ϰ d26 rfl (λS _ hr hu=>ĥ<|v_and (î<|þ hr<|Ó (ĩ (Ã 0) Ë) Ô)<|v_and (î<|þ hr<|Ó (ĩ (Ã 0) Ë) Ô)<|gO<|oq aX aX aS aS Ë (û (Ã 0) Ë)<|ç mR) λ_=>?_;refine ϰ d27 rfl (λS _ hr hu=>ĥ<|v_and (v_eq hu (ç<|Ŀ ļ Ň gz ğ<|Ø (Ã 0) ê) Ë)<|gO<|Ŀ (ii rfl) ik gz dU<|Ø (ç<|î<|bR (gP<|Ĩ<|Ì đ<|Ì đ<|Ì đ í) ϓ Ġ<|î<|þ hr<|Ó (î<|Ĺ (Ã 0) (Ĳ<|v_var 1)<|Ĳ<|v_add (Ã 1) Ë) Ô) ê) λ_=>?_;refine ϰ d28 rfl (λS _ hr hu=>Ö (ĭ (PW.pt<|w_and (du hu (Ã 0) ϊ)<|kn<|ű<|ç<|î<|þ hr<|Õ 1 Ô) (ĥ<|xZ hr<|Õ 0<|Õ 1 Ô) ù)<|Ö (ĭ (PW.pt<|w_and (du hu (Ã 0) ϊ)<|kn<|ű<|ç<|î<|þ hr<|Õ 1 Ô) (ĥ<|xZ hr<|Õ 0<|Õ 1 Ô) ù)<|Ö (ĭ (PW.pt<|w_and (du hu (Ã 0) ϊ)<|kn<|ű<|ç<|î<|þ hr<|Õ 1 Ô) (ĥ<|xZ hr<|Õ 0<|Õ 1 Ô) ù)<|Ö (ĭ (PW.pt<|w_and (du hu (Ã 0) ϊ)<|kn<|ű<|ç<|î<|þ hr<|Õ 1 Ô) (ĥ<|xZ hr<|Õ 0<|Õ 1 Ô) ù)<|Ö (ĭ (PW.pt<|w_and (du hu (Ã 0) ϊ)<|kn<|ű<|ç<|î<|þ hr<|Õ 1 Ô) (ĥ<|xZ hr<|Õ 0<|Õ 1 Ô) ù)<|ô Ĵ) λ_=>?_;refine ϰ d29 rfl (λS _ hr hu=>Ė S (þ hr<|Ó (î<|Ĺ (Ã 0) (Ĳ đ) aY)<|Õ 1 Ô)<|ô<|KP<|λ_ _ _=>ė<|þ hr<|Ó (ĩ (Ã 0) Ë)<|Õ 2 Ô) λ_=>?_;refine Qk d30 rfl (λS _ hr hu=>sA (PW.pt<|w_or (ϳ BR Bz (ç<|xU 3 gz<|pv 3) Ë<|ĸ _)<|gM<|du hu (ç<|Ŀ ļ Ň gz ğ<|Ø (Ã 2) ê)<|ç mR) (ô Ĵ)<|KA (pv 2)<|î<|þ hr<|Õ 0<|Õ 1 Ô) λ_=>?_;refine Qk Qb rfl (λS _ hr hu=>NB (ϳ ua (t_ hu) (û (Ã 0) Ë) (ç<|Ĩ<|Ì ſ<|Ì ſ í)<|by with_unfolding_all rfl) (KR hr<|aN 0 (pv 0)<|aN 1 (pv 1)<|aN 3 (pv 3) xT)<|NB (du hu (û (Ã 0) Ë) ϊ) (KR hr<|aN 0 (pv 0)<|aN 1 (pv 1)<|aN 3 (pv 3) xT)<|KR hr<|aN 0 (pv 0)<|aN 1 (pv 1)<|aN 2 (pv 2)<|aN 3 (pv 3) xT) λ_=>?_;refine ϰ Ub rfl (λS _ hr hu=>Ö (Fh S (gP<|î<|Hq dZ ji rQ oO oN (Ã 0)<|Ø ϊ ê) ϓ Ġ<|î<|Hq dZ ji rQ oO oN (Ã 0)<|Ø ϊ ê)<|Ė S (þ hr<|Ó (ĩ (Ã 1) Ë)<|Ó đ Ô)<|Ts (xn S.nd (i:=3) rfl (aI rfl)<|zY cu) (xn S.nd (i:=4) rfl (aI rfl)<|zY cu) į rfl (Hm rfl gz<|S9<|î<|Ĺ (Ã 1) (Ĳ đ) aY) (xm rfl (ip (lB S.nd (i:=5) rfl<|aI rfl) (ip (lB S.nd (i:=6) rfl<|aI rfl) xl rfl) rfl) rfl rfl) (jq<|ϵ<|N_ hr<|aN 6 (pv 6)<|aN 5 (pv 5)<|aN 3 (pv 3)<|aN 4 (pv 4) xT) (Ö (ĭ (ű<|ç<|î<|þ hr<|Õ 4 Ô) (ô Ĵ) ù)<|ĥ<|xZ hr<|Ó (ĩ (Ã 2) Ë)<|Ó (ĩ (Ã 2) Ë)<|Õ 3<|Õ 4 Ô)<|λ_ _=>rfl) λ_=>?_;refine stI d33 rfl (λS _ hr hu=>ô<|kH (pv 0)<|î<|þ hr<|Õ 1 Ô) λ_=>?_;refine ϰ Uc rfl (λS _ hr hu=>Ė S (Ų í)<|Ė S (ś<|zg (Ã 0) Ë)<|Ö (aM į rfl (ņ rfl gz<|Ì (v_mul (Ã 1)<|oM Ë<|ų (Ã 0) Ë) í) (Ŋ S)<|Ö (pV (Ŀ ve vf gz A5<|Ø (Ã 3)<|Ø (ç<|iu EM Ej Ë Ë) ê)<|pZ rfl<|ÿ (Ŋ S)<|ÿ (Ŋ S) aV)<|ô<|PS.wk (ϵ<|fQ bB cV dY ϩ (pv 2)<|Ì (v_var 6) í) λ_ _ _ h=>jz h)<|Ė S (kF (ų (Ã 3) Ë) Ë)<|Ö (BM į (ϳ fT fR (ç<|Ŀ ļ Ň gz ğ<|Ø (Ã 2) ê) (Ã 1)<|ĸ _)<|Ö (aM į rfl (ņ rfl gz<|Ì đ í) (Ŋ S)<|Ö (pV (Ŀ ve vf gz A5<|Ø (Ã 3)<|Ø Ë ê)<|pZ rfl<|ÿ (Ŋ S)<|ÿ (Ŋ S) aV)<|ô<|xR S<|ś<|v_mod (eZ (eZ (eZ (Ń (Ã 8) Ë)<|Ń (Ã 7) Ë)<|Ń Ë<|ç<|Ŀ ļ Ň gz ğ<|Ø (Ã 2) ê) Ë) Ë)<|ô<|PS.wk (ϵ<|fQ bB cV dY ϩ (pv 2)<|Ì (zg (Ã 3) Ë) í) λ_ _ _ h=>jz h)<|ė<|fS 2) λ_=>?_;refine ϰ Qt rfl (λS _ hr hu=>Ė S (þ hr<|Õ 0<|Ó đ Ô)<|Ė S (ś<|v_sub (ų (û (Ã 3) Ë)<|eZ (Ń Ë<|Ã 1) Ë) Ë)<|Ė S (ś<|v_sub (ų (û (Ã 3) Ë)<|eZ (Ń Ë<|Ã 2) Ë) Ë)<|Ė S (kF (eZ (Ã 4) Ë)<|ų (û (Ã 3) Ë) Ë)<|Ė S (kF (eZ (Ã 5) Ë)<|ų (û (Ã 3) Ë) Ë)<|Ė S (kF Ë<|ų (û (Ã 3) Ë) Ë)<|Ö (ĭ (du hu (ų (û (Ã 3) Ë) Ë) Ë) (ô<|xR S<|ś<|v_sub (ç<|iu EM Ej Ë Ë)<|ų (û (Ã 3) Ë) Ë) ù)<|Ö (ĭ (du hu (ų (û (Ã 3) Ë) Ë) Ë) (ė<|Ų<|Ì ſ<|Ì (v_sub (ų (û (Ã 3) Ë)<|eZ (Ã 1) Ë) Ë)<|Ì (v_sub (ų (û (Ã 3) Ë)<|eZ (Ã 2) Ë) Ë)<|Ì (v_var 8) í) ù)<|Ö (ĭ (du hu (ų (û (Ã 3) Ë) Ë) Ë) (Ė S (ś<|ĩ (ç<|î<|Ų<|Ì (Ĩ<|Ì (v_var 6)<|Ì (v_var 5) í)<|Ì (Ĩ<|Ì (v_var 6)<|Ì (v_var 7) í)<|Ì (Ĩ<|Ì (v_var 4)<|Ì (v_var 7) í)<|Ì (Ĩ<|Ì (v_sub (Ã 4) Ë)<|Ì (v_var 7) í) í)<|ų (û (Ã 3) Ë) Ë)<|ė<|Ų<|Ì ſ<|Ì (v_var 4)<|Ì (v_var 5)<|Ì (ĩ (Ã 10) Ë)<|Ì (ĩ (Ã 10) Ë)<|Ì (v_var 8) í) ù)<|Ö (ĭ (du hu (ų (û (Ã 3) Ë) Ë) Ë) (ė<|Ų<|Ì ſ<|Ì (v_var 4)<|Ì (v_var 5)<|Ì (v_var 6)<|Ì (v_var 7)<|Ì (v_var 8) í) ù)<|Ö (ĭ (du hu (ų (û (Ã 3) Ë) Ë) Ë) (ė<|Ų<|Ì ſ<|Ì (v_var 4)<|Ì (v_var 5)<|Ì (v_var 6)<|Ì (v_var 7)<|Ì (v_var 8) í) ù)<|Ė S (ś<|v_mul (ų (û (Ã 3) Ë) Ë)<|ų (û (Ã 3) Ë) Ë)<|ė<|Ų<|Ì ſ<|Ì (v_var 4)<|Ì (v_var 5)<|Ì (v_mod (û (Ã 3) Ë) Ë)<|Ì (v_var 6)<|Ì (v_add (oM (Ã 5) Ë)<|ų (û (Ã 3) Ë) Ë)<|Ì (v_mod (û (Ã 3) Ë) Ë)<|Ì (v_add (oM (Ã 4) Ë)<|ų (û (Ã 3) Ë) Ë)<|Ì (v_var 7)<|Ì (v_var 9) í) λ_=>?_;refine ϰ d36 rfl (λS _ hr hu=>Ė S (þ hr<|Õ 0<|Ó đ Ô)<|Ö (ĭ (du hu (ų (û (Ã 1) Ë) Ë) Ë) (ĥ pU) ù)<|Ö (ĭ (du hu (ų (û (Ã 1) Ë) Ë) Ë) (ĥ<|Ĩ<|Ì (v_sub (ų (û (Ã 1) Ë) Ë) Ë)<|Ì (v_sub (ų (û (Ã 1) Ë) Ë) Ë)<|Ì (v_add Ë<|ų (û (Ã 1) Ë) Ë) í) ù)<|ĥ<|Ĩ<|Ì (v_sub (ų (û (Ã 1) Ë) Ë) Ë)<|Ì (v_sub (ų (û (Ã 1) Ë) Ë) Ë)<|Ì (v_add Ë<|ų (û (Ã 1) Ë) Ë) í) λ_=>?_;refine ϰ d37 rfl (λS _ hr hu=>ĥ<|C0 dZ rS rT sv sk ϊ<|Ø (ç<|î<|bR (Ŕ 0) ϓ Ġ<|tM sC sD gz rk<|Ø (Ã 0) ê) ê) λ_=>?_;refine ϰ d38 rfl (λS _ hr hu=>Ė S (kF (ç<|î<|Ų<|Ì (î<|þ hr<|Ó (î<|Ų<|Ì ſ<|Ì (v_var 0)<|Ì (v_var 1) í) Ô) í)<|ç<|î<|bR (Ŕ 2) ϓ Ġ<|î<|þ hr<|Õ 0 Ô)<|Ö (aM į rfl (Ŕ 3) (oy rfl<|ÿ (Ŋ S)<|ÿ (Ŋ S)<|ÿ (Ŋ S) aV)<|Ö (PS.wk (ϵ<|fQ bB cV dY ϩ (pv 4)<|Ì (î<|þ hr<|Ó (î<|Ų<|Ì ſ<|Ì (v_var 5)<|Ì (v_var 6) í) Ô) í) λ_ _ _ h=>jz h)<|ô<|aM į rfl (Ŕ 7) (Ŋ S)<|ô<|ĭ (ϳ tu mz (Ã 8) oK<|ĸ _) (ô<|PS.wk (ϵ<|fQ bB cV dY ϩ (pv 4)<|Ì ſ í) λ_ _ _ h=>jz h)<|ô<|PS.wk (ϵ<|fQ bB cV dY ϩ (pv 4)<|Ì (î<|þ hr<|Ó (v_add (ç<|î<|Ų<|Ì ſ í)<|ç<|î<|uE eo eA gz cM<|Ø (Ã 8) ê) Ô) í) λ_ _ _ h=>jz h)<|ĥ<|C0 dZ rS rT sv sk ϊ<|Ø (Ã 4) ê) λ_=>?_;refine ϰ d39 rfl (λS _ hr hu=>Ė S (þ hr<|Ó (î<|Ĺ (Ã 0) (Ĳ<|v_var 1) aY) Ô)<|Ö (ĭ (ϳ tu mz (Ã 2) oK<|ĸ _) (ô Ĵ) ù)<|ė<|fS 2) λ_=>?_;refine ϰ d40 rfl (λS _ hr hu=>ĥ<|oq aX fT aS fR Ë (Ã 1)<|ç<|Ŀ ļ Ň gz ğ<|Ø (ç<|aD<|Ã 0) ê) λ_=>?_;refine ϰ Ud rfl (λS _ hr hu=>ĥ<|ĩ (û (ç<|aD<|Ã 0)<|Ã 1) Ë) λ_=>?_;refine ϰ Ue rfl (λS _ hr hu=>ô<|ĭ (PW.pt<|w_or (dF<|ű<|ç<|î<|þ hr<|Õ 0<|Õ 1 Ô)<|gM<|dF<|ED aX fT aS fR Ë (Ã 2)<|ç<|Ŀ ļ Ň gz ğ<|Ø (ç<|î<|þ hr<|Õ 0<|Õ 1 Ô) ê) (ô Ĵ) ù) λ_=>?_;refine ϰ Uf rfl (λS _ hr hu=>Ö (Fh S (Ŕ 0) ϓ Ġ<|ĩ (Ã 0) Ë)<|Ö (Fh S (Ŕ 0) ϓ Ġ<|ĩ (Ã 0) Ë)<|ė<|Ų<|Ì (Ĩ<|Ì đ<|Ì đ<|Ì (Ŀ (E5 rfl) E7 gz wu<|Ø (Ã 1) ê) í)<|Ì (Ĩ<|Ì (yL ky kh Ë)<|Ì đ<|Ì (yL ky kh<|ç<|Ŀ (E6 rfl) E8 gz wv<|Ø (Ã 1) ê) í)<|Ì (Ĩ<|Ì đ<|Ì đ<|Ì (Ŀ (E5 rfl) E7 gz wu<|Ø (Ã 2) ê) í)<|Ì (Ĩ<|Ì đ<|Ì (yL ky kh Ë)<|Ì (yL ky kh<|ç<|Ŀ (E6 rfl) E8 gz wv<|Ø (Ã 2) ê) í) í) λ_=>?_;refine ϰ d44 rfl (λS _ hr hu=>Ė S (Ų í)<|Ö (aM į rfl (Ŕ 0) (Ŋ S)<|ô<|ĭ (ϳ Ff (C5 hu) (Ã 2) (Ã 1)<|by with_unfolding_all rfl) (ô<|PS.wk (ϵ<|fQ bB cV dY ϩ (pv 1)<|Ì (v_var 2) í) λ_ _ _ h=>jz h) ù)<|ė<|fS 1) λ_=>?_;refine ϰ Qu rfl (λS _ hr hu=>Ė S (ś<|v_sub (û (Ã 1) Ë)<|û (Ã 0) Ë)<|Ė S (ś<|v_sub (û (Ã 0) Ë)<|û (Ã 1) Ë)<|ĥ<|Ĩ<|Ì (v_var 2)<|Ì (v_var 3)<|Ì (v_add (Ń (Ã 2)<|û (Ã 0) Ë)<|Ń (Ã 3)<|û (Ã 0) Ë) í) λ_=>?_;refine ϰ d46 rfl (λS _ hr hu=>ĥ<|iw aX aS (eZ (Ń (û (Ã 0) Ë)<|û (Ã 1) Ë)<|Ń (û (Ã 0) Ë)<|û (Ã 1) Ë) (û (Ã 0) Ë)<|ĸ _) λ_=>?_;refine ϰ d47 rfl (λS _ hr hu=>Ė S (Ų í)<|Ė S (þ hr<|Õ 0 Ô)<|Ö (aM į rfl (Ŕ 2) (Ŋ S)<|ô<|aM į rfl (Ŕ 2) (Ŋ S)<|Ė S (þ hr<|Õ 3<|Õ 4 Ô)<|ô<|ĭ (PW.pt<|w_and (jE hu (Ã 3)<|Ã 4)<|kn<|ű<|ç<|Ŀ (ii rfl) ik gz dU<|Ø (ç<|î<|bR (Ŕ 2) ϓ Ġ<|î<|þ hr<|Õ 0<|Õ 1 Ô) ê) (ô<|PS.wk (ϵ<|fQ bB cV dY ϩ (pv 1)<|Ì (v_var 5) í) λ_ _ _ h=>jz h) ù)<|ė<|fS 1) λ_=>?_;refine ϰ d48 rfl (λS _ hr hu=>ė<|kF (ç<|î<|þ hr<|Õ 0 Ô)<|ç<|î<|þ hr<|Õ 0 Ô) λ_=>?_;refine ϰ d49 rfl (λS _ hr hu=>ĥ<|Ĩ<|Ì (v_add (Ń (û (Ã 1) Ë)<|û (Ã 0) Ë)<|Ń (û (Ã 1) Ë)<|û (Ã 0) Ë)<|Ì (v_add (Ń (û (Ã 1) Ë)<|û (Ã 0) Ë)<|Ń (û (Ã 1) Ë)<|û (Ã 0) Ë) í) λ_=>?_;refine ϰ d50 rfl (λS _ hr hu=>ė<|Ų<|Ì (Ĩ<|Ì (v_var 0)<|Ì (v_var 1)<|Ì (v_var 4) í)<|Ì (Ĩ<|Ì (v_var 2)<|Ì (v_var 1)<|Ì (v_var 4) í)<|Ì (Ĩ<|Ì (v_var 2)<|Ì (v_var 3)<|Ì (v_var 4) í)<|Ì (Ĩ<|Ì (v_var 0)<|Ì (v_var 3)<|Ì (v_var 4) í) í) λ_=>?_;refine ϰ Ug rfl (λS _ hr hu=>ė<|kF (ç<|î<|þ hr<|Õ 0<|Õ 1<|Õ 2<|Õ 3<|Ó đ Ô)<|ç<|î<|þ hr<|Õ 0<|Õ 1<|Õ 2<|Õ 3<|Õ 4 Ô) λ_=>?_;refine stH Uh rfl (λS _ hr hu=>Ė S (ś<|v_mul Ë<|û (ç<|aD<|Ã 0) Ë)<|Ė S (ś<|v_mul Ë<|û (ç<|aD<|Ã 0) Ë)<|ė<|þ hr<|Ó (v_sub (Ã 1) Ë)<|Ó (v_sub (Ã 2) Ë)<|Ó (v_add (Ã 1) Ë)<|Ó (v_add (Ã 2) Ë)<|Ó (ĩ (ç<|aD<|Ã 0) Ë) Ô) λ_=>?_;refine stH Ui rfl (λS _ hr hu=>Ė S (ś<|aD<|Ã 0)<|Ė S (ś<|Ĩ<|Ì (ĩ (Ã 1) Ë)<|Ì (ĩ (Ã 1) Ë) í)<|Ė S (ś<|Ĩ<|Ì (ĩ (Ã 1) Ë)<|Ì (ĩ (Ã 1) Ë) í)<|ė<|Ų<|Ì (v_add (Ã 2)<|ç<|Ĩ<|Ì đ í)<|Ì (v_add (Ã 3)<|ç<|Ĩ<|Ì đ í)<|Ì (v_add (Ã 3)<|ç<|Ĩ<|Ì (ĩ (Ã 1) Ë) í)<|Ì (v_add (Ã 2)<|ç<|Ĩ<|Ì (ĩ (Ã 1) Ë) í) í) λ_=>?_;refine stH Uj rfl (λS _ hr hu=>Ė S (ś<|aD<|Ã 0)<|ė<|þ hr<|Ó (ĩ (Ã 1) Ë)<|Ó (ĩ (Ã 1) Ë)<|Ó (ĩ (Ã 1) Ë)<|Ó (ĩ (Ã 1) Ë)<|Ó (ĩ (Ã 1) Ë) Ô) λ_=>?_;refine stH d55 rfl (λS _ hr hu=>ė<|bR (gP<|Ĩ<|Ì đ<|Ì đ<|Ì đ í) ϓ Ġ<|tM kB kC gz gu<|Ø (ç<|î<|Ĺ (ç<|aD<|Ã 0) (Ĳ<|v_var 1)<|Ĳ<|v_add (Ã 1) Ë) ê) λ_=>?_;refine stH d56 rfl (λS _ hr hu=>Ė S (ś<|aD<|Ã 0)<|ė<|þ hr<|Ó (ĩ (Ã 1) Ë)<|Ó (ĩ (Ã 1) Ë)<|Ó (ĩ (Ã 1) Ë)<|Ó (ĩ (Ã 1) Ë)<|Ó (ĩ (Ã 1) Ë) Ô) λ_=>?_;refine ϰ d57 rfl (λS _ hr hu=>ė<|bR (gP<|î<|N3 hr<|v_var 0) ϓ Ġ<|î<|þ hr<|Õ 1<|Õ 0 Ô) λ_=>?_;refine ϰ d58 rfl (λS _ hr hu=>Ö (ĭ (ϳ fT fR (Ã 1) (Ã 0)<|ĸ _) (ĥ đ) ù)<|ĥ<|v_sub (ç<|iu Al Am Ë<|eZ (Ã 1) Ë)<|ç<|iu Al Am Ë<|Ã 0) λ_=>?_;refine ϰ d59 rfl (λS _ hr hu=>Ė S (ś đ)<|Ė S (ś<|v_sub (Ã 3) Ë)<|Ö (aM į rfl (Ŕ 0) (oy rfl<|ÿ (Ŋ S)<|ÿ (Ŋ S)<|ÿ (Ŋ S) aV)<|Ė S (ś<|v_mul (Ã 6)<|Ã 1)<|Ė S (ś<|v_sub (Ã 8)<|Ń (Ń (Ã 7)<|Ã 1)<|Ã 2)<|ô<|ĭ (ϳ BR Bz (Ã 9) Ë<|ĸ _) (ô<|xR S<|ś<|Ŀ (GB rfl) GY gz wv<|Ø (Ã 5)<|Ø (vv (Ã 10)<|Ã 9) ê)<|ô<|ĭ (ϳ fT fR (Ã 9) Ë<|ĸ _) (ô<|xR S<|ś<|Ŀ (GC rfl) GZ gz wu<|Ø (Ã 4)<|Ø (ç<|yL ky kh<|vv (Ã 10)<|ç<|yL ky kh<|Ã 9) ê)<|ô<|ĭ (ϳ fT fR (Ã 10) Ë<|ĸ _) (ĥ đ) ù)<|ė<|þ hr<|Õ 4<|Õ 5 Ô) λ_=>?_;refine ϰ d60 rfl (λS _ hr hu=>Ė S (þ hr<|Ó (î<|þ hr<|Õ 1<|Õ 2 Ô) Ô)<|Ė S (ś đ)<|Ö (aM į rfl (ņ rfl gz<|Ì (aD<|Ã 0) í) (Ŋ S)<|ô<|Fc (i:=4) S.nd rfl (aI rfl)<|iu Al Am (ç<|î<|þ hr<|Õ 3<|Ó (v_mul Ë<|û (Ã 2) Ë)<|Õ 5<|Ó (aD<|Ã 0) Ô)<|Ń (Ã 5)<|ç<|aD<|Ã 0)<|ė<|fS 4) λ_=>?_;refine ϰ d61 rfl (λS _ hr hu=>ė<|bR (gP<|aD<|Ã 0) ϓ Ġ<|î<|þ hr<|Õ 0<|Õ 2<|Õ 1 Ô) λ_=>?_;refine ϰ d62 rfl (λS _ hr hu=>Ö (ĭ (ϳ tu mz (Ã 1) oK<|ĸ _) (ė<|þ hr<|Ó đ<|Ó (v_sub (Ń (ç<|aD<|Ã 0)<|ç<|aD<|Ã 0) Ë) Ô) ù)<|Ė S (ś đ)<|Ö (aM į rfl (gP<|î<|þ hr<|Õ 0<|Õ 1 Ô) (Ŋ S)<|ô<|Fc (i:=2) S.nd rfl (aI rfl)<|v_var 3)<|ė<|fS 2) λ_=>?_;refine ϰ d63 rfl (λS _ hr hu=>Ö (Af<|î<|þ hr<|Õ 0<|Ó (ĩ (Ã 1) Ë)<|Ó (ĩ (Ã 1) Ë) Ô)<|Ė S (þ hr<|Õ 0<|Ó (ĩ (ç<|î<|þ hr<|Õ 0<|Ó (ĩ (Ã 1) Ë) Ô)<|û (Ã 1) Ë) Ô)<|Ė S (ś<|aD<|Ã 0)<|Ė S (bR (ņ rfl gz<|Ì (v_mul (Ã 3)<|ç<|aD<|Ã 0) í) ϓ Ġ<|JX (ű<|ç<|iu BP BQ (ç<|iu EN EO (Ã 0)<|Ã 1) Ë) ſ ſ)<|ĥ<|C0 dZ rS rT sv sk ϊ<|Ø (ç<|î<|bR (ņ rfl gz<|Ì (aD<|Ã 0) í) ϓ Ġ<|C0 dZ rS rT sv sk ϊ<|Ø (ç<|î<|Ĺ (Ã 0) (Ĳ<|v_mul (Ã 2)<|Ã 1)<|Ĳ<|v_add (Ń (Ã 2)<|Ã 1)<|Ã 1) ê) ê) λ_=>?_;refine ϰ d64 rfl (λS _ hr hu=>ĥ<|v_and (oq aX fT aS fR Ë (û (Ã 1) Ë)<|ç<|aD<|Ã 0)<|gO<|oq aX fT aS fR Ë (û (Ã 1) Ë)<|ç<|aD<|Ã 0) λ_=>?_;refine ϰ d65 rfl (λS _ hr hu=>ô<|ĭ (dF<|ű<|ç<|î<|þ hr<|Õ 0<|Õ 1 Ô) (ô Ĵ) ù) λ_=>?_;refine ϰ d66 rfl (λS _ hr hu=>Ö (aM į rfl (Km rfl gz<|Nh 0) (oy rfl<|ÿ (Ŋ S)<|ÿ (Ŋ S) aV)<|ô<|ĭ (ű<|ç<|iu BP BQ (ç<|iu EN EO (Ã 3)<|Ã 1) Ë) (ė<|fS 2) ù)<|ĥ pU) λ_=>?_;refine ϰ d67 rfl (λS _ hr hu=>Ė S (þ hr<|Õ 0<|Õ 1 Ô)<|ė<|bR (ņ rfl gz<|Ì (v_mul (ç<|aD<|Ã 0)<|ç<|aD<|Ã 0) í) ϓ Ġ<|î<|þ hr<|Õ 0<|Õ 1 Ô) λ_=>?_;refine ϰ d68 rfl (λS _ hr hu=>ė<|kF (Ń (û (Ã 0) Ë)<|Ã 1)<|û (Ã 0) Ë) λ_=>?_;refine ϰ d69 rfl (λS _ hr hu=>Ė S (ś<|Ĩ<|Ì (ĩ (Ã 1) Ë)<|Ì (ĩ (Ã 1) Ë) í)<|Ö (Af<|î<|þ hr<|Õ 0<|Õ 2 Ô)<|Ö (Af<|î<|þ hr<|Õ 0<|Ó (ĩ (Ã 1) Ë)<|Ó (ĩ (Ã 1) Ë) Ô)<|Ė S (ś<|ĩ (ç<|î<|þ hr<|Õ 0<|Ó (ĩ (Ã 1) Ë) Ô)<|û (Ã 1) Ë)<|Ö (ĭ (ϳ tu mz (Ã 3) oK<|ĸ _) (ĥ ſ) ù)<|Ė S (ś<|ĩ (ç<|î<|þ hr<|Õ 0<|Õ 3 Ô)<|ç<|î<|þ hr<|Õ 2<|Ó (aD<|Ã 0) Ô)<|ĥ<|JX (ϳ tu mz (Ã 4) oK<|ĸ _) ſ<|tM sC sD gz rk<|Ø (Ã 4) ê) λ_=>?_;refine ϰ d70 rfl (λS _ hr hu=>ĥ<|ĩ (û (ç<|aD<|Ã 0)<|Ã 1) Ë) λ_=>?_;refine ϰ d71 rfl (λS _ hr hu=>Ö (aM į rfl (ņ rfl gz<|Ì (Ŀ ļ Ň gz ğ<|Ø (ç<|aD<|Ã 0) ê) í) (Ŋ S)<|ô<|ĭ (du hu (ç<|î<|þ hr<|Õ 0<|Õ 2 Ô)<|Ã 1) (ė<|fS 2) ù)<|ô Ĵ) λ_=>?_;refine ϰ d72 rfl (λS _ hr hu=>Ö (ĭ (ϳ (Hv (nm:="ROWS") rfl) (Ht<|by assumption) (û (Ã 1) Ë) (ç N5)<|by with_unfolding_all rfl) (ô Ĵ) ù)<|Ė S (ś<|Mz (Hw (nm:="ROWS") rfl) (KQ<|by assumption) (ç N5) (û (Ã 1) Ë)<|λ_ _=>rfl)<|Ė S (Ĺ (Ã 1) (Ĳ đ)<|Ĳ<|v_add Ë<|û (Ã 2) Ë)<|Ö (ĭ (jE hu (ç<|Ŀ ļ Ň gz ğ<|Ø (Ã 1) ê)<|eZ (eZ Ë<|û (Ã 2) Ë)<|û (Ã 2) Ë) (ô Ĵ) ù)<|Ė S (þ hr<|Õ 1<|Ó (v_add Ë<|û (Ã 2) Ë) Ô)<|ė<|TJ hr (ĩ (Ã 2) Ë)<|Õ 0<|Ó (v_add (ç<|î<|bR (Ŕ 3) ϓ Ġ<|î<|þ hr<|Õ 0<|Õ 1 Ô)<|Ã 4) Ô) λ_=>?_;refine ϰ d73 rfl (λS _ hr hu=>Ö (ĭ (ϳ fT fR (ç<|Ŀ ļ Ň gz ğ<|Ø (Ã 1) ê) Ë<|ĸ _) (ô Ĵ) ù)<|Ė S (þ hr<|Õ 1<|Ó đ Ô)<|Ö (ĭ (du hu (ç<|Ŀ ļ Ň gz ğ<|Ø (ç<|aD<|Ã 0) ê)<|ç mR) (ô Ĵ) ù)<|ĥ<|xZ hr<|Ó (aD<|Ã 0)<|Ó (aD<|Ã 0)<|Ó (v_add (ç<|aD<|Ã 0)<|ç<|î<|Ų<|Ì (î<|þ hr<|Ó (ĩ (Ã 1) Ë)<|Õ 2 Ô) í)<|Ó (aD<|Ã 0) Ô) λ_=>?_;refine ϰ d74 rfl (λS _ hr hu=>Ö (ĭ (jE hu (ç<|Ŀ ļ Ň gz ğ<|Ø (Ã 1) ê) Ë) (ô Ĵ) ù)<|Ė S (ś<|ĩ (ç<|î<|þ hr<|Õ 1<|Ó đ Ô) Ë)<|Ö (ĭ (dF<|ED aX fT aS fR Ë (Ã 2)<|ç<|Ŀ ļ Ň gz ğ<|Ø (ç<|aD<|Ã 0) ê) (ô Ĵ) ù)<|ĥ<|xZ hr<|Ó (aD<|Ã 0)<|Ó (aD<|Ã 0)<|Ó (v_add (ç<|î<|Ĺ (ç<|aD<|Ã 0) aY<|Ĳ<|v_var 2)<|ç<|î<|Ĺ (ç<|aD<|Ã 0) (Ĳ<|v_add (Ã 2) Ë) aY)<|Ó (aD<|Ã 0) Ô) λ_=>?_;refine stH d75 rfl (λS _ hr hu=>Ė S (Hq dZ ji rQ oO oN (Ã 1)<|Ø ϊ ê)<|Ö (ĭ (du hu (û (Ã 2) Ë) ϊ) (Ö Ĵ<|ĥ ſ) ù)<|Ö (ĭ (du hu (û (Ã 2) Ë) ϊ) (Ö Ĵ<|ĥ ſ) ù)<|ė<|þ hr<|Ó (aD<|Ã 0)<|Õ 2 Ô) λ_=>?_;refine ϰ d76 rfl (λS _ hr hu=>Ö (aM į rfl (gP<|î<|þ hr<|Õ 0 Ô) (Ŋ S)<|ô<|ĭ (dF<|ű<|ç<|î<|þ hr<|Õ 2<|Õ 1 Ô) (ė<|fS 2) ù)<|ĥ pU) λ_=>?_;refine ϰ d77 rfl (λS _ hr hu=>Ė S (Ų í)<|Ö (aM į rfl (ņ rfl gz<|Ì (v_var 0) í) (Ŋ S)<|ô<|PS.wk (ϵ<|fQ bB wL Bf uR (pv 1)<|Ϩ (bR (ņ rfl gz<|Ì (v_var 2) í) ϓ Ġ<|Ĩ<|Ì (v_var 1)<|Ì (v_var 0) í) cu) λ_ _ _ h=>B3 h)<|ė<|fS 1) λ_=>?_;refine ϰ d78 rfl (λS _ hr hu=>Ė S (Ų í)<|Ö (aM į rfl (ņ rfl gz<|Ì (v_var 0) í) (Ŋ S)<|ô<|PS.wk (ϵ<|fQ bB wL Bf uR (pv 1)<|Ϩ (bR (gP<|î<|þ hr<|Õ 2 Ô) ϓ Ġ<|Ĩ<|Ì (ĩ (Ã 1) Ë)<|Ì (ĩ (Ã 1) Ë)<|Ì (v_var 0) í) cu) λ_ _ _ h=>B3 h)<|ė<|fS 1) λ_=>?_;refine ϰ d79 rfl (λS _ hr hu=>Ö (BM į (jE hu (Ã 1) Ë)<|Ė S (ś<|v_mod (Ã 0)<|Ã 1)<|Ė S (ś<|v_var 1)<|ô<|xR S<|ś<|v_var 2)<|ĥ<|Ŀ xv xI gz rj<|Ø (Ã 0) ê) λ_=>?_;refine ϰ d80 rfl (λS _ hr hu=>Ö (ĭ (du hu (Ã 1) Ë) (ô Ĵ) ù)<|Ė S (þ hr<|Õ 0<|Õ 1 Ô)<|Ö (ĭ (ϳ fT fR (Ã 1) Ë<|ĸ _) (ô<|xR S<|ś<|yL ky kh<|Ã 2) ù)<|ĥ<|Ĩ<|Ì (zg (Ã 0)<|Ã 2)<|Ì (zg (Ã 1)<|Ã 2) í) λ_=>?_;refine ϰ d81 rfl (λS _ hr hu=>Ė S (ś<|Ŀ (xK rfl) xL gz rl<|Ø (Ã 0) ê)<|Ö (Fh S (ņ rfl gz<|Ì (v_var 2) í) ϓ Ġ<|î<|þ hr<|Ó đ<|Õ 0 Ô)<|Ö (aM į rfl (Nl rfl gz (Ip 0)<|Ip 1) (oy rfl<|ÿ (Ŋ S)<|ÿ (Ŋ S) aV)<|ô<|GP (i:=4) (î<|þ hr<|Õ 5<|Õ 3 Ô) (v_var 6)<|pv 4)<|ė<|fS 4) λ_=>?_;refine ϰ d82 rfl (λS _ hr hu=>Ė S (ś<|v_mul (oM (û (Ã 1) Ë)<|û (Ã 0) Ë)<|oM (û (Ã 2) Ë)<|û (Ã 0) Ë)<|ĥ<|v_sub (Ã 3)<|Ń (oM (û (Ã 1) Ë)<|û (Ã 0) Ë)<|oM (û (Ã 2) Ë)<|û (Ã 0) Ë) λ_=>?_;refine ϰ d83 rfl (λS _ hr hu=>Ė S (ś<|ĩ (Ã 0) Ë)<|Ė S (ś<|ĩ (Ã 0) Ë)<|Ė S (ś<|ĩ (Ã 0) Ë)<|ė<|Ų<|Ì (î<|þ hr<|Õ 1<|Õ 3<|Õ 4 Ô)<|Ì (î<|þ hr<|Õ 2<|Õ 1<|Õ 4 Ô)<|Ì (î<|þ hr<|Õ 2<|Õ 3<|Õ 1 Ô) í) λ_=>?_;refine ϰ d84 rfl (λS _ hr hu=>Ė S (ś<|Ŀ (xK rfl) xL gz rl<|Ø (Ã 0) ê)<|ĥ<|v_and (iw ET (Ac hu) (Ã 1) Ë<|ĸ _)<|gO<|Ŀ (ii rfl) ik gz dU<|Ø (ç<|î<|bR (Ŕ 0) ϓ Ġ<|iw MJ Mp (Ń (Ã 1)<|Ã 0) Ë<|ĸ _) ê) λ_=>?_;refine ϰ d85 rfl (λS _ hr hu=>Ė S (ś<|v_sub (û (û (Ã 0) Ë) Ë)<|û (û (Ã 0) Ë) Ë)<|Ė S (ś<|v_sub (û (û (Ã 0) Ë) Ë)<|û (û (Ã 0) Ë) Ë)<|Ė S (kF (Ń (Ã 2)<|oM (û (Ã 1) Ë)<|û (û (Ã 0) Ë) Ë)<|Ń (Ã 3)<|oM (û (Ã 1) Ë)<|û (û (Ã 0) Ë) Ë)<|ė<|Ų<|Ì (v_sub (eZ (Ń (Ã 2)<|Ã 2)<|Ń (Ã 3)<|Ã 3)<|Ã 4)<|Ì (v_var 4) í) λ_=>?_;refine ϰ d86 rfl (λS _ hr hu=>Ė S (ś<|Ŀ ļ Ň gz ğ<|Ø (Ã 0) ê)<|Ö (aM į rfl (gP<|î<|þ hr<|Õ 2 Ô) (Ŋ S)<|Ė S (þ hr<|Ó (î<|bR (Ŕ 3) ϓ Ġ<|ĩ (Ã 0)<|Ã 1)<|Õ 1 Ô)<|ô<|ĭ (ű<|ç<|î<|þ hr<|Õ 4 Ô) (ė<|þ hr<|Õ 4<|Õ 3<|Õ 2 Ô) ù)<|Ö (aM į rfl (gP<|î<|þ hr<|Õ 2 Ô) (Ŋ S)<|Ė S (þ hr<|Ó (î<|bR (Ŕ 3) ϓ Ġ<|ĩ (Ã 0)<|Ã 1)<|Õ 1 Ô)<|ô<|ĭ (ű<|ç<|î<|þ hr<|Õ 4 Ô) (ė<|þ hr<|Õ 4<|Õ 3<|Õ 2 Ô) ù)<|ė<|þ hr<|Ó (î<|Ų<|Ì đ í)<|Ó (î<|Ų<|Ì đ í)<|Õ 2 Ô) λ_=>?_;refine ϰ d87 rfl (λS _ hr hu=>Ė S (þ hr<|Õ 0<|Õ 1 Ô)<|Ö (ĭ (ϳ tu mz (Ã 2) oK<|ĸ _) (ĥ<|Ĩ<|Ì ſ<|Ì (î<|þ hr<|Õ 0<|Õ 1 Ô) í) ù)<|ĥ<|Ĩ<|Ì ſ<|Ì (v_var 2) í) λ_=>?_;refine ϰ d88 rfl (λS _ hr hu=>ė<|þ hr<|Ó (Ĩ<|Ì (v_mul Ë<|û (Ã 0) Ë)<|Ì (v_mul Ë<|û (Ã 0) Ë)<|Ì đ í)<|Õ 1 Ô) λ_=>?_;refine ϰ d89 rfl (λS _ hr hu=>ė<|þ hr<|Ó (î<|þ hr<|Õ 0<|Õ 2 Ô)<|Ó (î<|þ hr<|Õ 1<|Õ 2 Ô) Ô) λ_=>?_;refine ϰ d90 rfl (λS _ hr hu=>ĥ<|v_and (Ŀ mM mN gz je<|Ø (Ã 0)<|Ø (ç<|BI (.ty "int")<|jo (v:=.ty "int") rfl gz wt rfl) ê)<|gO<|v_not<|Ŀ mM mN gz je<|Ø (Ã 0)<|Ø (ç<|BI (.ty "bool")<|jo (v:=.ty "bool") rfl gz A6 rfl) ê) λ_=>?_;refine ϰ d91 rfl (λS _ hr hu=>Ö (ĭ (PW.pt<|w_or (dF<|ű<|ç<|Ŀ mM mN gz je<|Ø (Ã 0)<|Ø (ç<|BI (.ty "list")<|jo (v:=.ty "list") rfl gz cM rfl) ê)<|gM<|jE hu (ç<|Ŀ ļ Ň gz ğ<|Ø (Ã 0) ê)<|ç<|Ŀ ļ Ň gz ğ<|Ø (Ã 1) ê) (ĥ oo) ù)<|Ė S (ś đ)<|Ö (aM į rfl (Ŕ 0) (Ŋ S)<|Ö (ĭ (PW.pt<|w_or (dF<|ű<|ç<|Ŀ mM mN gz je<|Ø (Ã 4)<|Ø (ç<|BI (.ty "tuple")<|jo (v:=.ty "tuple") rfl gz gu rfl) ê)<|w_or (jE hu (ç<|Ŀ ļ Ň gz ğ<|Ø (Ã 4) ê) Ë)<|w_or (dF<|ű<|ç<|î<|þ hr<|Ó (ĩ (Ã 4) Ë) Ô)<|gM<|dF<|ű<|ç<|î<|þ hr<|Ó (ĩ (Ã 4) Ë) Ô) (ĥ oo) ù)<|Ö (ĭ (PW.pt<|w_or (ϳ fT fR (û (Ã 4) Ë) Ë<|ĸ _)<|gM<|ϳ fT fR (û (Ã 4) Ë) Ë<|ĸ _) (ĥ oo) ù)<|ô<|xR S<|ś<|v_mul (Ã 3)<|û (Ã 4) Ë)<|Ė S (bR (Ŕ 0) ϓ Ġ<|v_mul (û (Ã 1) Ë)<|vv (Ã 0)<|û (Ã 1) Ë)<|Ö (aM į rfl (ņ rfl gz<|Ì đ í) (Ŋ S)<|ô<|ĭ (jE hu (ç<|Ŀ (xK rfl) xL gz rl<|Ø (ç<|î<|bR (ņ rfl gz<|Ì (Ŀ ļ Ň gz ğ<|Ø (Ã 1) ê) í) ϓ Ġ<|v_mul (û (Ã 0)<|Ã 3)<|û (û (Ã 2)<|Ã 3)<|Ã 1) ê)<|Ń (Ã 3)<|û (Ã 2)<|Ã 6) (ĥ oo) ù)<|ĥ<|v_eq hu (ç<|Ŀ (xK rfl) xL gz rl<|Ø (Ã 5) ê)<|Ã 3) λ_=>?_;refine ϰ d92 rfl (λS _ hr hu=>Ö (ĭ (PW.pt<|w_or (dF<|ű<|ç<|Ŀ mM mN gz je<|Ø (Ã 0)<|Ø (ç<|BI (.ty "tuple")<|jo (v:=.ty "tuple") rfl gz gu rfl) ê)<|w_or (jE hu (ç<|Ŀ ļ Ň gz ğ<|Ø (Ã 0) ê) Ë)<|gM<|dF<|ű<|ç<|Ŀ (ii rfl) ik gz dU<|Ø (ç<|î<|bR (Ŕ 0) ϓ Ġ<|î<|þ hr<|Õ 0 Ô) ê) (ĥ oo) ù)<|Ö (pV (v_var 0)<|pZ rfl<|ÿ (Ŋ S)<|ÿ (Ŋ S)<|ÿ (Ŋ S) aV)<|ĥ<|v_and (iw BR Bz (eZ (Ń (Ã 3)<|û (Ã 2) Ë)<|Ń (Ã 4)<|û (Ã 2) Ë) (Ã 5)<|ĸ _)<|gO<|Ŀ (ii rfl) ik gz dU<|Ø (ç<|î<|bR (Ŕ 1) (oy rfl<|ÿ ϓ<|ÿ ϓ aV) Ġ<|iw aX aS (eZ (Ń (Ã 1)<|Ã 3)<|Ń (Ã 2)<|Ã 4) (Ã 0)<|ĸ _) ê) λ_=>?_;refine ϰ d93 rfl (λS _ hr hu=>Ė S (Ų<|Ì (Ĩ<|Ì (v_var 0)<|Ì (v_var 1) í)<|Ì (Ĩ<|Ì (v_var 2)<|Ì (v_var 1) í)<|Ì (Ĩ<|Ì (v_var 2)<|Ì (v_var 3) í)<|Ì (Ĩ<|Ì (v_var 0)<|Ì (v_var 3) í) í)<|ė<|kF (ç<|î<|bR (Ŕ 6) (oy rfl<|ÿ ϓ<|ÿ ϓ aV) Ġ<|Ĩ<|Ì (v_var 1)<|Ì (v_var 2)<|Ì (v_var 0) í)<|ç<|î<|bR (Ŕ 6) (oy rfl<|ÿ ϓ<|ÿ ϓ aV) Ġ<|Ĩ<|Ì (v_var 1)<|Ì (v_var 2)<|Ì (v_var 0) í) λ_=>?_;refine ϰ d94 rfl (λS _ hr hu=>Ė S (Ĺ (Ã 0) (Ĳ đ) aY)<|Ö (ĭ (du hu (û (Ã 0) Ë) ϊ) (Ö (pV (v_var 1)<|pZ rfl<|ÿ (Ŋ S)<|ÿ (Ŋ S)<|ÿ (Ŋ S) aV)<|ė<|þ hr<|Ó (v_sub (Ń Ë<|Ã 2) Ë)<|Ó (v_sub (Ń Ë<|Ã 3) Ë)<|Ó (v_add (Ń Ë<|Ã 2) Ë)<|Ó (v_add (Ń Ë<|Ã 3) Ë)<|Ó đ<|Õ 4 Ô) ù)<|Ö (ĭ (du hu (û (Ã 0) Ë) ϊ) (Ö (pV (v_var 1)<|pZ rfl<|ÿ (Ŋ S)<|ÿ (Ŋ S)<|ÿ (Ŋ S)<|ÿ (Ŋ S)<|ÿ (Ŋ S) aV)<|ė<|þ hr<|Õ 5<|Õ 6<|Õ 7<|Õ 8<|Ó đ<|Õ 4 Ô) ù)<|Ö (ĭ (du hu (û (Ã 0) Ë) ϊ) (Ö (pV (v_var 1)<|pZ rfl<|ÿ (Ŋ S)<|ÿ (Ŋ S)<|ÿ (Ŋ S)<|ÿ (Ŋ S)<|ÿ (Ŋ S) aV)<|ė<|Ĺ (ç<|î<|þ hr<|Õ 5<|Õ 6<|Õ 7<|Õ 8<|Õ 4<|Õ 4 Ô) aY<|Ĳ đ) ù)<|Ö (ĭ (du hu (û (Ã 0) Ë) ϊ) (Ö (pV (v_var 1)<|pZ rfl<|ÿ (Ŋ S)<|ÿ (Ŋ S)<|ÿ (Ŋ S)<|ÿ (Ŋ S)<|ÿ (Ŋ S) aV)<|ė<|Ų<|Ì (Ĩ<|Ì (v_var 5)<|Ì (v_var 6)<|Ì đ í)<|Ì (Ĩ<|Ì (v_var 7)<|Ì (v_var 8)<|Ì đ í)<|Ì (Ĩ<|Ì (v_var 7)<|Ì (v_var 8)<|Ì (v_var 4) í)<|Ì (Ĩ<|Ì (v_var 5)<|Ì (v_var 6)<|Ì (v_var 4) í) í) ù)<|ė<|Ų<|Ì (tM kB kC gz gu<|Ø (ç<|î<|Ĺ (Ã 1) aY<|Ĳ đ) ê)<|Ì (tM kB kC gz gu<|Ø (ç<|î<|Ĺ (Ã 1) (Ĳ đ)<|Ĳ đ) ê)<|Ì (tM kB kC gz gu<|Ø (ç<|î<|Ĺ (Ã 1) (Ĳ đ) aY) ê) í) λ_=>?_;refine ϰ d95 rfl (λS _ hr hu=>Ö (pV (v_var 1)<|pZ rfl<|ÿ (Ŋ S)<|ÿ (Ŋ S)<|ÿ (Ŋ S) aV)<|ė<|bR (gP<|î<|þ hr<|Õ 0 Ô) (oy rfl<|ÿ ϓ<|ÿ ϓ<|ÿ ϓ aV) Ġ<|Ĩ<|Ì (v_add (Ń (Ã 0)<|Ã 3)<|Ń (Ã 1)<|Ã 5)<|Ì (v_add (Ń (Ã 0)<|Ã 4)<|Ń (Ã 2)<|Ã 5) í) λ_=>?_;refine ϰ d96 rfl (λS _ hr hu=>Ė S (ś<|Ĩ<|Ì (v_mul (Ń Ë<|û (Ã 2) Ë)<|û (Ã 1) Ë)<|Ì (v_mul (Ń Ë<|û (Ã 2) Ë)<|û (Ã 1) Ë) í)<|Ė S (þ hr<|Ó (î<|þ hr<|Ó (ĩ (Ã 0) Ë)<|Ó (î<|Ĺ (Ã 0) (Ĳ đ) aY) Ô)<|Õ 1<|Õ 2 Ô)<|Ö (ĭ (PW.pt<|w_or (dF<|ű<|ç<|Ŀ mM mN gz je<|Ø (Ã 4)<|Ø (ç<|BI (.ty "tuple")<|jo (v:=.ty "tuple") rfl gz gu rfl) ê)<|gM<|jE hu (ç<|Ŀ ļ Ň gz ğ<|Ø (Ã 4) ê) Ë) (ĥ pU) ù)<|Ö (ĭ (PW.pt<|w_and (du hu (û (Ã 4) Ë) ϊ)<|kn<|ű<|ç<|î<|þ hr<|Ó (ĩ (Ã 4) Ë)<|Ó (î<|þ hr<|Õ 0<|Õ 2 Ô)<|Õ 3 Ô) (ĥ oo) ù)<|Ö (ĭ (PW.pt<|w_and (du hu (û (Ã 4) Ë) ϊ)<|kn<|ű<|ç<|î<|þ hr<|Ó (ĩ (Ã 4) Ë)<|Ó (î<|þ hr<|Õ 0<|Õ 2 Ô)<|Õ 3 Ô) (ĥ oo) ù)<|ĥ pU) λ_=>?_;refine ϰ d97 rfl (λS _ hr hu=>ĥ<|v_eq hu (û (ç<|î<|þ hr<|Õ 0<|Õ 1<|Õ 2 Ô) Ë) ϊ) λ_=>?_;refine ϰ d98 rfl (λS _ hr hu=>Ö (Fh S (Ŕ 0) ϓ Ġ<|î<|þ hr<|Õ 2<|Õ 0<|Õ 1 Ô)<|Ö (ĭ (ϳ ua (t_ hu) oK (Ã 3)<|by with_unfolding_all rfl) (ĥ ſ) ù)<|Ö (aM į rfl (ņ rfl gz<|Ì (Ŀ ļ Ň gz ğ<|Ø (Ã 0) ê) í) (Ŋ S)<|Ė S (þ hr<|Ó (î<|þ hr<|Ó (ĩ (û (Ã 0)<|Ã 4) Ë)<|Ó (î<|Ĺ (û (Ã 0)<|Ã 4) (Ĳ đ) aY) Ô)<|Õ 1<|Õ 2 Ô)<|ô<|ĭ (PW.pt<|w_or (dF<|ű<|ç<|Ŀ mM mN gz je<|Ø (Ã 5)<|Ø (ç<|BI (.ty "bool")<|jo (v:=.ty "bool") rfl gz A6 rfl) ê)<|gM<|jE hu (Ã 5)<|û (Ã 3)<|Ã 4) (ĥ ſ) ù)<|Ö (ĭ (ϳ ua (t_ hu) (ç oo) (Ã 3)<|by with_unfolding_all rfl) (ĥ<|tM sC sD gz rk<|Ø (ç<|Nw bB Bc PySem.F.type_list_index C7 (C6 hu) (Ã 3)<|Ø (ç oo) ê) ê) ù)<|ĥ ſ) λ_=>?_;refine ϰ d99 rfl (λS _ hr hu=>Ė S (Hq dZ ji rQ oO oN (ç<|î<|N2 hr (v_var 0)<|Ó (v_add ϊ<|ç<|tM sC sD gz rk<|Ø (Ã 4) ê) Ô)<|Ø ϊ ê)<|Ö (ĭ (jE hu (ç<|Ŀ ļ Ň gz ğ<|Ø (Ã 5) ê)<|û (Ã 2) Ë) (ĥ oo) ù)<|Ö (aM į rfl (ņ rfl gz<|Ì (ĩ (Ã 2) Ë) í) (Ŋ S)<|ô<|aM į rfl (ņ rfl gz<|Ì (ĩ (Ã 2) Ë) í) (Ŋ S)<|Ė S (ś ſ)<|Ö (ĭ (ϳ EU Gk (Ã 3) oK<|ĸ _) (ô<|xR S<|þ hr<|Õ 1<|Ó (Ĩ<|Ì (v_var 7)<|Ì (v_var 6) í)<|Õ 3 Ô) ù)<|Ö (ĭ (PW.pt<|w_or (jE hu (ç<|î<|Ĺ (û (Ã 5)<|Ã 6) (Ĳ<|v_var 7)<|Ĳ<|v_add (Ã 7) Ë)<|û (ç<|î<|Ų<|Ì ſ<|Ì ſ í)<|ç<|tM Cd Ce gz wt<|Ø (ç<|v_eq hu (Ã 8) ϊ) ê)<|gM<|jE hu (ç<|Ŀ ļ Ň gz ğ<|Ø (û (Ã 5)<|Ã 6) ê)<|û (Ã 2) Ë) (ĥ oo) ù)<|ô<|ĭ (jE hu (ç<|î<|N2 hr (v_var 0)<|Ó (î<|þ hr<|Ó (î<|Ų<|Ì ſ<|Ì ſ<|Ì (v_var 4)<|Ì (v_var 7)<|Ì (v_var 6) í) Ô) Ô)<|Ã 8) (ĥ oo) ù)<|ĥ oo) λ_=>?_;refine stL Uk rfl<|λS _ hr hu=>Ė S (ś<|Ĩ<|Ì (v_add Ë<|ų (ç<|î<|þ hr<|Õ 0<|Ó đ Ô) Ë)<|Ì (v_add Ë<|ų (vv (ç<|î<|þ hr<|Õ 0<|Ó đ Ô) Ë) Ë) í)<|Ė S (þ hr<|Õ 0<|Ó đ Ô)<|Ė S (bR (ņ rfl gz<|Ì (v_mod (Ã 2) Ë) í) ϓ Ġ<|î<|þ hr<|Ó (v_add (ç<|î<|þ hr<|Õ 2<|Ó (v_add Ë<|Ã 3) Ô)<|Ã 0)<|Ó (ĩ (Ã 1) Ë)<|Ó (ĩ (Ã 1) Ë) Ô)<|Ė S (bR (ņ rfl gz<|Ì (v_add Ë<|ų (vv (Ã 2) Ë) Ë) í) ϓ Ġ<|î<|þ hr<|Ó (v_add (ç<|î<|þ hr<|Õ 0<|Ó (v_add Ë<|Ã 2) Ô)<|vv (Ã 1) Ë) Ô)<|Ė S (ś<|xZ hr<|Ó (î<|þ hr<|Ó (ĩ (Ã 1) Ë)<|Ó (ĩ (Ã 1) Ë)<|Õ 3<|Ó (î<|Ų<|Ì (Ĩ<|Ì ſ<|Ì đ<|Ì (v_var 4) í) í) Ô) Ô)<|ĥ<|Ŀ (ii rfl) ik gz dU<|Ø (ç<|î<|bR (ņ rfl gz<|Ì (Ŀ ļ Ň gz ğ<|Ø (Ã 4) ê) í) ϓ Ġ<|î<|þ hr<|Õ 0<|Õ 1<|Õ 2<|Ó (ĩ (Ã 3)<|Ã 4)<|Õ 4 Ô) ê
end
@[simp high]theorem Z5V{a b:PV}:pc [a,b] 0=some a:=rfl
@[simp high]theorem Z5W{a b:PV}:pc [a,b] 1=some b:=rfl
@[simp high]theorem Z5X{a b c:PV}:pc [a,b,c] 0=some a:=rfl
@[simp high]theorem Z5Y{a b c:PV}:pc [a,b,c] 1=some b:=rfl
@[simp high]theorem Z5Z{a b c:PV}:pc [a,b,c] 2=some c:=rfl
def pt(p:Hu.Pt):PV:=.tup [.int p.1,.int p.2]
def gj(l:Hu.Ln):PV:=.tup [.int l.1,.int l.2.1,.int l.2.2]
def Sm(p:Hu.Pt):Prop:=-100000000000000000<=p.1/\p.1<=100000000000000000/\ -100000000000000000<=p.2/\p.2<=100000000000000000
def FP(l:Hu.Ln):Prop:=-1000000000000000000<=l.1/\l.1<=1000000000000000000/\ -1000000000000000000<=l.2.1/\l.2.1<=1000000000000000000
def WD{x y:Hu.Pt}:aE (pt y) (pt x)=decide (y=x):=by obtain⟨a,b⟩:=x;obtain⟨c,d⟩:=y;unfold pt;rw[Kq,gp];simp
def Qv(x:Hu.Pt):ŭ (pt x)=true:=by simp[pt,ŭ,ϻ]
def Ul(x:Hu.Pt):qh (pt x)=1:=by simp[pt,qh,pA]
def Z4B(S:List Hu.Pt):ϻ (S.map pt)=true:=by
 induction S with
 |nil=>simp[ϻ]|cons p S ih=>simp[ϻ,Qv,ih]
theorem WE(x:Hu.Pt):∀k:List Hu.Pt,(k.map pt).any (λy=>aE y<|pt x)=decide (x∈k)
 |[]=>by simp|y::k=>by
  rw[á,jb,WE x k,WD,gp];simp;constructor
  ·rintro (e|e)
   ·exact .inl e.symm
   ·exact .inr e
  ·rintro (e|e)
   ·exact .inl e.symm
   ·exact .inr e
def WF(x:Hu.Pt)(k:List Hu.Pt):Cs true (pt x) (.lst<|k.map pt)=some (.bl<|!decide (x∈k)):=by unfold Cs;simp only[Qv,Z4B,Ul,WE];rfl
def Um(x y:Hu.Pt):ϲ (pt x) (pt y)=some (.bl<|!decide (x=y)):=by unfold ϲ tj;rw[Qv,Qv,Ul,Ul,WD];rfl
def Z3Z{a b:Hu.Pt}(ha:Sm a)(hb:Sm b):dh [.sh<|pt a,.sh<|pt b]=.ret (.sh<|gj<|Hu.Z4 a b):=by obtain⟨a1,a2,a3,a4⟩:=ha;obtain⟨b1,b2,b3,b4⟩:=hb;have m1:Ě (b.2-a.2) a.1=true:=œ (by lia) (by lia);have m2:Ě (a.1-b.1) a.2=true:=œ (by lia) (by lia);simp[dh,jY,Ù,pt,gj,Hu.Z4,m1,m2]
def WG{l:Hu.Ln}(hl:FP l)(p:Hu.Pt):jM [.sh<|gj l,.sh<|pt p]=.ret (.sh<|.bl<|Hu.hd l p):=by obtain⟨a1,a2,a3,a4⟩:=hl;have m1:Ě l.1 p.1=true:=œ (by lia) (by lia);have m2:Ě l.2.1 p.2=true:=œ (by lia) (by lia);simp[jM,zt,pt,gj,Hu.hd,m1,m2]
def WH{a b:Hu.Pt}(ha:Sm a)(hb:Sm b):FP (Hu.Z4 a b):=by obtain⟨a1,a2,a3,a4⟩:=ha;obtain⟨b1,b2,b3,b4⟩:=hb;simp only[FP,Hu.Z4];lia
def Sl(s:Ű)(ps:List PV):Prop:=s=.sh (.lst ps)\/s=.bw ps
def Sl.lend{s:Ű}{ps:List PV}(h:Sl s ps):eM s=some s:=by rcases h with rfl|rfl<;>rfl
def Sl.it{s:Ű}{ps:List PV}(h:Sl s ps){i:Nat}{U:ċ}(e:U[i]?=some s):ı i U=.ok ps U:=by
 rcases h with rfl|rfl<;>simp[e]
def Z40{S:List Hu.Pt}{sl:Ű}(hs:Sl sl (S.map pt))(hl:S.length<=1000):h_ [sl]=.ret (.ow<|(Hu.Z5 S).map pt):=by
 have hlen:∀(xs k:List Hu.Pt),(xs.foldl (λk x=>if x∈k then k else k++[x]) k).length<=k.length+xs.length:=by
  intro xs
  induction xs with
  |nil=>intro k;simp|cons x xs ih=>
   intro k;rw[ϡ];refine ř (ih _) ?_;split
   ·simp
   ·simp;lia
 have key:∀(xs:List Hu.Pt) (k:List Hu.Pt) (s2:Ű),k.length+xs.length<=1000->∃OX,ĺ (gN 2) bJ (xs.map pt) [sl,.ow<|k.map pt,s2]=.ok .nx [sl,.ow<|(xs.foldl (λk x=>if x∈k then k else k++[x]) k).map pt,OX]:=by
  intro xs
  induction xs with
  |nil=>intro k s2 _;exact⟨s2,rfl⟩|cons x xs ih=>
   intro k s2 hk;rw[Ę]at hk;by_cases hx:x∈k
   ·obtain⟨OX,e⟩:=ih k (.sh<|pt x) (by lia);refine⟨OX,?_⟩;have hb:bJ [sl,.ow<|k.map pt,.sh<|pt x]=.ok .nx [sl,.ow<|k.map pt,.sh<|pt x]:=by simp[bJ,WF,hx]
    rw[á,ϡ,if_pos hx,ĺ];simp[hb,e]
   ·obtain⟨OX,e⟩:=ih (k++[x]) (.sh<|pt x) (by simp;lia);refine⟨OX,?_⟩;have h3:k.length<16777216:=by lia
    have hb:bJ [sl,.ow<|k.map pt,.sh<|pt x]=.ok .nx [sl,.ow<|(k++[x]).map pt,.sh<|pt x]:=by simp[bJ,WF,hx,h3]
    rw[á,ϡ,if_neg hx,ĺ];simp only[EZ,nr,qT,hb,ĳ.aL];exact e
 obtain⟨s2,e⟩:=key S [] .no (by simpa using hl);have mX:=hs.it (i:=0) (U:=[sl,.ow [],.no]) rfl;simp only[ϟ]at e;simp[h_,oY,Ù,-xJ,mX,e];rfl
def WI(x:Int)(l:List Int):vi [.lst<|(x::l).map .int]=some (.int<|Hu.mx (x::l)):=by show((cC<|(x::l).map .int).bind (ym max)).map PV.int=_;rw[fV];rfl
def WJ(x:Int)(l:List Int):vj [.lst<|(x::l).map .int]=some (.int<|Hu.mn (x::l)):=by show((cC<|(x::l).map .int).bind (ym min)).map PV.int=_;rw[fV];rfl
def Z4C{S:List Hu.Pt}{sl:Ű}(hs:Sl sl (S.map pt))(h0:S≠[])(hl:S.length<=1000):hV [sl]=.ret (.ow<|(Hu.box S).map gj):=by
 have c1:Ģ (gN 0) Ĕ (Ê ß (Â 0)<|Å 0) (S.map pt) [.no] []=some ((S.map (·.1)).map .int):=by
  have:=ē (g:=gN 0) (mt:=Ĕ) (me:=Ê ß (Â 0)<|Å 0) pt (λp=>.int p.1) (λU=>∃s,U=[s]) S [.no] [] ⟨_,rfl⟩ (by simp;lia) (by
   rintro x hx U ⟨s,rfl⟩;exact⟨[.sh<|pt x],[.sh<|pt x],[.sh<|pt x],by simp,by simp,by simp[pt],_,rfl⟩)
  rw[this];simp
 have c2:Ģ (gN 0) Ĕ (Ê ß (Â 0)<|Å 1) (S.map pt) [.no] []=some ((S.map (·.2)).map .int):=by
  have:=ē (g:=gN 0) (mt:=Ĕ) (me:=Ê ß (Â 0)<|Å 1) pt (λp=>.int p.2) (λU=>∃s,U=[s]) S [.no] [] ⟨_,rfl⟩ (by simp;lia) (by
   rintro x hx U ⟨s,rfl⟩;exact⟨[.sh<|pt x],[.sh<|pt x],[.sh<|pt x],by simp,by simp,by simp[pt],_,rfl⟩)
  rw[this];simp
 obtain⟨p,R,rfl⟩:=List.exists_cons_of_ne_nil h0;have x1:=WI p.1<|R.map (·.1);have x2:=WJ p.1<|R.map (·.1);have x3:=WI p.2<|R.map (·.2);have x4:=WJ p.2<|R.map (·.2);have mX:∀s1 s2,ı 0 [sl,s1,s2]=.ok ((p::R).map pt) [sl,s1,s2]:=λs1 s2=>hs.it rfl;have b:(Hu.box (p::R)).map gj=[.tup [.int 1,.int 0,.int<|Hu.mx (p.1::R.map (·.1))],.tup [.int<|-1,.int 0,.int<|-Hu.mn (p.1::R.map (·.1))],.tup [.int 0,.int 1,.int<|Hu.mx (p.2::R.map (·.2))],.tup [.int 0,.int<|-1,.int<|-Hu.mn (p.2::R.map (·.2))]]:=rfl;rw[b];generalize (p::R).map pt=ps at mX c1 c2;rw[á]at c1 c2;generalize (p.1::R.map (·.1)).map PV.int=us at c1 x1 x2;generalize (p.2::R.map (·.2)).map PV.int=vs at c2 x3 x4;simp[hV,oX,Ù,-xJ,-G4,-G5,mX,c1,c2,x1,x2,x3,x4]
theorem WK:∀l:List Bool,dr (l.map .bl)=some l
 |[]=>rfl|x::l=>by rw[á,dr,WK l];rfl
def ZS(l:List Bool):kD [.lst<|l.map .bl]=some (.bl<|l.all id):=by show(dr<|l.map .bl).map (λbs=>PV.bl<|bs.all id)=_;rw[WK];rfl
def ZY(S:List Hu.Pt):(Hu.Z5 S).length<=S.length:=by
 have:∀(xs k:List Hu.Pt),(xs.foldl (λk x=>if x∈k then k else k++[x]) k).length<=k.length+xs.length:=by
  intro xs
  induction xs with
  |nil=>intro k;simp|cons x xs ih=>
   intro k;rw[ϡ];refine ř (ih _) ?_;split
   ·simp
   ·simp;lia
 have h:=this S [];rw[List.length_nil,Nat.zero_add]at h;exact h
def Z2w{S:List Hu.Pt}(hS:∀p∈S,Sm p)(hl:S.length<=1000){a b:Hu.Pt}(ha:a∈S)(hb:b∈S)(s0 s5:Ű)(L:List Hu.Ln)(hL:L.length<16777216):
 av [s0,.ow<|L.map gj,.sh<|.lst<|(Hu.Z5 S).map pt,.sh<|pt a,.sh<|pt b,s5]=.ok .nx [s0,.ow<|(L++(if a≠b/\(Hu.Z5 S).all (Hu.hd<|Hu.Z4 a b)then[Hu.Z4 a b]else[])).map gj,.sh<|.lst<|(Hu.Z5 S).map pt,.sh<|pt a,.sh<|pt b,.sh<|gj<|Hu.Z4 a b]:=by
 have hsm:=WH (hS a ha)<|hS b hb;have c1:Ģ (gN 1) Ĕ (Ý<|à jM<|Í 0<|Í 1 Ú) ((Hu.Z5 S).map pt) [.sh<|gj<|Hu.Z4 a b,.no] []=some (((Hu.Z5 S).map (Hu.hd<|Hu.Z4 a b)).map .bl):=by
  have hlen:(Hu.Z5 S).length<=16777216:=by have:=ZY S;lia
  have:=ē (g:=gN 1) (mt:=Ĕ) (me:=Ý<|à jM<|Í 0<|Í 1 Ú) pt (λp=>.bl<|Hu.hd (Hu.Z4 a b) p) (λU=>∃s,U=[.sh<|gj<|Hu.Z4 a b,s]) (Hu.Z5 S) [.sh<|gj<|Hu.Z4 a b,.no] [] ⟨_,rfl⟩ (by simpa using hlen) (by
   rintro x hx U ⟨s,rfl⟩;exact⟨[.sh<|gj<|Hu.Z4 a b,.sh<|pt x],[.sh<|gj<|Hu.Z4 a b,.sh<|pt x],[.sh<|gj<|Hu.Z4 a b,.sh<|pt x],by simp,by simp,by simp[WG hsm],_,rfl⟩)
  rw[this];simp
 have c2:=ZS<|(Hu.Z5 S).map (Hu.hd<|Hu.Z4 a b);have e1:=Z3Z (hS a ha)<|hS b hb;have e3:((Hu.Z5 S).map (Hu.hd<|Hu.Z4 a b)).all id=(Hu.Z5 S).all (Hu.hd<|Hu.Z4 a b):=by simp
 rw[e3]at c2;generalize ((Hu.Z5 S).map (Hu.hd<|Hu.Z4 a b)).map PV.bl=bs at c1 c2;by_cases h1:a=b
 ·subst h1;simp[av,e1,Um]
 ·by_cases h2:(Hu.Z5 S).all (Hu.hd<|Hu.Z4 a b)=true
  ·rw[h2]at c2;simp[av,e1,Um,h1,c1,c2,h2,hL,-bp]
  ·rw[Bool.not_eq_true]at h2;rw[h2]at c2;simp[av,e1,Um,h1,c1,c2,h2,-bp,-List.all_eq_false]
def Z3b{S:List Hu.Pt}(hS:∀p∈S,Sm p)(hl:S.length<=1000){a:Hu.Pt}(ha:a∈S)(s0:Ű):∀(xs:List Hu.Pt) (L:List Hu.Ln) (s4 s5:Ű),(∀x∈xs,x∈S)->L.length+xs.length<16777216->
 ∃DC Ii,ĺ (gN 4) av (xs.map pt) [s0,.ow<|L.map gj,.sh<|.lst<|(Hu.Z5 S).map pt,.sh<|pt a,s4,s5]=.ok .nx [s0,.ow<|(L++xs.filterMap λb=>if a≠b/\(Hu.Z5 S).all (Hu.hd<|Hu.Z4 a b)then some (Hu.Z4 a b)else none).map gj,.sh<|.lst<|(Hu.Z5 S).map pt,.sh<|pt a,DC,Ii]:=by
 intro xs
 induction xs with
 |nil=>intro L s4 s5 _ _;exact⟨s4,s5,by simp[ĺ]⟩|cons b xs ih=>
  intro L s4 s5 hx hL;rw[Ę]at hL;have hb:=Z2w hS hl ha (hx b<|by simp) s0 s5 L (by lia);obtain⟨DC,Ii,e⟩:=ih (L++(if a≠b/\(Hu.Z5 S).all (Hu.hd<|Hu.Z4 a b)then[Hu.Z4 a b]else[])) (.sh<|pt b) (.sh<|gj<|Hu.Z4 a b) (λx h=>hx x<|ð _ h) (by
   rw[Ϟ];split
   ·simp;lia
   ·simp;lia)
  refine⟨DC,Ii,?_⟩;rw[á,ĺ];simp only[EZ,nr,qT,hb,ĳ.aL];rw[e,qG];by_cases hc:a≠b/\(Hu.Z5 S).all (Hu.hd<|Hu.Z4 a b)=true
  ·rw[if_pos hc,if_pos hc];simp only[qI,dQ,bq]
  ·rw[if_neg hc,if_neg hc];simp only[kW]
def WL{α β:Type}(f:α->Option β)(l:List α):(l.filterMap f).length<=l.length:=List.length_filterMap_le ..
def Z3c{S:List Hu.Pt}(hS:∀p∈S,Sm p)(hl:S.length<=1000)(s0:Ű):∀(xs:List Hu.Pt) (L:List Hu.Ln) (s3 s4 s5:Ű),(∀x∈xs,x∈S)->L.length+xs.length*1000<10000000->
 ∃Q5 DC Ii,ĺ (gN 3) eD (xs.map pt) [s0,.ow<|L.map gj,.sh<|.lst<|(Hu.Z5 S).map pt,s3,s4,s5]=.ok .nx [s0,.ow<|(L++xs.flatMap λa=>(Hu.Z5 S).filterMap λb=>if a≠b/\(Hu.Z5 S).all (Hu.hd<|Hu.Z4 a b)then some (Hu.Z4 a b)else none).map gj,.sh<|.lst<|(Hu.Z5 S).map pt,Q5,DC,Ii]:=by
 intro xs
 induction xs with
 |nil=>intro L s3 s4 s5 _ _;exact⟨s3,s4,s5,by simp[ĺ]⟩|cons a xs ih=>
  intro L s3 s4 s5 hx hL;rw[Ę]at hL;have ho:=ZY S;obtain⟨a4,a5,e1⟩:=Z3b hS hl (hx a<|by simp) s0 (Hu.Z5 S) L s4 s5 (λx h=>Hu.Zr.mp h) (by lia);have hf:=WL (λb=>if a≠b/\(Hu.Z5 S).all (Hu.hd<|Hu.Z4 a b)=true then some (Hu.Z4 a b)else none)<|Hu.Z5 S;obtain⟨Q5,DC,Ii,e2⟩:=ih (L++(Hu.Z5 S).filterMap λb=>if a≠b/\(Hu.Z5 S).all (Hu.hd<|Hu.Z4 a b)=true then some (Hu.Z4 a b)else none) (.sh<|pt a) a4 a5 (λx h=>hx x<|ð _ h) (by rw[Ϟ];lia);refine⟨Q5,DC,Ii,?_⟩;have hb:eD [s0,.ow<|L.map gj,.sh<|.lst<|(Hu.Z5 S).map pt,.sh<|pt a,s4,s5]=.ok .nx [s0,.ow<|(L++(Hu.Z5 S).filterMap λb=>if a≠b/\(Hu.Z5 S).all (Hu.hd<|Hu.Z4 a b)=true then some (Hu.Z4 a b)else none).map gj,.sh<|.lst<|(Hu.Z5 S).map pt,.sh<|pt a,a4,a5]:=by unfold eD;simp only[J8,xJ,qM,List.getElem?_cons_zero,ĳ.aL];exact e1
  rw[á,ĺ];simp only[EZ,nr,qT,hb,ĳ.aL];rw[e2,nv,qI]
def Z3d{S:List Hu.Pt}{sl:Ű}(hs:Sl sl (S.map pt))(hS:∀p∈S,Sm p)(hl:S.length<=1000):fJ [sl]=.ret (.ow<|(Hu.ZJ S).map gj):=by have h1:=Z40 hs hl;have ho:=ZY S;obtain⟨s3,s4,s5,e⟩:=Z3c hS hl sl (Hu.Z5 S) [] .no .no .no (λx h=>Hu.Zr.mp h) (by simp;lia);have he:[]++((Hu.Z5 S).flatMap λa=>(Hu.Z5 S).filterMap λb=>if a≠b/\(Hu.Z5 S).all (Hu.hd<|Hu.Z4 a b)=true then some (Hu.Z4 a b)else none)=Hu.ZJ S:=rfl;rw[he]at e;generalize Hu.ZJ S=ed at e;generalize (Hu.Z5 S).map pt=os at e h1;simp only[ϟ]at e;simp[fJ,lV,Ù,hs.lend,h1,e]
def Z2x(S:List Hu.Pt)(hl:S.length<=1000):(Hu.ZJ S).length<=1000000:=by
 have ho:=ZY S;have:∀(xs:List Hu.Pt) (f:Hu.Pt->List Hu.Ln),(∀x,(f x).length<=1000)->(xs.flatMap f).length<=xs.length*1000:=by
  intro xs f hf
  induction xs with
  |nil=>simp|cons x xs ih=>rw[nv,Ϟ,Ę];have:=hf x;lia
 refine ř (this (Hu.Z5 S) _ λx=>ř (WL _ _)<|by lia) (by lia)
def WM{S:List Hu.Pt}{sl:Ű}(hs:Sl sl (S.map pt))(hS:∀p∈S,Sm p)(h0:S≠[])(hl:S.length<=1000):bU [sl]=.ret (.ow<|(Hu.Zq S).map gj):=by
 have h1:=Z4C hs h0 hl;have h2:=Z3d hs hS hl;have h3:ü (.lst<|(Hu.box S).map gj) (.lst<|(Hu.ZJ S).map gj)=some (.ow<|(Hu.Zq S).map gj):=by rw[vH (by have:=Z2x S hl;simp[Hu.box];lia),<-ş];rfl
 simp[bU,kJ,hs.lend,h1,h2,h3]
def Uo{S:List Hu.Pt}{l:Hu.Ln}(h:l∈Hu.Zq S)(hS:∀p∈S,Sm p):FP l:=by
 rcases aH.mp h with h|h
 ·unfold Hu.box at h;simp only[ö,br,or_false]at h;rcases h with e|e|e|e<;>subst e<;>simp only[FP]<;>lia
 ·obtain⟨a,ha,b,hb,_,_,rfl⟩:=Hu.ZF.mp h;exact WH (hS a ha)<|hS b hb
def Z20(n:Nat):kq 0 n 1=(å n).map λ(i:Nat)=>PV.int (i:Int):=by unfold kq;refine v_ λi _=>?_;simp
def Zt{n:Nat}(h:n<=1000):Ϛ [.int (n:Int)]=some ((å n).map λ(i:Nat)=>PV.int (i:Int)):=by
 have hs:sW (n:Int)=true:=by unfold sW;simp;lia
 unfold Ϛ;simp[hs,Z20]
def IF(s:Ű)(ps:List PV):Prop:=s=.sh (.lst ps)\/s=.bw ps
def dI(x:Int):Bool:=decide<|-1000000000<=x/\x<=1000000000
def zC(x:Int):Bool:=decide<|1<=x/\x<=1000000000
def zD(x:Int):Bool:=decide<|0<=x/\x<=1000000000
def Up(x:Int):a_ [.sh<|.int x]=.ret (.sh<|.bl<|dI x):=by unfold dI;by_cases h1: -1000000000<=x<;>by_cases h2:x<=1000000000<;>simp[a_,qd,h1,h2]
def WN(x:Int):eR [.sh<|.int x]=.ret (.sh<|.bl<|zC x):=by unfold zC;by_cases h1:1<=x<;>by_cases h2:x<=1000000000<;>simp[eR,oT,h1,h2]
def Zg:List Int->Bool
 |[p,q,h]=>dI p&&dI q&&zC h|_=>false
def Zd:List Int->Bool
 |[x,y,u,v,h]=>dI x&&dI y&&dI u&&dI v&&zC h|_=>false
def Z7:List Int->Bool
 |[x,y,u,v,h]=>Zd [x,y,u,v,h]&&!(decide (x=u)&&decide (y=v))|_=>false
def Za:List Int->Bool
 |[x,y,u,v,h]=>Zd [x,y,u,v,h]&&decide (x<u)&&decide (y<v)|_=>false
def Z8:List Int->Bool
 |[a,b,c,d,e,f,g,h,i]=>dI a&&dI b&&zD c&&(dI d&&dI e&&zD f)&&(dI g&&dI h&&zD i)|_=>false
def ln{n:Nat}{xs:List Int}(h:xs.length=n+1):∃a ys,xs=a::ys/\ys.length=n:=by
 cases xs with
 |nil=>cases h|cons a ys=>exact⟨a,ys,rfl,Nat.succ.inj h⟩
def Uq{xs:List Int}(h:xs.length=3):∃a b c,xs=[a,b,c]:=by obtain⟨a,x,rfl,h1⟩:=ln h;obtain⟨b,y,rfl,h2⟩:=ln h1;obtain⟨c,z,rfl,h3⟩:=ln h2;exact⟨a,b,c,by rw[vY h3]⟩
def KU{xs:List Int}(h:xs.length=5):∃a b c d e,xs=[a,b,c,d,e]:=by obtain⟨a,x,rfl,h1⟩:=ln h;obtain⟨b,y,rfl,h2⟩:=ln h1;obtain⟨c,d,e,rfl⟩:=Uq h2;exact⟨a,b,c,d,e,rfl⟩
def Ur{xs:List Int}(h:xs.length=9):∃a b c d e f g i j,xs=[a,b,c,d,e,f,g,i,j]:=by obtain⟨a,x,rfl,h1⟩:=ln h;obtain⟨b,y,rfl,h2⟩:=ln h1;obtain⟨c,z,rfl,h3⟩:=ln h2;obtain⟨d,w,rfl,h4⟩:=ln h3;obtain⟨e,f,g,i,j,rfl⟩:=KU h4;exact⟨a,b,c,d,e,f,g,i,j,rfl⟩
def Qw{xs:List Int}(h:Zg xs=true):∃a b c,xs=[a,b,c]:=Uq (by unfold Zg at h;split at h;rfl;cases h)
def Z4D{xs:List Int}(h:Zd xs=true):∃a b c d e,xs=[a,b,c,d,e]:=KU (by unfold Zd at h;split at h;rfl;cases h)
def Qx{xs:List Int}(h:Z7 xs=true):∃a b c d e,xs=[a,b,c,d,e]:=KU (by unfold Z7 at h;split at h;rfl;cases h)
def LA{xs:List Int}(h:Za xs=true):∃a b c d e,xs=[a,b,c,d,e]:=KU (by unfold Za at h;split at h;rfl;cases h)
def Qy{xs:List Int}(h:Z8 xs=true):∃a b c d e f g i j,xs=[a,b,c,d,e,f,g,i,j]:=Ur (by unfold Z8 at h;split at h;rfl;cases h)
def WO(a b c:Bool):kD [.lst [.bl a,.bl b,.bl c]]=some (.bl<|a&&b&&c):=by cases a<;>cases b<;>cases c<;>rfl
def Z4E(a b c d:Bool):kD [.lst [.bl a,.bl b,.bl c,.bl d]]=some (.bl<|a&&b&&c&&d):=by cases a<;>cases b<;>cases c<;>cases d<;>rfl
def Z12{xs:List Int}{sl:Ű}(hs:IF sl (xs.map .int)):da [sl]=.ret (.sh<|.bl<|Zg xs):=by
 by_cases hl:xs.length=3
 ·obtain⟨a,b,c,rfl⟩:=Uq hl;have h:Zg [a,b,c]=(dI a&&dI b&&zC c):=rfl;rw[h];rcases hs with rfl|rfl<;>cases ea:dI a<;>cases eb:dI b<;>cases ec:zC c<;>simp[da,il,Up,WN,ea,eb,ec]
 ·have h:Zg xs=false:=by
   unfold Zg;split
   ·simp at hl
   ·rfl
  rw[h];have Le:¬((xs.length:Nat):Int)=3:=by lia
  rcases hs with rfl|rfl<;>simp[da,il,Le]
def WP{xs:List Int}{sl:Ű}(hs:IF sl (xs.map .int)):Ϭ [sl]=.ret (.sh<|.bl<|Zd xs):=by
 by_cases hl:xs.length=5
 ·obtain⟨a,b,c,d,e,rfl⟩:=KU hl;have h:Zd [a,b,c,d,e]=(dI a&&dI b&&dI c&&dI d&&zC e):=rfl;rw[h];have hc:cw ([.int a,.int b,.int c,.int d,.int e]:List PV) none (some 4)=[.int a,.int b,.int c,.int d]:=rfl;have hb:=Z4E (dI a) (dI b) (dI c)<|dI d;rcases hs with rfl|rfl<;>cases ea:(dI a&&dI b&&dI c&&dI d)<;>cases ec:zC e<;>rw[ea]at hb<;>simp[Ϭ,eV,Ù,Up,WN,hc,Ģ,hb,ec]
 ·have h:Zd xs=false:=by
   unfold Zd;split
   ·simp at hl
   ·rfl
  rw[h];have Le:¬((xs.length:Nat):Int)=5:=by lia
  rcases hs with rfl|rfl<;>simp[Ϭ,eV,Ù,Le]
def Z4F(a b c d:Int):ϲ (.lst [.int a,.int b]) (.lst [.int c,.int d])=some (.bl<|!(decide (a=c)&&decide (b=d))):=by
 have h:aE (.lst [.int a,.int b]) (.lst [.int c,.int d])=(decide (a=c)&&decide (b=d)):=by simp[aE,iA];rw[gp];simp
 unfold ϲ tj;rw[h];simp[ŭ,ϻ,qh,pA]
def WQ{xs:List Int}(hl:¬xs.length=5):Zd xs=false:=by
 unfold Zd;split
 ·simp at hl
 ·rfl
def Us{s:Ű}{ps:List PV}(h:IF s ps):eM s=some s:=by rcases h with rfl|rfl<;>rfl
def Z3e{xs:List Int}{sl:Ű}(hs:IF sl (xs.map .int)):bS [sl]=.ret (.sh<|.bl<|Z7 xs):=by
 have he:=WP hs;by_cases hl:xs.length=5
 ·obtain⟨a,b,c,d,e,rfl⟩:=KU hl;have h:Z7 [a,b,c,d,e]=(Zd [a,b,c,d,e]&&!(decide (a=c)&&decide (b=d))):=rfl;rw[h];have h1:cw ([.int a,.int b,.int c,.int d,.int e]:List PV) none (some 2)=[.int a,.int b]:=rfl;have h2:cw ([.int a,.int b,.int c,.int d,.int e]:List PV) (some 2) (some 4)=[.int c,.int d]:=rfl;have h3:=Z4F a b c d;generalize Zd [a,b,c,d,e]=q at*;rcases hs with rfl|rfl<;>cases q<;>simp_all [bS,fZ]
 ·have h:Z7 xs=false:=by
   unfold Z7;split
   ·simp at hl
   ·rfl
  rw[h];rw[WQ hl]at he;simp[bS,fZ,Us hs,he]
def Z41{xs:List Int}{sl:Ű}(hs:IF sl (xs.map .int)):ķ [sl]=.ret (.sh<|.bl<|Za xs):=by
 have he:=WP hs;by_cases hl:xs.length=5
 ·obtain⟨a,b,c,d,e,rfl⟩:=KU hl;have h:Za [a,b,c,d,e]=(Zd [a,b,c,d,e]&&decide (a<c)&&decide (b<d)):=rfl;rw[h];generalize Zd [a,b,c,d,e]=q at*;rcases hs with rfl|rfl<;>simp only[á,ϟ]at he<;>cases q<;>by_cases h1:a<c<;>by_cases h2:b<d<;>simp[ķ,af,he,h1,h2]
 ·have h:Za xs=false:=by
   unfold Za;split
   ·simp at hl
   ·rfl
  rw[h];rw[WQ hl]at he;simp[ķ,af,Us hs,he]
def Ut(a b c:Int):aO [.sh<|.lst [.int a,.int b,.int c]]=.ret (.sh<|.bl<|dI a&&dI b&&zD c):=by unfold zD;cases ea:dI a<;>cases eb:dI b<;>by_cases h1:0<=c<;>by_cases h2:c<=1000000000<;>simp[aO,f_,Up,ea,eb,h1,h2]
def Z3f{xs:List Int}{sl:Ű}(hs:IF sl (xs.map .int)):bT [sl]=.ret (.sh<|.bl<|Z8 xs):=by
 by_cases hl:xs.length=9
 ·obtain⟨a,b,c,d,e,f,g,h,i,rfl⟩:=Ur hl;have hc:Z8 [a,b,c,d,e,f,g,h,i]=((dI a&&dI b&&zD c)&&(dI d&&dI e&&zD f)&&(dI g&&dI h&&zD i)):=rfl;rw[hc];have h1:cw ([.int a,.int b,.int c,.int d,.int e,.int f,.int g,.int h,.int i]:List PV) (some 0) (some 3)=[.int a,.int b,.int c]:=rfl;have h2:cw ([.int a,.int b,.int c,.int d,.int e,.int f,.int g,.int h,.int i]:List PV) (some 3) (some 6)=[.int d,.int e,.int f]:=rfl;have h3:cw ([.int a,.int b,.int c,.int d,.int e,.int f,.int g,.int h,.int i]:List PV) (some 6) (some 9)=[.int g,.int h,.int i]:=rfl;have hb:=WO (dI a&&dI b&&zD c) (dI d&&dI e&&zD f)<|dI g&&dI h&&zD i;have k1:=Ut a b c;have k2:=Ut d e f;have k3:=Ut g h i;rcases hs with rfl|rfl<;>simp[bT,ga,Ù,Ģ,h1,h2,h3,k1,k2,k3,hb]
 ·have h:Z8 xs=false:=by
   unfold Z8;split
   ·simp at hl
   ·rfl
  rw[h];have Le:¬((xs.length:Nat):Int)=9:=by lia
  rcases hs with rfl|rfl<;>simp[bT,ga,Ù,Le]
def Zh(w:Str):String:=if w="post"then "Post"else if w="fence"then "Fence"else if w="sail"then "Sail"else if w="cloth"then "Cloth"else "House"
def Z9(C:String)(w:Str)(xs:List Int):PV:=.ins C ["word","numbers"] [.str w,.lst<|xs.map .int]
def Z0(w:Str)(xs:List Int):Bool:=if w="post"then Zg xs else if w="fence"then Z7 xs else if w="sail"then Za xs else if w="cloth"then Z8 xs else if w="house"then Za xs else false
def wn:((Æ "word")=(Æ "numbers"))=False:=eq_false (by decide+kernel)
def ZT{C:String}(hC:(["Thing","Post","Fence","Sail","Cloth","House"]:List String).contains C=true)(w:Str){xs:List Int}{sl:Ű}(hs:IF sl (xs.map .int)):dH 3 3 C ĵ [.sh<|.str w,sl]=.ok ["word","numbers"] [.str w,.lst<|xs.map .int]:=by rcases hs with rfl|rfl<;>simp[dH,ĵ,jV,IR.of,putN,Aq,hC,wn,-List.contains_eq_mem,-wa]
def s1:ĕ (Æ "post")=true:=by decide+kernel
def s2:ĕ (Æ "fence")=true:=by decide+kernel
def s3:ĕ (Æ "sail")=true:=by decide+kernel
def s4:ĕ (Æ "cloth")=true:=by decide+kernel
def s5:ĕ (Æ "house")=true:=by decide+kernel
def T5:(Æ "post"=Æ "fence")=False:=eq_false (by decide+kernel)
def T6:(Æ "post"=Æ "sail")=False:=eq_false (by decide+kernel)
def T7:(Æ "post"=Æ "cloth")=False:=eq_false (by decide+kernel)
def T8:(Æ "post"=Æ "house")=False:=eq_false (by decide+kernel)
def T9:(Æ "fence"=Æ "post")=False:=eq_false (by decide+kernel)
def Qr:(Æ "fence"=Æ "sail")=False:=eq_false (by decide+kernel)
def Ua:(Æ "fence"=Æ "cloth")=False:=eq_false (by decide+kernel)
def Qs:(Æ "fence"=Æ "house")=False:=eq_false (by decide+kernel)
def Qb:(Æ "sail"=Æ "post")=False:=eq_false (by decide+kernel)
def Ub:(Æ "sail"=Æ "fence")=False:=eq_false (by decide+kernel)
def Uc:(Æ "sail"=Æ "cloth")=False:=eq_false (by decide+kernel)
def Qt:(Æ "sail"=Æ "house")=False:=eq_false (by decide+kernel)
def Ud:(Æ "cloth"=Æ "post")=False:=eq_false (by decide+kernel)
def Ue:(Æ "cloth"=Æ "fence")=False:=eq_false (by decide+kernel)
def Uf:(Æ "cloth"=Æ "sail")=False:=eq_false (by decide+kernel)
def Qu:(Æ "cloth"=Æ "house")=False:=eq_false (by decide+kernel)
def Ug:(Æ "house"=Æ "post")=False:=eq_false (by decide+kernel)
def Uh:(Æ "house"=Æ "fence")=False:=eq_false (by decide+kernel)
def Ui:(Æ "house"=Æ "sail")=False:=eq_false (by decide+kernel)
def Uj:(Æ "house"=Æ "cloth")=False:=eq_false (by decide+kernel)
def WS{w:Str}(hw:ĕ w=true){xs:List Int}{sl:Ű}(hs:IF sl (xs.map .int)):ŕ [.sh<|.str w,sl]=if Z0 w xs=true then .ret (.sh<|Z9 (Zh w) w xs)else .bad:=by
 have e1:=İ hw s1;have e2:=İ hw s2;have e3:=İ hw s3;have e4:=İ hw s4;have e5:=İ hw s5;have p1:=Z12 hs;have p2:=Z3e hs;have p3:=Z41 hs;have p4:=Z3f hs;have i1:x_ [.sh<|.str w,sl]=_:=ZT (by decide) w hs;have i2:ue [.sh<|.str w,sl]=_:=ZT (by decide) w hs;have i3:yc [.sh<|.str w,sl]=_:=ZT (by decide) w hs;have i4:uf [.sh<|.str w,sl]=_:=ZT (by decide) w hs;have i5:ug [.sh<|.str w,sl]=_:=ZT (by decide) w hs;have hle:=Us hs;unfold Z0 Zh Z9;by_cases h1:w=Æ "post"
 ·have n2:¬w=Æ "fence":=λz=>(T5▸(h1.symm.trans z):False);have n3:¬w=Æ "sail":=λz=>(T6▸(h1.symm.trans z):False);have n4:¬w=Æ "cloth":=λz=>(T7▸(h1.symm.trans z):False);have n5:¬w=Æ "house":=λz=>(T8▸(h1.symm.trans z):False);rw[decide_eq_true h1]at e1;rw[decide_eq_false n2]at e2;rw[decide_eq_false n3]at e3;rw[decide_eq_false n4]at e4;rw[decide_eq_false n5]at e5;have hg:(if w=Æ "post"then Zg xs else if w=Æ "fence"then Z7 xs else if w=Æ "sail"then Za xs else if w=Æ "cloth"then Z8 xs else if w=Æ "house"then Za xs else false)=Zg xs:=by rw[if_pos h1]
  have hc:(if w=Æ "post"then "Post"else if w=Æ "fence"then "Fence"else if w=Æ "sail"then "Sail"else if w=Æ "cloth"then "Cloth"else "House")="Post":=by rw[if_pos h1]
  rw[hg,hc];cases q:Zg xs<;>rw[q]at p1<;>simp[ŕ,ba,eP,e1,e2,e3,e4,e5,hle,p1,i1]
 ·skip
  by_cases h2:w=Æ "fence"
  ·have n1:=h1;have n3:¬w=Æ "sail":=λz=>(Qr▸(h2.symm.trans z):False);have n4:¬w=Æ "cloth":=λz=>(Ua▸(h2.symm.trans z):False);have n5:¬w=Æ "house":=λz=>(Qs▸(h2.symm.trans z):False);rw[decide_eq_true h2]at e2;rw[decide_eq_false n1]at e1;rw[decide_eq_false n3]at e3;rw[decide_eq_false n4]at e4;rw[decide_eq_false n5]at e5;have hg:(if w=Æ "post"then Zg xs else if w=Æ "fence"then Z7 xs else if w=Æ "sail"then Za xs else if w=Æ "cloth"then Z8 xs else if w=Æ "house"then Za xs else false)=Z7 xs:=by rw[if_neg n1,if_pos h2]
   have hc:(if w=Æ "post"then "Post"else if w=Æ "fence"then "Fence"else if w=Æ "sail"then "Sail"else if w=Æ "cloth"then "Cloth"else "House")="Fence":=by rw[if_neg n1,if_pos h2]
   rw[hg,hc];cases q:Z7 xs<;>rw[q]at p2<;>simp[ŕ,ba,eP,e1,e2,e3,e4,e5,hle,p2,i2]
  ·skip
   by_cases h3:w=Æ "sail"
   ·have n1:=h1;have n2:=h2;have n4:¬w=Æ "cloth":=λz=>(Uc▸(h3.symm.trans z):False);have n5:¬w=Æ "house":=λz=>(Qt▸(h3.symm.trans z):False);rw[decide_eq_true h3]at e3;rw[decide_eq_false n1]at e1;rw[decide_eq_false n2]at e2;rw[decide_eq_false n4]at e4;rw[decide_eq_false n5]at e5;have hg:(if w=Æ "post"then Zg xs else if w=Æ "fence"then Z7 xs else if w=Æ "sail"then Za xs else if w=Æ "cloth"then Z8 xs else if w=Æ "house"then Za xs else false)=Za xs:=by rw[if_neg n1,if_neg n2,if_pos h3]
    have hc:(if w=Æ "post"then "Post"else if w=Æ "fence"then "Fence"else if w=Æ "sail"then "Sail"else if w=Æ "cloth"then "Cloth"else "House")="Sail":=by rw[if_neg n1,if_neg n2,if_pos h3]
    rw[hg,hc];cases q:Za xs<;>rw[q]at p3<;>simp[ŕ,ba,eP,e1,e2,e3,e4,e5,hle,p3,i3]
   ·skip
    by_cases h4:w=Æ "cloth"
    ·have n1:=h1;have n2:=h2;have n3:=h3;have n5:¬w=Æ "house":=λz=>(Qu▸(h4.symm.trans z):False);rw[decide_eq_true h4]at e4;rw[decide_eq_false n1]at e1;rw[decide_eq_false n2]at e2;rw[decide_eq_false n3]at e3;rw[decide_eq_false n5]at e5;have hg:(if w=Æ "post"then Zg xs else if w=Æ "fence"then Z7 xs else if w=Æ "sail"then Za xs else if w=Æ "cloth"then Z8 xs else if w=Æ "house"then Za xs else false)=Z8 xs:=by rw[if_neg n1,if_neg n2,if_neg n3,if_pos h4]
     have hc:(if w=Æ "post"then "Post"else if w=Æ "fence"then "Fence"else if w=Æ "sail"then "Sail"else if w=Æ "cloth"then "Cloth"else "House")="Cloth":=by rw[if_neg n1,if_neg n2,if_neg n3,if_pos h4]
     rw[hg,hc];cases q:Z8 xs<;>rw[q]at p4<;>simp[ŕ,ba,eP,e1,e2,e3,e4,e5,hle,p4,i4]
    ·skip
     by_cases h5:w=Æ "house"
     ·have n1:=h1;have n2:=h2;have n3:=h3;have n4:=h4;rw[decide_eq_true h5]at e5;rw[decide_eq_false n1]at e1;rw[decide_eq_false n2]at e2;rw[decide_eq_false n3]at e3;rw[decide_eq_false n4]at e4;have hg:(if w=Æ "post"then Zg xs else if w=Æ "fence"then Z7 xs else if w=Æ "sail"then Za xs else if w=Æ "cloth"then Z8 xs else if w=Æ "house"then Za xs else false)=Za xs:=by rw[if_neg n1,if_neg n2,if_neg n3,if_neg n4,if_pos h5]
      have hc:(if w=Æ "post"then "Post"else if w=Æ "fence"then "Fence"else if w=Æ "sail"then "Sail"else if w=Æ "cloth"then "Cloth"else "House")="House":=by rw[if_neg n1,if_neg n2,if_neg n3,if_neg n4]
      rw[hg,hc];cases q:Za xs<;>rw[q]at p3<;>simp[ŕ,ba,eP,e1,e2,e3,e4,e5,hle,p3,i5]
     ·skip
      rw[decide_eq_false h1]at e1;rw[decide_eq_false h2]at e2;rw[decide_eq_false h3]at e3;rw[decide_eq_false h4]at e4;rw[decide_eq_false h5]at e5;rw[if_neg h1,if_neg h2,if_neg h3,if_neg h4,if_neg h5];simp[ŕ,ba,e1,e2,e3,e4,e5]
abbrev P3:=Int×Int×Int
def c3(p:P3):PV:=.tup [.int p.1,.int p.2.1,.int p.2.2]
def Zl(x y u v z:Int):List P3:=[(x,y,z),(u,y,z),(u,v,z),(x,v,z)]
def ZA(x y u v h:Int):List P3:=Zl x y u v 0++Zl x y u v h
def Z2(C:String)(xs:List Int):List P3:=
 if C="Post"then(match xs with
  |[p,q,h]=>ZA (2*p-1) (2*q-1) (2*p+1) (2*q+1) h|_=>[])
 else if C="Fence"then(match xs with
  |[x,y,u,v,h]=>[(x,y,0),(u,v,0),(u,v,h),(x,y,h)]|_=>[])
 else if C="Sail"then(match xs with
  |[x,y,u,v,h]=>Zl x y u v h|_=>[])
 else if C="Cloth"then(match xs with
  |[a,b,c,d,e,f,g,h,i]=>[(a,b,c),(d,e,f),(g,h,i)]|_=>[])
 else(match xs with
  |[x,y,u,v,h]=>ZA x y u v h|_=>[])
def Z6(w:Str)(xs:List Int):List P3:=Z2 (Zh w) xs
def Oc{C:String}(hC:(["Thing","Post","Fence","Sail","Cloth","House"]:List String).contains C=true)(w:Str)(xs:List Int):Ŝ ["Thing","Post","Fence","Sail","Cloth","House"] (Æ "numbers") (Z9 C w xs)=some (.lst<|xs.map .int):=by
 unfold Ŝ Z9;dsimp only;rw[if_pos hC];have:(Æ "numbers"==Æ "word")=false:=by decide+kernel
 show fi _ [(_,_),(_,_)]=_;rw[Ř,this];simp
def WT(x y u v z:Int):ό [.sh<|.int x,.sh<|.int y,.sh<|.int u,.sh<|.int v,.sh<|.int z]=.ret (.ow<|(Zl x y u v z).map c3):=by simp[ό,iJ,Zl,c3]
def WU(x y u v h:Int):ao [.sh<|.int x,.sh<|.int y,.sh<|.int u,.sh<|.int v,.sh<|.int h]=.ret (.ow<|(ZA x y u v h).map c3):=by simp[ao,iK,WT,ZA,Zl,vH]
def Z4G{xs:List Int}(h:Zg xs=true)(w:Str):ŵ [.sh<|Z9 "Post" w xs]=.ret (.ow<|(Z2 "Post" xs).map c3):=by have hh:=h;clear h;obtain⟨p,q,h,rfl⟩:=Qw hh;simp[Zg,dI,zC]at hh;have hf:=Oc (C:="Post") (by decide) w [p,q,h];have e:=WU (2*p-1) (2*q-1) (2*p+1) (2*q+1) h;simp[ŵ,jZ,Ù,hf,e,Z2]
def Z42{xs:List Int}(h:Z7 xs=true)(w:Str):Ŧ [.sh<|Z9 "Fence" w xs]=.ret (.ow<|(Z2 "Fence" xs).map c3):=by have hh:=h;clear h;obtain⟨x,y,u,v,h,rfl⟩:=Qx hh;have hf:=Oc (C:="Fence") (by decide) w [x,y,u,v,h];simp[Ŧ,iL,Ù,hf,Z2,c3,ü]
def Z4H{xs:List Int}(h:Za xs=true)(w:Str):Ŷ [.sh<|Z9 "Sail" w xs]=.ret (.ow<|(Z2 "Sail" xs).map c3):=by have hh:=h;clear h;obtain⟨x,y,u,v,h,rfl⟩:=LA hh;have hf:=Oc (C:="Sail") (by decide) w [x,y,u,v,h];have e:=WT x y u v h;simp[Ŷ,j_,hf,e,Z2]
def Z43{xs:List Int}(h:Za xs=true)(w:Str):Ũ [.sh<|Z9 "House" w xs]=.ret (.ow<|(Z2 "House" xs).map c3):=by have hh:=h;clear h;obtain⟨x,y,u,v,h,rfl⟩:=LA hh;have hf:=Oc (C:="House") (by decide) w [x,y,u,v,h];have e:=WU x y u v h;simp[Ũ,iN,hf,e,Z2]
def Z44{xs:List Int}(h:Z8 xs=true)(w:Str):ŧ [.sh<|Z9 "Cloth" w xs]=.ret (.ow<|(Z2 "Cloth" xs).map c3):=by have hh:=h;clear h;obtain⟨a,b,c,d,e,f,g,i,j,rfl⟩:=Qy hh;have hf:=Oc (C:="Cloth") (by decide) w [a,b,c,d,e,f,g,i,j];simp[ŧ,iM,Ù,hf,Z2,c3,Ģ,Lq,cw];exact⟨rfl,rfl,rfl⟩
def eX(r p:P3):Hu.Pt:=(r.2.2*p.1+r.1*p.2.2,r.2.2*p.2.1+r.2.1*p.2.2)
def RB(r:P3):Prop:=-1000000<=r.1/\r.1<=1000000/\ -1000000<=r.2.1/\r.2.1<=1000000/\ -1000000<=r.2.2/\r.2.2<=1000000
def PB(p:P3):Prop:=-10000000000<=p.1/\p.1<=10000000000/\ -10000000000<=p.2.1/\p.2.1<=10000000000/\ -10000000000<=p.2.2/\p.2.2<=10000000000
def WW{r:P3}(hr:RB r)(p:P3):mS [.sh<|c3 p,.sh<|c3 r]=.ret (.sh<|pt<|eX r p):=by obtain⟨a1,a2,a3,a4,a5,a6⟩:=hr;have m1:Ě r.2.2 p.1=true:=œ (by lia) (by lia);have m2:Ě r.2.2 p.2.1=true:=œ (by lia) (by lia);have m3:Ě r.1 p.2.2=true:=œ (by lia) (by lia);have m4:Ě r.2.1 p.2.2=true:=œ (by lia) (by lia);simp[mS,Ck,pt,c3,eX,m1,m2,m3,m4]
def Od{x y A B:Int}(h1: -A<=x)(h2:x<=A)(h3: -B<=y)(h4:y<=B): -(A*B)<=x*y/\x*y<=A*B:=by
 have hA:0<=A:=by lia
 have hB:0<=B:=by lia
 have e:(x*y).natAbs<=A.natAbs*B.natAbs:=by rw[qD];exact bt (by lia) (by lia)
 have e2:((A*B).natAbs)=A.natAbs*B.natAbs:=qD A B;have e3:0<=A*B:=Ŏ hA hB;lia
def Oe{r p:P3}(hr:RB r)(hp:PB p):Sm (eX r p):=by obtain⟨a1,a2,a3,a4,a5,a6⟩:=hr;obtain⟨b1,b2,b3,b4,b5,b6⟩:=hp;have q1:=Od a5 a6 b1 b2;have q2:=Od a5 a6 b3 b4;have q3:=Od a1 a2 b5 b6;have q4:=Od a3 a4 b5 b6;simp only[Sm,eX];lia
def Z2z{w:Str}{xs:List Int}(hg:Z0 w xs=true){mo:M PV}{U U1:List Ű}(ho:mo U=.ok (Z9 (Zh w) w xs) U1):jU (Æ "corners") [("Post",ŵ),("Fence",Ŧ),("Sail",Ŷ),("Cloth",ŧ),("House",Ũ)] mo Ú U=.ok (.ow<|(Z6 w xs).map c3) U1:=by
 have hn:(["word","numbers"]:List Str).contains (Æ "corners")=false:=by decide+kernel
 have key:∀(C:String) (mf:MF),Zh w=C->fi C [("Post",ŵ),("Fence",Ŧ),("Sail",Ŷ),("Cloth",ŧ),("House",Ũ)]=some mf->mf [.sh<|Z9 C w xs]=.ret (.ow<|(Z2 C xs).map c3)->jU (Æ "corners") [("Post",ŵ),("Fence",Ŧ),("Sail",Ŷ),("Cloth",ŧ),("House",Ũ)] mo Ú U=.ok (.ow<|(Z6 w xs).map c3) U1:=by intro C mf hC hl hf;unfold Z6;rw[hC]at ho⊢;unfold jU;rw[ho];unfold Z9 at*;simp only[ĳ.bind];rw[hl];dsimp only;rw[if_neg (by rw[hn];decide)];simp only[Ú];rw[hf]
 unfold Z0 at hg;by_cases e1:w="post"
 ·rw[if_pos e1]at hg;exact key "Post" _ (by unfold Zh;rw[if_pos e1]) rfl (Z4G hg w)
 rw[if_neg e1]at hg;by_cases e2:w="fence"
 ·rw[if_pos e2]at hg;exact key "Fence" _ (by unfold Zh;rw[if_neg e1,if_pos e2]) rfl (Z42 hg w)
 rw[if_neg e2]at hg;by_cases e3:w="sail"
 ·rw[if_pos e3]at hg;exact key "Sail" _ (by unfold Zh;rw[if_neg e1,if_neg e2,if_pos e3]) rfl (Z4H hg w)
 rw[if_neg e3]at hg;by_cases e4:w="cloth"
 ·rw[if_pos e4]at hg;exact key "Cloth" _ (by unfold Zh;rw[if_neg e1,if_neg e2,if_neg e3,if_pos e4]) rfl (Z44 hg w)
 rw[if_neg e4]at hg;by_cases e5:w="house"
 ·rw[if_pos e5]at hg;exact key "House" _ (by unfold Zh;rw[if_neg e1,if_neg e2,if_neg e3,if_neg e4]) rfl (Z43 hg w)
 ·rw[if_neg e5]at hg;cases hg
def Z22{r:P3}(hr:RB r){L:List P3}(hl:L.length<=100)(s1:Ű):Ģ (gN 1) Ĕ (Ý<|à mS<|Í 1<|Í 0 Ú) (L.map c3) [.sh<|c3 r,s1] []=some ((L.map<|eX r).map pt):=by
 have:=ē (g:=gN 1) (mt:=Ĕ) (me:=Ý<|à mS<|Í 1<|Í 0 Ú) c3 (λp=>pt<|eX r p) (λU=>∃s,U=[.sh<|c3 r,s]) L [.sh<|c3 r,s1] [] ⟨_,rfl⟩ (by simp;lia) (by
  rintro p hp U ⟨s,rfl⟩;have e:=WW hr p;generalize c3 r=R,c3 p=Q at*;exact⟨[R|> .sh,.sh Q],[.sh R,.sh Q],[.sh R,.sh Q],by simp,by simp,by simp[e],_,rfl⟩)
 rw[this];simp
def WX{w:Str}{xs:List Int}(hg:Z0 w xs=true)(hl:(Z6 w xs).length<=100){r:P3}(hr:RB r):ϭ [.sh<|Z9 (Zh w) w xs,.sh<|c3 r]=.ret (.ow<|((Z6 w xs).map (eX r)).map pt):=by have h1:=Z2z hg (mo:=ä 0) (U:=[.sh<|Z9 (Zh w) w xs,.sh<|c3 r]) (U1:=[.sh<|Z9 (Zh w) w xs,.sh<|c3 r]) (by simp);have h2:=Z22 hr hl;simp[ϭ,ka,Ù,h1,h2,-G7]
def qv(s:Hu.Pt):P3:=(2*s.1,2*s.2,0)
def bd(x:Int):Prop:=-10000000000<=x/\x<=10000000000
def VG:bd 0:=⟨by decide,by decide⟩
def Fy{x y z:Int}(a:bd x)(b:bd y)(c:bd z):PB (x,y,z):=⟨a.1,a.2,b.1,b.2,c.1,c.2⟩
def Uu{x y u v z:Int}(a:bd x)(b:bd y)(c:bd u)(d:bd v)(e:bd z):∀p∈Zl x y u v z,PB p:=by simp only[Zl,ny];exact⟨Fy a b e,Fy c b e,Fy c d e,Fy a d e,nofun⟩
def WY{x y u v z:Int}(a:bd x)(b:bd y)(c:bd u)(d:bd v)(e:bd z):∀p∈ZA x y u v z,PB p:=λp h=>(aH.mp h).elim (Uu a b c d VG p) (Uu a b c d e p)
def ZZ{w:Str}{xs:List Int}(hg:Z0 w xs=true):(Z6 w xs).length<=8/\Z6 w xs≠[]/\∀p∈Z6 w xs,PB p:=by
 have pl:∀{x},dI x=true->bd x:=λh=>by simp[dI]at h;exact⟨by lia,by lia⟩
 have gl:∀{x},zD x=true->bd x:=λh=>by simp[zD]at h;exact⟨by lia,by lia⟩
 have hl:∀{x},zC x=true->bd x:=λh=>by simp[zC]at h;exact⟨by lia,by lia⟩
 have hp:Zg xs=true->(Z2 "Post" xs).length<=8/\Z2 "Post" xs≠[]/\∀p∈Z2 "Post" xs,PB p:=λh=>by obtain⟨a,b,c,rfl⟩:=Qw h;simp only[Zg,dI,Ă,decide_eq_true_eq]at h;exact⟨by simp[Z2,ZA,Zl],by simp[Z2,ZA,Zl],by simp only[Z2,if_true];exact WY ⟨by lia,by lia⟩ ⟨by lia,by lia⟩ ⟨by lia,by lia⟩ ⟨by lia,by lia⟩<|hl h.2⟩
 have hf:Z7 xs=true->(Z2 "Fence" xs).length<=8/\Z2 "Fence" xs≠[]/\∀p∈Z2 "Fence" xs,PB p:=λh=>by obtain⟨a,b,c,d,e,rfl⟩:=Qx h;simp only[Z7,Zd,Ă]at h;obtain⟨⟨⟨⟨⟨h1,h2⟩,h3⟩,h4⟩,h5⟩,-⟩:=h;exact⟨by simp[Z2],by simp[Z2],by simp[Z2];exact⟨Fy (pl h1) (pl h2) VG,Fy (pl h3) (pl h4) VG,Fy (pl h3) (pl h4)<|hl h5,Fy (pl h1) (pl h2)<|hl h5⟩⟩
 have hs:Za xs=true->(∀C,C="Sail" \/C="House" ->(Z2 C xs).length<=8/\Z2 C xs≠[]/\∀p∈Z2 C xs,PB p):=λh C hC=>by
  obtain⟨a,b,c,d,e,rfl⟩:=LA h;simp only[Za,Zd,Ă]at h;obtain⟨⟨⟨⟨⟨⟨h1,h2⟩,h3⟩,h4⟩,h5⟩,-⟩,-⟩:=h;rcases hC with rfl|rfl
  ·exact⟨by simp[Z2,Zl],by simp[Z2,Zl],by simp[Z2];simpa using Uu (pl h1) (pl h2) (pl h3) (pl h4) (hl h5)⟩
  ·exact⟨by simp[Z2,ZA,Zl],by simp[Z2,ZA,Zl],by simp[Z2];simpa using WY (pl h1) (pl h2) (pl h3) (pl h4) (hl h5)⟩
 have hc:Z8 xs=true->(Z2 "Cloth" xs).length<=8/\Z2 "Cloth" xs≠[]/\∀p∈Z2 "Cloth" xs,PB p:=λh=>by obtain⟨a,b,c,d,e,f,g,i,j,rfl⟩:=Qy h;simp only[Z8,Ă]at h;obtain⟨⟨⟨⟨h1,h2⟩,h3⟩,⟨h4,h5⟩,h6⟩,⟨h7,h8⟩,h9⟩:=h;exact⟨by simp[Z2],by simp[Z2],by simp[Z2];exact⟨Fy (pl h1) (pl h2)<|gl h3,Fy (pl h4) (pl h5)<|gl h6,Fy (pl h7) (pl h8)<|gl h9⟩⟩
 unfold Z0 at hg;unfold Z6 Zh;by_cases e1:w="post"
 ·rw[if_pos e1]at hg⊢;exact hp hg
 rw[if_neg e1]at hg⊢;by_cases e2:w="fence"
 ·rw[if_pos e2]at hg⊢;exact hf hg
 rw[if_neg e2]at hg⊢;by_cases e3:w="sail"
 ·rw[if_pos e3]at hg⊢;exact hs hg _<|.inl rfl
 rw[if_neg e3]at hg⊢;by_cases e4:w="cloth"
 ·rw[if_pos e4]at hg⊢;exact hc hg
 rw[if_neg e4]at hg⊢;by_cases e5:w="house"
 ·rw[if_pos e5]at hg;exact hs hg _<|.inr rfl
 ·rw[if_neg e5]at hg;cases hg
def Of(w:Str)(xs:List Int)(s:Hu.Pt)(r:P3):Bool:=(Hu.Zs ((Z6 w xs).map (eX r))<|eX r<|qv s).isNone
def WZ(b:Nat):lu (b:Int)= -(b:Int)-1:=rfl
def W_(a b:Nat):nQ a b=((a|||b:Nat):Int):=by
 unfold nQ gG;rw[WZ,WZ];have h1:decide (0<= -(a:Int)-1)=false:=by simp;lia
 have h2:decide (0<= -(b:Int)-1)=false:=by simp;lia
 rw[h1,h2];have e1:(lu<|-(a:Int)-1).toNat=a:=by unfold lu;lia
 have e2:(lu<|-(b:Int)-1).toNat=b:=by unfold lu;lia
 simp only[e1,e2];unfold lu;lia
def Z45(a k:Nat):(a:Int)/2^k=((a>>>k:Nat):Int):=by rw[Nat.shiftRight_eq_div_pow];simp
def W0(a k:Nat):(a:Int)/2^k%2=if a.testBit k then 1 else 0:=by
 rw[Z45];have:(a>>>k)%2=if a.testBit k then 1 else 0:=by
  rw[Nat.testBit];have h:1&&&(a>>>k)=(a>>>k)%2:=by rw[Nat.and_comm];exact Nat.and_one_is_mod _
  rw[h];have:(a>>>k)%2=0\/(a>>>k)%2=1:=by lia
  rcases this with e|e<;>simp[e]
 by_cases q:a.testBit k=true
 ·rw[if_pos q]at this⊢;lia
 ·rw[if_neg q]at this⊢;lia
def W1(a:Int):gG a 1=a%2:=PyProof.Rows.bitAnd_m1 a
def Z3g(f l k:Nat)(h:f<=l):(2^(l+1)-2^f).testBit k=(decide (f<=k)&&decide (k<=l)):=by
 have e:2^(l+1)-2^f=(2^(l+1-f)-1)*2^f:=by rw[Nat.sub_mul,<-Nat.pow_add,wm];congr 2;lia
 rw[e,A2,Nat.testBit_two_pow_sub_one];by_cases h1:f<=k
 ·simp[h1];by_cases h2:k<=l
  ·simp[h2];lia
  ·simp[h2];lia
 ·simp[h1]
def Z23{a n:Nat}(h:∀k,n<=k->a.testBit k=false):a<2^n:=Nat.lt_pow_two_of_testBit a h
def W2{k:Nat}(h:k<=1000000):sX 1 (k:Int)=true:=by unfold sX;simp;lia
def W3{f l:Int}{w:Nat}(hf:0<=f)(hl:l<w)(hw:w<=1000):∃B:Nat,cG [.sh<|.int f,.sh<|.int l]=.ret (.sh<|.int B)/\∀k:Nat,B.testBit k=(decide (f<=k)&&decide ((k:Int)<=l)):=by
 by_cases h:l<f
 ·refine⟨0,by simp[cG,jN,h],λk=>?_⟩;by_cases h1:f<=k
  ·have h2:¬(k:Int)<=l:=by lia
   simp[h2]
  ·simp[h1]
 ·obtain⟨F,rfl⟩:=qE hf;obtain⟨L,rfl⟩:=qE (by lia:0<=l);have e1:=W2 (k:=L+1) (by lia);have e2:=W2 (k:=F) (by lia);have hp:2^F<=2^(L+1):=qY (by lia) (by lia);refine⟨2^(L+1)-2^F,?_,λk=>?_⟩
  ·have t1:((L:Int)+1).toNat=L+1:=by lia
   have t2:((L:Int)+1)=((L+1:Nat):Int):=by lia
   simp only[qF,Int.cast_ofNat_Int]at e1;have h':¬(L:Int)<F:=h;simp[cG,jN,h',e1,e2,t1];rw[Int.natCast_sub hp];simp
  ·rw[Z3g F L k<|by lia];simp
def inR(L:List Hu.Ln)(u q k:Int):Prop:=∀l∈L,l.1*(u*k)+l.2.1*(u*q)<=l.2.2
def W4{a b k:Int}(hb:0<b):k<=a.fdiv b↔k*b<=a:=by rw[nc _<|vO hb];exact AM hb
def De(s0:Ű)(u q:Int)(w:Nat)(f la:Int)(r:Ű×Ű×Ű×Ű×Ű):ċ:=[s0,.sh<|.int u,.sh<|.int q,.sh<|.int w,.sh<|.int f,.sh<|.int la,r.1,r.2.1,r.2.2.1,r.2.2.2.1,r.2.2.2.2]
def FQ(l:Hu.Ln)(s9 Lm:Ű):Ű×Ű×Ű×Ű×Ű:=(.sh<|.int l.1,.sh<|.int l.2.1,.sh<|.int l.2.2,s9,Lm)
def Z3h{u q:Int}{w:Nat}(hu:0<u)(IM:u<=10000000)(hq:0<=q)(Cr:q<=1000)(s0:Ű){l:Hu.Ln}(hl:FP l){f la:Int}(h1:0<=f)(h2:la<w)(s9 Lm:Ű):
 (∃f' Fz r,ϕ (De s0 u q w f la<|FQ l s9 Lm)=.ok .nx (De s0 u q w f' Fz r)/\0<=f'/\Fz<w/\∀k:Int,(f'<=k/\k<=Fz)↔(f<=k/\k<=la/\l.1*(u*k)+l.2.1*(u*q)<=l.2.2))\/
 (∃U',ϕ (De s0 u q w f la<|FQ l s9 Lm)=.ok (.rt<|.sh<|.int 0) U'/\∀k:Int,¬l.1*(u*k)+l.2.1*(u*q)<=l.2.2):=by
 have m1:Ě l.1 u=true:=œ (by have:=hl.1;lia) (by have:=hl.2.1;lia);have m2:Ě l.2.1 u=true:=œ (by have:=hl.2.2.1;lia) (by have:=hl.2.2.2;lia);have m3:Ě (l.2.1*u) q=true:=Cq (by lia) (by lia);have bs:=Od hl.1 hl.2.1 (show -10000000<=u by lia) IM;have Q4:∀k:Int,l.1*(u*k)+l.2.1*(u*q)<=l.2.2↔k*(l.1*u)<=l.2.2-l.2.1*u*q:=λk=>by rw[<-bj,dP<|l.1*u,<-bj l.2.1];lia
 generalize mZ:l.1*u=st,Qz:l.2.2-l.2.1*u*q=ro at*;simp only[Q4];clear Q4;have dv:∀z,st=z\/st= -z->0<z->kr ro z=true:=λz h1 h2=>yR (by lia) (ř (oJ (n:=200) (by lia)<|by lia)<|by decide);by_cases c1:0<st
 ·refine .inl ⟨f,min la<|ro.fdiv st,FQ l (.sh<|.int st)<|.sh<|.int ro,?_,h1,by lia,λk=>?_⟩
  ·simp[De,FQ,ϕ,m1,m2,m3,mZ,Qz,c1,dv st (.inl rfl) c1];split<;>lia
  ·have:=W4 (a:=ro) (k:=k) c1;lia
 ·by_cases c2:st<0
  ·refine .inl ⟨max f<|-(ro.fdiv<|-st),la,FQ l (.sh<|.int st)<|.sh<|.int ro,?_,by lia,h2,λk=>?_⟩
   ·simp[De,FQ,ϕ,m1,m2,m3,mZ,Qz,c1,c2,dv (-st) (.inr<|by lia)<|by lia];split<;>lia
   ·have:=W4 (a:=ro) (b:=-st) (k:=-k) (by lia);rw[qB]at this;lia
  ·have c0:st=0:=by omega
   subst c0;by_cases c3:ro<0
   ·exact .inr ⟨_,by simp[De,FQ,ϕ,m1,m2,m3,mZ,Qz,c3];rfl,λk=>by lia⟩
   ·exact .inl ⟨f,la,FQ l (.sh<|.int 0)<|.sh<|.int ro,by simp[De,FQ,ϕ,m1,m2,m3,mZ,Qz,c3],h1,h2,λk=>by lia⟩
def Z3i{u q:Int}{w:Nat}(hu:0<u)(IM:u<=10000000)(hq:0<=q)(Cr:q<=1000)(s0:Ű){L:List Hu.Ln}(hS:∀l∈L,FP l){f la:Int}(r:Ű×Ű×Ű×Ű×Ű)(h1:0<=f)(h2:la<w):
 (∃f' Fz r',ĺ (gT 3<|ï (gN 6)<|ï (gN 7)<|ï (gN 8) ϒ) ϕ (L.map gj) (De s0 u q w f la r)=.ok .nx (De s0 u q w f' Fz r')/\0<=f'/\Fz<w/\∀k:Int,(f'<=k/\k<=Fz)↔(f<=k/\k<=la/\inR L u q k))\/
 (∃U',ĺ (gT 3<|ï (gN 6)<|ï (gN 7)<|ï (gN 8) ϒ) ϕ (L.map gj) (De s0 u q w f la r)=.ok (.rt<|.sh<|.int 0) U'/\∀k:Int,¬inR L u q k):=by
 induction L generalizing f la r with
 |nil=>exact .inl ⟨f,la,r,rfl,h1,h2,λk=>by simp[inR]⟩
 |cons l L ih=>
  have ic:∀k,inR (l::L) u q k↔l.1*(u*k)+l.2.1*(u*q)<=l.2.2/\inR L u q k:=λk=>ny;have gg:gT 3 (ï (gN 6)<|ï (gN 7)<|ï (gN 8) ϒ) (gj l) (De s0 u q w f la r)=some (De s0 u q w f la<|FQ l r.2.2.2.1 r.2.2.2.2):=rfl;rw[á,ĺ,gg];dsimp only;simp only[ic];rcases Z3h hu IM hq Cr s0 (hS l ϝ) h1 h2 r.2.2.2.1 r.2.2.2.2 with⟨f1,la1,r1,e,a,b,c⟩|⟨U',e,c⟩
  ·rw[e];rcases ih (λx hx=>hS x<|ð _ hx) r1 a b with⟨f',Fz,r',q1,q2,q3,q4⟩|⟨U',q1,q2⟩
   ·exact .inl ⟨f',Fz,r',q1,q2,q3,λk=>by rw[q4,<-and_assoc,c];simp only[and_assoc]⟩
   ·exact .inr ⟨U',q1,λk h=>q2 k h.2⟩
  ·rw[e];exact .inr ⟨U',rfl,λk h=>c k h.1⟩
def Z4J{u q:Int}{w:Nat}(hu:0<u)(IM:u<=10000000)(hq:0<=q)(Cr:q<=1000)(hw:w<=1000){L:List Hu.Ln}(hS:∀l∈L,FP l){sl:Ű}(hs:Sl sl (L.map gj)):
 ∃B:Nat,gc [sl,.sh<|.int u,.sh<|.int q,.sh<|.int w]=.ret (.sh<|.int B)/\∀k:Nat,B.testBit k=true↔(k<w/\inR L u q k):=by
 rcases Z3i (w:=w) (f:=0) (la:=w-1) hu IM hq Cr sl hS (.no,.no,.no,.no,.no) (by lia) (by lia)with⟨f',Fz,r',q1,q2,q3,q4⟩|⟨U',q1,q2⟩<;>simp only[De]at q1
 ·obtain⟨B,b1,b2⟩:=W3 (f:=f') (l:=Fz) q2 q3 hw;refine⟨B,by rcases hs with rfl|rfl<;>simp[gc,kK,Ù,q1,b1],λk=>?_⟩;rw[b2,Ă,decide_eq_true_eq,decide_eq_true_eq,q4 k];constructor
  ·rintro ⟨a,b,c⟩;exact⟨by lia,c⟩
  ·rintro ⟨a,b⟩;exact⟨by lia,by lia,b⟩
 ·refine⟨0,by rcases hs with rfl|rfl<;>simp[gc,kK,Ù,q1],λk=>?_⟩;simp;exact λ_=>q2 k
abbrev Th:=Str×List Int
def pM(t:Th):PV:=Z9 (Zh t.1) t.1 t.2
def ak:Option P3->PV
 |none=>.non|some r=>c3 r
abbrev Dy:=Str×Int×List (Option P3)
def pf(d:Dy):PV:=.tup [.str d.1,.int d.2.1,.lst<|d.2.2.map ak]
def Z3(w h:Int)(T:List Th)(D:List Dy):PV:=.ins "Yard" ["width","height","things","days"] [.int w,.int h,.lst<|T.map pM,.lst<|D.map pf]
def ywh:(Æ "width"=Æ "height")=False:=eq_false (by decide+kernel)
def ywt:(Æ "width"=Æ "things")=False:=eq_false (by decide+kernel)
def ywd:(Æ "width"=Æ "days")=False:=eq_false (by decide+kernel)
def yht:(Æ "height"=Æ "things")=False:=eq_false (by decide+kernel)
def yhd:(Æ "height"=Æ "days")=False:=eq_false (by decide+kernel)
def ytd:(Æ "things"=Æ "days")=False:=eq_false (by decide+kernel)
def LB(w h:Int)(T:List Th)(D:List Dy):Ŝ ["Yard"] (Æ "width") (Z3 w h T D)=some (.int w):=by unfold Ŝ Z3;simp
def Og(w h:Int)(T:List Th)(D:List Dy):Ŝ ["Yard"] (Æ "height") (Z3 w h T D)=some (.int h):=by
 have:(Æ "height"==Æ "width")=false:=by decide+kernel
 unfold Ŝ Z3;simp[Ř,this]
def y_t(w h:Int)(T:List Th)(D:List Dy):Ŝ ["Yard"] (Æ "things") (Z3 w h T D)=some (.lst<|T.map pM):=by
 have e1:(Æ "things"==Æ "width")=false:=by decide+kernel
 have e2:(Æ "things"==Æ "height")=false:=by decide+kernel
 unfold Ŝ Z3;simp[Ř,e1,e2]
def QA(w h:Int)(T:List Th)(D:List Dy):Ŝ ["Yard"] (Æ "days") (Z3 w h T D)=some (.lst<|D.map pf):=by
 have e1:(Æ "days"==Æ "width")=false:=by decide+kernel
 have e2:(Æ "days"==Æ "height")=false:=by decide+kernel
 have e3:(Æ "days"==Æ "things")=false:=by decide+kernel
 unfold Ŝ Z3;simp[Ř,e1,e2,e3]
def Z4K{k q w:Nat}(hw:0<w):(q*w<=k/\k-q*w<w)↔k/w=q:=by
 constructor
 ·rintro ⟨a,b⟩;exact Nat.div_eq_of_lt_le a (by rw[qZ];lia)
 ·rintro rfl;have h1:=Nat.div_mul_le_self k w;have h2:=nC k hw;have h3:=A3 (x:=k) (k:=w);lia
def Z4L{k q w:Nat}(h:k/w=q):k-q*w=k%w:=by subst h;exact(A3).symm
def LC{k w h:Nat}(hw:0<w):k/w<h↔k<w*h:=by rw[Nat.div_lt_iff_lt_mul hw,q_]
def ff(w k:Nat):Hu.Pt:=(((k%w:Nat):Int),((k/w:Nat):Int))
def Z46{S:List Hu.Pt}{r:P3}{p q:Int}:inR (Hu.Zq S) (2*r.2.2) q p↔(Hu.Zs S<|eX r<|qv (p,q)).isNone=true:=by
 have e:eX r (qv (p,q))=(2*r.2.2*p,2*r.2.2*q):=by unfold eX qv;simp only[Int.mul_zero,Int.add_zero,wr];constructor<;>grind
 rw[e];unfold Hu.Zs inR Hu.hd;rw[Option.isNone_iff_eq_none,List.find?_eq_none];simp
theorem Uv{α:Type}(y:α):∀(xs b:List α),y∈xs.foldl (λb x=>x::b) b↔(y∈xs\/y∈b)
 |[],b=>by simp|x::xs,b=>by rw[ϡ,Uv y xs (x::b)];simp;grind
def kf(t:Th)(s:Hu.Pt)(r:P3):Bool:=Of t.1 t.2 s r
def Z2C{w h:Nat}(hw:0<w)(F9:w<=60)(hh:h<=1000)(T:List Th)(Ds:List Dy){t:Th}(hg:Z0 t.1 t.2=true){r:P3}(hr:RB r)(hz:0<r.2.2):
 ∃D:Nat,fN [.sh<|Z3 w h T Ds,.sh<|pM t,.sh<|c3 r]=.ret (.sh<|.int D)/\∀k,D.testBit k=(decide (k<w*h)&&kf t (ff w k) r):=by
 obtain⟨g1,g2,g3⟩:=ZZ hg;have hc:=WX hg (by lia) hr;have hS:∀p∈(Z6 t.1 t.2).map (eX r),Sm p:=by intro p hp;obtain⟨q,hq,rfl⟩:=Đ.mp hp;exact Oe hr<|g3 q hq
 have hl:=WM (sl:=.sh<|.lst<|((Z6 t.1 t.2).map (eX r)).map pt) (.inl rfl) hS (by simpa using g2) (by simp;lia);have hls:∀l∈Hu.Zq ((Z6 t.1 t.2).map (eX r)),FP l:=λl h=>Uo h hS;have yw:=LB w h T Ds;have yh:=Og w h T Ds;have hv:(2:Int)*r.2.2<=10000000:=by have:=hr.2.2.2.2.2;lia
 generalize hX:Hu.Zq ((Z6 t.1 t.2).map (eX r))=X,hY:Z3 w h T Ds=Y at*;have LO:ß (c3 r) (.int 2)=some (.int r.2.2):=by simp[c3]
 obtain⟨U',e1,D,s5,rfl,hD⟩:=lF (g:=gN 5) (mb:=jO) (λ(q:Nat)=>PV.int q) (λ(b:List Nat) (x:Nat)=>x::b) (λb U=>∃(D:Nat) (s5:Ű),U=[.sh Y,.sh<|pM t,.sh<|c3 r,.ow<|X.map gj,.sh<|.int D,s5]/\∀k,D.testBit k=true↔(k/w∈b/\kf t (ff w k) r=true)) (å h) (by
  rintro q hq b U ⟨D,s5,rfl,hD⟩;have hq:=Ϝ.mp hq;obtain⟨B,b1,b2⟩:=Z4J (u:=2*r.2.2) (q:=q) (w:=w) (by lia) hv (by lia) (by lia) (by lia) hls (sl:=.bw<|X.map gj)<|.inr rfl;have hB:B<2^w:=Z23 λk hk=>by
   have:=b2 k;cases e:B.testBit k with
   |false=>rfl|true=>have:=(this.mp e).1;lia
  have hB2:B<2^60:=Š hB (qY (by lia) F9);have hqw:q*w<=1000*60:=bt (by lia) F9;have so:sX (B:Int) ((q:Int)*(w:Int))=true:=by
   have:((q:Int)*(w:Int))=((q*w:Nat):Int):=by simp
   rw[this];unfold sX;simp;lia
  have mo:Ě (q:Int) (w:Int)=true:=œ (by lia) (by lia);have tn:((q:Int)*(w:Int)).toNat=q*w:=by
   have:((q:Int)*(w:Int))=((q*w:Nat):Int):=by simp
   rw[this];rfl
  obtain⟨Z,hZ⟩:∃Z:Nat,Z=D|||B*2^(q*w):=⟨_,rfl⟩
  have oe:nQ (D:Int) ((B:Int)*2^(q*w))=(Z:Int):=by
   have ee:(B:Int)*2^(q*w)=((B*2^(q*w):Nat):Int):=by simp
   rw[ee,W_,hZ]
  have m2:Ě 2 r.2.2=true:=œ (by lia) (by lia);generalize c3 r=R at*;have st:jO [.sh Y,.sh<|pM t,.sh R,.ow<|X.map gj,.sh<|.int D,.sh<|.int q]=.ok .nx [.sh Y,.sh<|pM t,.sh R,.ow<|X.map gj,.sh<|.int Z,.sh<|.int q]:=by simp[jO,LO,yw,b1,mo,so,tn,oe]
  refine⟨_,_,rfl,st,_,_,rfl,λk=>?_⟩;rw[hZ,Nat.testBit_or,m_,hD,A2,Ă,decide_eq_true_eq,b2,ö,<-hX,Z46];have key:∀(_:k/w=q),((Hu.Zs ((Z6 t.1 t.2).map (eX r))<|eX r<|qv (((k-q*w:Nat):Int),(q:Int))).isNone=true↔kf t (ff w k) r=true):=by intro hk;unfold kf Of ff;rw[Z4L hk,hk]
  have d:=Z4K (k:=k) (q:=q) hw;constructor
  ·rintro (⟨a,b⟩|⟨a,b,c⟩)
   ·exact⟨.inr a,b⟩
   ·have:=d.mp ⟨a,b⟩;exact⟨.inl this,(key this).mp c⟩
  ·rintro ⟨a|a,b⟩
   ·have:=d.mpr a;exact .inr ⟨this.1,this.2,(key a).mpr b⟩
   ·exact .inl ⟨a,b⟩) [] [.sh Y,.sh<|pM t,.sh<|c3 r,.ow<|X.map gj,.sh<|.int ((0:Nat):Int),.no] ⟨0,.no,rfl,by simp⟩
 refine⟨D,?_,λk=>?_⟩
 ·have rr:=Zt hh;have Op:ϭ [.sh<|pM t,.sh<|c3 r]=.ret (.ow<|((Z6 t.1 t.2).map (eX r)).map pt):=hc;simp[fN,ui,Ù,Op,hl,yh,rr,-Ğ]at e1⊢;simp[e1]
 ·have:=hD k;rw[Uv,Ϝ,LC hw]at this;rw[gp,this,Ă,decide_eq_true_eq];simp
def ZB:Nat->(Nat->Bool)->Nat
 |0,_=>0|n+1,p=>ZB n p+if p n then 2^n else 0
theorem Uw(p:Nat->Bool):∀n,ZB n p<2^n
 |0=>by simp[ZB]|n+1=>by have:=Uw p n;unfold ZB;rw[Nat.pow_succ];split<;>lia
theorem ZG(p:Nat->Bool):∀n k,(ZB n p).testBit k=(decide (k<n)&&p k)
 |0,k=>by simp[ZB]|n+1,k=>by
  have hl:=Uw p n;unfold ZB;by_cases h:k<n
  ·have ih:=ZG p n k;have h1:k<n+1:=by lia
   split
   ·rw[nB,Nat.testBit_two_pow_add_gt h,ih];simp[h,h1]
   ·rw[Nat.add_zero,ih];simp[h,h1]
  ·by_cases h2:k=n
   ·subst h2;split
    ·rename_i q;rw[nB,Nat.testBit_two_pow_add_eq,wo hl];simp[q]
    ·rename_i q;rw[Nat.add_zero,wo hl];simp[q]
   ·have h3:¬k<n+1:=by lia
    have:ZB n p+(if p n=true then 2^n else 0)<2^k:=by refine Š (Uw p<|n+1) (qY (by lia)<|by lia)
    rw[wo this];simp[h3]
def Ux{n:Nat}{p:Nat->Bool}{D:Nat}(h:∀k,D.testBit k=(decide (k<n)&&p k)):D=ZB n p:=Nat.eq_of_testBit_eq λk=>by rw[h,ZG]
def uo(w h:Nat)(r:P3)(t:Th):Nat:=ZB (w*h) λk=>kf t (ff w k) r
def HD(w:Nat)(T:List Th):Option P3->Nat->Bool
 |none,_=>true|some r,k=>T.any λt=>kf t (ff w k) r
def kQ(w h:Nat)(T:List Th)(o:Option P3):Nat:=ZB (w*h)<|HD w T o
def Oh(o:Option P3):Prop:=match o with|none=>True|some r=>RB r/\0<r.2.2
def Z24{w h:Nat}(hw:0<w)(F9:w<=60)(hh:h<=1000)(T:List Th)(Ds:List Dy){t:Th}(hg:Z0 t.1 t.2=true){r:P3}(hr:RB r)(hz:0<r.2.2):
 fN [.sh<|Z3 w h T Ds,.sh<|pM t,.sh<|c3 r]=.ret (.sh<|.int<|uo w h r t):=by
 obtain⟨D,h1,h2⟩:=Z2C hw F9 hh T Ds hg hr hz;rw[h1,Ux h2];rfl
def W5{w h:Nat}(hw:0<w)(F9:w<=60)(hh:h<=1000){T:List Th}(hT:T.length<=1000)(Ds:List Dy)(hg:∀t∈T,Z0 t.1 t.2=true){r:P3}(hr:RB r)(hz:0<r.2.2):
 ϖ [.sh<|Z3 w h T Ds,.sh<|c3 r]=.ret (.ow<|T.map λt=>.int<|uo w h r t):=by
 have yt:=y_t w h T Ds;have hc:=ē (g:=gN 2) (mt:=Ĕ) (me:=Ý<|à fN<|Í 0<|Í 2<|Í 1 Ú) pM (λt=>.int<|uo w h r t) (λU=>∃s,U=[.sh<|Z3 w h T Ds,.sh<|c3 r,s]) T [.sh<|Z3 w h T Ds,.sh<|c3 r,.no] [] ⟨_,rfl⟩ (by simp;lia) (by
  rintro t ht U ⟨s,rfl⟩;have e:=Z24 hw F9 hh T Ds (hg t ht) hr hz;generalize Z3 w h T Ds=Y,c3 r=R at*;refine⟨_,_,_,rfl,rfl,by simp[e];rfl,_,rfl⟩)
 simp[ϖ,ge,Ù,yt];simp at hc;simp[hc]
def Z47{w h:Nat}(hw:0<w)(F9:w<=60)(hh:h<=1000)(Uy:w*h<=1000){T:List Th}(hT:T.length<=1000)(Ds:List Dy)(hg:∀t∈T,Z0 t.1 t.2=true){o:Option P3}(ho:Oh o):
 pJ [.sh<|Z3 w h T Ds,.sh<|ak o]=.ret (.sh<|.int<|kQ w h T o):=by
 have yw:=LB w h T Ds;have yh:=Og w h T Ds;have mo:Ě (w:Int) (h:Int)=true:=œ (by lia) (by lia);cases o with
 |none=>
  obtain⟨B,b1,b2⟩:=W3 (f:=0) (l:=(w:Int)*h-1) (w:=w*h) (by lia) (by rw[ng];lia) Uy;have:B=kQ w h T none:=Ux λk=>by
   rw[b2];simp[HD];have:((w*h:Nat):Int)=(w:Int)*h:=by simp
   lia
  subst this;generalize Z3 w h T Ds=Y at*;simp[pJ,yf,Ù,ak,yw,yh,mo,b1,ur]
 |some r=>
  have ho:RB r/\0<r.2.2:=ho;have hd:=W5 hw F9 hh hT Ds hg ho.1 ho.2;obtain⟨U',e1,D,s3,rfl,hD⟩:=lF (g:=gN 3) (mb:=ye) (λ(t:Th)=>PV.int<|uo w h r t) (λ(b:List Th) (x:Th)=>x::b) (λb U=>∃(D:Nat) (s3:Ű),U=[.sh<|Z3 w h T Ds,.sh<|c3 r,.sh<|.int D,s3]/\∀k,D.testBit k=true↔(k<w*h/\∃t∈b,kf t (ff w k) r=true)) T (by
   rintro t ht b U ⟨D,s3,rfl,hD⟩;refine⟨_,_,rfl,by simp[ye,W_];exact⟨rfl,rfl⟩,_,_,rfl,λk=>?_⟩;rw[Nat.testBit_or,m_,hD,uo,ZG,Ă,decide_eq_true_eq];simp;grind) [] [.sh<|Z3 w h T Ds,.sh<|c3 r,.sh<|.int ((0:Nat):Int),.no] ⟨0,.no,rfl,by simp⟩
  have:D=kQ w h T (some r):=Ux λk=>by have:=hD k;rw[gp,this];simp only[Uv,HD,br,or_false,Ă,decide_eq_true_eq,wf]
  subst this;have hn:tq (c3 r) .non=some (.bl false):=by simp[c3,ur]
  generalize Z3 w h T Ds=Y at*;show pJ [.sh Y,.sh<|c3 r]=_;simp at e1;generalize c3 r=R at*;have hn:ur R=false:=by simpa using hn
  simp[pJ,yf,Ù,hd,hn,e1]
def Oi:Option Hu.Ln->PV
 |some l=>gj l|none=>.non
def Z25{S:List Hu.Pt}{sl:Ű}(hs:Sl sl (S.map pt))(hS:∀p∈S,Sm p)(h0:S≠[])(hl:S.length<=1000)(p:Hu.Pt):bf [sl,.sh<|pt p]=.ret (.sh<|Oi<|Hu.Zs S p):=by
 have h1:=WM hs hS h0 hl;have e:(Hu.Zq S).findSome? (λl=>if Hu.hd l p=true then none else some l)=Hu.Zs S p:=by
  unfold Hu.Zs;generalize Hu.Zq S=L
  induction L with
  |nil=>rfl|cons l L ih=>
   rw[qN,qP];cases q:Hu.hd l p with
   |true=>simpa using ih|false=>simp
 rcases iE (g:=gN 2) (mb:=cn) gj (λl=>if Hu.hd l p=true then none else some l) (λl=>.sh<|gj l) (λU=>∃s2,U=[sl,.sh<|pt p,s2]) (Hu.Zq S) (by
  rintro l hm U ⟨s2,rfl⟩;refine⟨[sl,.sh<|pt p,.sh<|gj l],by simp,?_⟩;have hh:=WG (Uo hm hS) p;cases q:Hu.hd l p with
  |true=>rw[q]at hh;exact .inr ⟨[sl,.sh<|pt p,.sh<|gj l],by simp,by simp[cn,hh],_,rfl⟩|false=>rw[q]at hh;exact .inl ⟨l,[sl,.sh<|pt p,.sh<|gj l],by simp,by simp[cn,hh]⟩) [sl,.sh<|pt p,.no] ⟨_,rfl⟩with⟨l,U',q1,q2⟩|⟨U',q1,q2,_⟩
 ·rw[e]at q1;rw[q1];simp[bf,eW,Ù,hs.lend,h1,q2,Oi]
 ·rw[e]at q1;rw[q1];simp[bf,eW,Ù,hs.lend,h1,q2,Oi]
def uw(q:Nat×Nat):PV:=.tup [.int q.1,.int q.2]
def zE(q:Nat×Nat×Nat):PV:=.tup [.int q.1,.int q.2.1,.int q.2.2]
def Z2D(j:Nat)(hj:j<=1000)(acc:List PV)(s0:Ű)(ha:acc.length+j<=16777216):bg [s0,.ow acc,.sh<|.int j]=.ok .nx [s0,.ow<|acc++((å j).map λi=>(i,j)).map uw,.sh<|.int j]:=by
 have c1:Ģ (gN 1) Ĕ (Ō<|É (ä 1)<|É (ä 0) ã) ((å j).map λ(i:Nat)=>PV.int (i:Int)) [.sh<|.int j,.no] []=some (((å j).map λi=>(i,j)).map uw):=by
  have:=ē (g:=gN 1) (mt:=Ĕ) (me:=Ō<|É (ä 1)<|É (ä 0) ã) (λ(i:Nat)=>PV.int (i:Int)) (λi=>uw (i,j)) (λU=>∃s,U=[.sh<|.int j,s]) (å j) [.sh<|.int j,.no] [] ⟨_,rfl⟩ (by simp;lia) (by
   rintro x hx U ⟨s,rfl⟩;exact⟨[.sh<|.int j,.sh<|.int x],[.sh<|.int j,.sh<|.int x],[.sh<|.int j,.sh<|.int x],by simp,by simp,by simp[uw],_,rfl⟩)
  rw[this,Ğ];rfl
 have hl:acc.length+(((å j).map λi=>(i,j)).map uw).length<=16777216:=by simpa using ha
 generalize ((å j).map λi=>(i,j)).map uw=qs at c1 hl;simp[bg,Zt hj,c1,hl]
def W6(k:Nat):Hu.Zc (k+1)=Hu.Zc k++(å k).map λi=>(i,k):=by unfold Hu.Zc;rw[qU,AY];simp
theorem ZK:∀n,(Hu.Zc n).length<=n*n
 |0=>by simp[Hu.Zc]|n+1=>by have:=ZK n;rw[W6,Ϟ,ħ,vV,Nat.succ_mul,Nat.mul_succ];lia
def W7(k:Nat):Hu.Ze (k+1)=Hu.Ze k++(Hu.Zc k).map λq=>(q.1,q.2,k):=by unfold Hu.Ze;rw[qU,AY];simp
theorem QB{g:Tg}{mb:M Fl}(nb:∀U U',mb U≠.ok .bk U'):∀(xs ys:List PV) (U U1:ċ),ĺ g mb xs U=.ok .nx U1->ĺ g mb (xs++ys) U=ĺ g mb ys U1
 |[],ys,U,U1,h=>by have e:ĳ.ok Fl.nx U=.ok .nx U1:=h;cases e;rfl|x::xs,ys,U,U1,h=>by
  rw[dQ,ĺ];rw[ĺ]at h;cases e:g x U with
  |none=>rw[e]at h;cases h|some U2=>
   rw[e]at h;dsimp only at h⊢;cases e2:mb U2 with
   |bad=>rw[e2]at h;cases h|exc x U3=>rw[e2]at h;cases h|ok f U3=>
    rw[e2]at h;cases f with
    |nx=>exact QB nb xs ys U3 U1 h|ct=>exact QB nb xs ys U3 U1 h|bk=>exact absurd e2<|nb U2 U3|rt r=>cases h
def W8{g:Tg}{mb:M Fl}{p:PV}{U U1 U2:ċ}(h1:g p U=some U1)(h2:mb U1=.ok .nx U2):ĺ g mb [p] U=.ok .nx U2:=by rw[ĺ,h1];dsimp only;rw[h2];rfl
def W9{i:Nat}{mo:M RV}{U U':ċ}:C2 i mo U≠.ok .bk U':=by
 unfold C2;intro h;split at h
 ·cases e:mo U with
  |bad=>rw[e]at h;cases h|exc x U1=>rw[e]at h;cases h|ok r U1=>
   rw[e]at h;simp only[ĳ.aL]at h;split at h
   ·split at h<;>cases h
   ·cases h
 ·cases h
def Xa(n:Nat)(hn:n<=100):bW [.sh<|.int n]=.ret (.ow<|(Hu.Zc n).map uw):=by
 have key:∀k,k<=n->∃s2,ĺ (gN 2) bg ((å k).map λ(i:Nat)=>PV.int (i:Int)) [.sh<|.int n,.ow [],.no]=.ok .nx [.sh<|.int n,.ow<|(Hu.Zc k).map uw,s2]:=by
  intro k
  induction k with
  |zero=>intro _;exact⟨.no,rfl⟩|succ k ih=>intro hk;obtain⟨s2,e⟩:=ih (by lia);refine⟨.sh<|.int k,?_⟩;rw[qU,ş,QB (mb:=bg) (λ_ _=>W9) _ _ _ _ e,W6,ş];have hlen:=ZK k;have hm:k*k<=100*100:=bt (by lia) (by lia);exact W8 rfl (Z2D k (by lia) ((Hu.Zc k).map uw) (.sh<|.int n) (by rw[ħ];lia))
 obtain⟨s2,e⟩:=key n<|ø n;have hr:=Zt (show n<=1000 by lia);simp[bW,kO,Ù,hr,e]
def Z1D(k:Nat)(hk:k<=100)(acc:List PV)(s0:Ű)(ha:acc.length<=10000000):Ϯ [s0,.ow acc,.sh<|.int k]=.ok .nx [s0,.ow<|acc++((Hu.Zc k).map λq=>(q.1,q.2,k)).map zE,.sh<|.int k]:=by
 have hlen:=ZK k;have hm:k*k<=100*100:=bt (by lia) (by lia);have c1:Ģ (gN 1) Ĕ (Ō<|É (Ê ß (Â 1)<|Å 0)<|É (Ê ß (Â 1)<|Å 1)<|É (ä 0) ã) ((Hu.Zc k).map uw) [.sh<|.int k,.no] []=some (((Hu.Zc k).map λq=>(q.1,q.2,k)).map zE):=by
  have:=ē (g:=gN 1) (mt:=Ĕ) (me:=Ō<|É (Ê ß (Â 1)<|Å 0)<|É (Ê ß (Â 1)<|Å 1)<|É (ä 0) ã) uw (λq=>zE (q.1,q.2,k)) (λU=>∃s,U=[.sh<|.int k,s]) (Hu.Zc k) [.sh<|.int k,.no] [] ⟨_,rfl⟩ (by simp;lia) (by
   rintro x hx U ⟨s,rfl⟩;exact⟨[.sh<|.int k,.sh<|uw x],[.sh<|.int k,.sh<|uw x],[.sh<|.int k,.sh<|uw x],by simp,by simp,by simp[uw,zE],_,rfl⟩)
  rw[this,Ğ];rfl
 have hl:acc.length+(((Hu.Zc k).map λq=>(q.1,q.2,k)).map zE).length<=16777216:=by simp;lia
 have hp:=Xa k hk;generalize ((Hu.Zc k).map λq=>(q.1,q.2,k)).map zE=qs at c1 hl;simp[Ϯ,hp,c1,hl]
theorem Xb:∀n,n<=100->(Hu.Ze n).length<=n*10000
 |0,_=>by simp[Hu.Ze]|n+1,h=>by have:=Xb n (by lia);have h2:=ZK n;have hm:n*n<=100*100:=bt (by lia) (by lia);rw[W7,Ϟ,ħ];lia
def Z26(n:Nat)(hn:n<=100):cq [.sh<|.int n]=.ret (.ow<|(Hu.Ze n).map zE):=by
 have key:∀k,k<=n->∃s2,ĺ (gN 2) Ϯ ((å k).map λ(i:Nat)=>PV.int (i:Int)) [.sh<|.int n,.ow [],.no]=.ok .nx [.sh<|.int n,.ow<|(Hu.Ze k).map zE,s2]:=by
  intro k
  induction k with
  |zero=>intro _;exact⟨.no,rfl⟩|succ k ih=>intro hk;obtain⟨s2,e⟩:=ih (by lia);refine⟨.sh<|.int k,?_⟩;rw[qU,ş,QB (mb:=Ϯ) (λ_ _=>W9) _ _ _ _ e,W7,ş];have hlen:=Xb k (by lia);exact W8 rfl (Z1D k (by lia) ((Hu.Ze k).map zE) (.sh<|.int n) (by rw[ħ];lia))
 obtain⟨s2,e⟩:=key n<|ø n;have hr:=Zt (show n<=1000 by lia);simp[cq,iO,Ù,hr,e]
def W(x:Int):Prop:=-100000000000000000000000000000000000000000000000000<x/\x<100000000000000000000000000000000000000000000000000
theorem W.bits{x:Int}(h:W x):bits x<=200:=oJ (n:=200) (by have:=h.1;lia) (by have:=h.2;lia)
def IP{a b:Int}(h1: -100000000000000000<=a)(h2:a<=100000000000000000)(h3: -100000000000000000<=b)(h4:b<=100000000000000000): -200000000000000000<=a-b/\a-b<=200000000000000000:=by lia
def LD{a b c d:Int}(h1: -c<=a)(h2:a<=c)(h3: -d<=b)(h4:b<=d)(hc:0<=c)(hd:0<=d): -(c*d)<=a*b/\a*b<=c*d:=by have e1:(a*b).natAbs=a.natAbs*b.natAbs:=qD a b;have e2:a.natAbs*b.natAbs<=c.natAbs*d.natAbs:=bt (by lia) (by lia);have e3:(c*d).natAbs=c.natAbs*d.natAbs:=qD c d;have e4:0<=c*d:=Ŏ hc hd;lia
def Uz{a b c:Hu.Pt}(ha:Sm a)(hb:Sm b)(hc:Sm c):iQ [.sh<|pt a,.sh<|pt b,.sh<|pt c]=.ret (.sh<|.int<|Hu.tn a b c):=by obtain⟨a1,a2,a3,a4⟩:=ha;obtain⟨b1,b2,b3,b4⟩:=hb;obtain⟨c1,c2,c3,c4⟩:=hc;have m1:Ě (b.1-a.1) (c.2-a.2)=true:=œ (by lia) (by lia);have m2:Ě (b.2-a.2) (c.1-a.1)=true:=œ (by lia) (by lia);simp[iQ,vD,Ù,pt,Hu.tn,m1,m2]
def UA{a b c:Hu.Pt}(ha:Sm a)(hb:Sm b)(hc:Sm c): -80000000000000000000000000000000000<=Hu.tn a b c/\Hu.tn a b c<=80000000000000000000000000000000000:=by obtain⟨a1,a2,a3,a4⟩:=ha;obtain⟨b1,b2,b3,b4⟩:=hb;obtain⟨c1,c2,c3,c4⟩:=hc;obtain⟨x1,x2⟩:=IP b1 b2 a1 a2;obtain⟨y1,y2⟩:=IP c3 c4 a3 a4;obtain⟨z1,z2⟩:=IP b3 b4 a3 a4;obtain⟨w1,w2⟩:=IP c1 c2 a1 a2;obtain⟨p1,p2⟩:=LD x1 x2 y1 y2 (by decide) (by decide);obtain⟨q1,q2⟩:=LD z1 z2 w1 w2 (by decide) (by decide);unfold Hu.tn;lia
def Z3k{a b c p:Hu.Pt}(ha:Sm a)(hb:Sm b)(hc:Sm c)(hp:Sm p):aQ [.sh<|.lst [pt a,pt b,pt c],.sh<|pt p]=.ret (.ow<|(Hu.qt a b c p).map .int):=by simp[aQ,gf,Ù,Uz hp hb hc,Uz ha hp hc,Uz ha hb hp,Hu.qt]
def Z4M{a b p:Hu.Pt}(ha:Sm a)(hb:Sm b)(hp:Sm p):cr [.sh<|.lst [pt a,pt b],.sh<|pt p]=.ret (.ow<|(Hu.lH a b p).map .int):=by obtain⟨a1,a2,a3,a4⟩:=ha;obtain⟨b1,b2,b3,b4⟩:=hb;obtain⟨c1,c2,c3,c4⟩:=hp;have m1:∀x,Ě (b.1-a.1) x=true:=λx=>œ (by lia) (by lia);have m2:∀x,Ě (b.2-a.2) x=true:=λx=>œ (by lia) (by lia);simp[cr,iR,Ù,pt,Hu.lH,m1,m2]
def Z5q{a b c p:Hu.Pt}(ha:Sm a)(hb:Sm b)(hc:Sm c)(hp:Sm p):∀s∈Hu.qt a b c p,-400000000000000000000000000000000000<=s/\s<=400000000000000000000000000000000000:=by have h1:=UA hp hb hc;have h2:=UA ha hp hc;have h3:=UA ha hb hp;intro s hs;simp only[Hu.qt,ö,br,or_false]at hs;rcases hs with e|e|e<;>lia
def Z5r{a b p:Hu.Pt}(ha:Sm a)(hb:Sm b)(hp:Sm p):∀s∈Hu.lH a b p,-400000000000000000000000000000000000<=s/\s<=400000000000000000000000000000000000:=by obtain⟨a1,a2,a3,a4⟩:=ha;obtain⟨b1,b2,b3,b4⟩:=hb;obtain⟨c1,c2,c3,c4⟩:=hp;obtain⟨x1,x2⟩:=IP b1 b2 a1 a2;obtain⟨z1,z2⟩:=IP b3 b4 a3 a4;obtain⟨y1,y2⟩:=IP c1 c2 a1 a2;obtain⟨w1,w2⟩:=IP c3 c4 a3 a4;obtain⟨p1,p2⟩:=LD x1 x2 y1 y2 (by decide) (by decide);obtain⟨q1,q2⟩:=LD z1 z2 w1 w2 (by decide) (by decide);obtain⟨r1,r2⟩:=LD x1 x2 x1 x2 (by decide) (by decide);obtain⟨t1,t2⟩:=LD z1 z2 z1 z2 (by decide) (by decide);intro s hs;simp only[Hu.lH,ö,br,or_false]at hs;rcases hs with e|e<;>lia
def KW(w:List Int):Prop:=w.length<=3/\∀s∈w,-400000000000000000000000000000000000<=s/\s<=400000000000000000000000000000000000
theorem KW.sum{w:List Int}(h:KW w): -2000000000000000000000000000000000000<=w.sum/\w.sum<=2000000000000000000000000000000000000:=by
 obtain⟨h1,h2⟩:=h
 match w,h1,h2 with
 |[],_,_=>simp|[a],_,h2=>have:=h2 a (by simp);simp;lia|[a,b],_,h2=>have:=h2 a (by simp);have:=h2 b (by simp);simp;lia|[a,b,c],_,h2=>have:=h2 a (by simp);have:=h2 b (by simp);have:=h2 c (by simp);simp;lia
def ZD{x:Int}(h1: -2000000000000000000000000000000000000<=x)(h2:x<=2000000000000000000000000000000000000):bits x<=200:=oJ (n:=200) (by lia) (by lia)
def Xc{w:List Int}(h:KW w){sl:Ű}(hs:Sl sl (w.map .int)):az [sl]=.ret (.sh<|.bl<|Hu.Zp w):=by
 obtain⟨s1,s2⟩:=h.sum;have hb:=ZD s1 s2;have c1:Ģ (gN 1) Ĕ (Ê EQ (Ê ó (Â 1)<|Â 0)<|Å 0) (w.map .int) [.sh<|.int w.sum,.no] []=some ((w.map λs=>decide<|0<=s*w.sum).map .bl):=by
  have:=ē (g:=gN 1) (mt:=Ĕ) (me:=Ê EQ (Ê ó (Â 1)<|Â 0)<|Å 0) PV.int (λs=>.bl<|decide<|0<=s*w.sum) (λU=>∃s,U=[.sh<|.int w.sum,s]) w [.sh<|.int w.sum,.no] [] ⟨_,rfl⟩ (by have:=h.1;simp;lia) (by
   rintro x hx U ⟨s,rfl⟩;have Q1:=h.2 x hx;have hm:Ě x w.sum=true:=E0 (ř (ZD (by lia)<|by lia)<|by decide) (ř hb<|by decide);exact⟨[.sh<|.int w.sum,.sh<|.int x],[.sh<|.int w.sum,.sh<|.int x],[.sh<|.int w.sum,.sh<|.int x],by simp,by simp,by simp[hm],_,rfl⟩)
  rw[this,Ğ];rfl
 have c2:=ZS<|w.map λs=>decide<|0<=s*w.sum;have c3:(w.map λs=>decide<|0<=s*w.sum).all id=w.all λs=>decide (0<=s*w.sum):=by simp
 rw[c3]at c2;unfold Hu.Zp;have jR:tE [.lst<|w.map .int]=some (.int w.sum):=by simp
 unfold Sl at hs;generalize (w.map λs=>decide<|0<=s*w.sum).map PV.bl=bs at c1 c2;generalize (w.all λs=>decide<|0<=s*w.sum)=q at c2;generalize w.map PV.int=ws at c1 jR hs;generalize w.sum=S at c1 jR;by_cases h0:S=0
 ·subst h0;rcases hs with rfl|rfl<;>simp[az,gh,Ù,-eB,jR]
 ·rcases hs with rfl|rfl<;>simp[az,gh,Ù,-eB,jR,c1,c2,h0]
def Xd(x y:Int):ah [.sh<|.int x,.sh<|.int y]=.ret (.sh<|.int<|My.gd x y):=by
 obtain⟨⟨u,v,r⟩,e1,e2,e3⟩:=Ao (mc:=(ϯ<|Ê ϲ (Â 1)<|Å 0)) (mb:=(æ (ć 2<|Ķ<|Ê Ļ (Â 0)<|Â 1)<|æ (ć 0<|Ķ<|ä 1)<|ć 1<|Ķ<|ä 2))
  (fun b:Int×Int×Ű=>[.sh<|.int b.1,.sh<|.int b.2.1,b.2.2]) (fun b=>My.gd b.1 b.2.1=My.gd x y) (fun b=>b.2.1.natAbs) (b:=(x,y,.no)) (by
    rintro ⟨u,v,r⟩ e;by_cases hv:v=0
    ·left;simp[hv]
    ·right;exact⟨by simp[hv],(v,u.fmod v,.sh<|.int<|u.fmod v),by simp[hv],(My.Z3U u v).trans e,My.Z3V u hv⟩) rfl
 have hv:v=0:=by simpa using e3
 subst hv;have Ve:e_ [.sh<|.int x,.sh<|.int y,.no]=_:=e1;simp[ah,fb,Ù,Ve,<-e2,My.Z3W]
def Z48(t:Int){b:Int}{n:Nat}(h:b≠0)(hb:bits b<=n):bits (My.gd t b)<=n:=by refine intBits_le_of_natAbs ?_ hb;have h1:=My.Z5k t h;have h2:=My.Z2j t b;lia
def rt(t b:Int):Int×Int:=(t.fdiv<|My.dv t b,b.fdiv<|My.dv t b)
def Xe{t b:Int}(h:b≠0)(hz:bits b<=8000):ie [.sh<|.int t,.sh<|.int b]=.ret (.sh<|pt<|rt t b):=by
 have g1:=Z48 t h hz;have g0:=My.TZ t h;by_cases hn:b<0
 ·have e:My.dv t b= -My.gd t b:=if_pos hn;have c:∀i,kr i (-My.gd t b)=true:=λi=>yR (by lia)<|intBits_neg_le g1;simp[ie,uk,Ù,h,Xd,hn,c,e,pt,rt]
 ·have e:My.dv t b=My.gd t b:=if_neg hn;have c:∀i,kr i (My.gd t b)=true:=λi=>yR (by lia) g1;simp[ie,uk,Ù,h,Xd,hn,c,e,pt,rt]
def UB{w:List Int}{q:List Nat}{n:Nat}(hw:KW w)(h0:w.sum≠0)(hl:w.length=q.length)(hq:∀i∈q,i<n)(hn:n<=100){s0 s1:Ű}(VH:Sl s0 (w.map .int))(VI:s1=.sh (.lst<|q.map λ(i:Nat)=>.int (i:Int))\/s1=.sh (.tup<|q.map λ(i:Nat)=>.int (i:Int))):
 di [s0,s1,.sh<|.int n]=.ret (.ow<|(Fr.lay (Ù n 0)<|w.zip q).map λs=>pt<|rt s w.sum):=by
 obtain⟨b1,b2⟩:=hw.sum;have hb:=ř (ZD b1 b2) (show 200<=8000 by decide);have jR:tE [.lst<|w.map .int]=some (.int w.sum):=by simp
 have c1:Ģ (gN 1) Ĕ (Ý<|à ie<|Û (Å 0)<|Í 0 Ú) ((å n).map λ(i:Nat)=>PV.int (i:Int)) [.sh<|.int w.sum,.no] []=some ((Ù n (0:Int)).map λs=>pt<|rt s w.sum):=by
  have:=ē (g:=gN 1) (mt:=Ĕ) (me:=Ý<|à ie<|Û (Å 0)<|Í 0 Ú) (λ(i:Nat)=>PV.int (i:Int)) (λ_=>pt<|rt 0 w.sum) (λU=>∃s,U=[.sh<|.int w.sum,s]) (å n) [.sh<|.int w.sum,.no] [] ⟨_,rfl⟩ (by simp;lia) (by
   rintro x hx U ⟨s,rfl⟩;exact⟨[.sh<|.int w.sum,.sh<|.int x],[.sh<|.int w.sum,.sh<|.int x],[.sh<|.int w.sum,.sh<|.int x],by simp,by simp,by simp[Xe h0 hb],_,rfl⟩)
  rw[this];simp[List.map_const']
 have hz:oH (w.map .int) (q.map λ(i:Nat)=>PV.int (i:Int))=(w.zip q).map λa=>.tup [.int a.1,.int (a.2:Int)]:=by
  clear hw h0 hl hq VH VI jR c1 hb b1 b2
  induction w generalizing q with
  |nil=>simp[oH]|cons x w ih=>
   cases q with
   |nil=>simp[oH]|cons i q=>simp[oH,ih]
 have loop:∀LF LP,∃U',ĺ (gT 2<|ï (gN 5)<|ï (gN 6) ϒ) lL ((w.zip q).map λa=>.tup [.int a.1,.int (a.2:Int)]) [LF,LP,.sh<|.int n,.sh<|.int w.sum,.ow<|(Ù n (0:Int)).map λs=>pt<|rt s w.sum,.no,.no]=.ok .nx U'/\U'[4]?=some (.ow<|(Fr.lay (Ù n 0)<|w.zip q).map λs=>pt<|rt s w.sum):=by
  intro LF LP;obtain⟨U',e,s5,s6,hρ,_⟩:=lF (g:=gT 2<|ï (gN 5)<|ï (gN 6) ϒ) (mb:=lL) (λa:Int×Nat=>.tup [.int a.1,.int (a.2:Int)]) (λacc a=>acc.set a.2 a.1)
   (fun acc U=>∃s5 s6,U=[LF,LP,.sh<|.int n,.sh<|.int w.sum,.ow<|acc.map fun s=>pt<|rt s w.sum,s5,s6]∧acc.length=n) (w.zip q) (by
     rintro ⟨x,i⟩ hx acc U ⟨s5,s6,rfl,hlen⟩;have hi:i<n:=hq i (nk hx).2;have hix:CK acc.length (i:Int)=some i:=by unfold CK;rw[if_pos (by lia),if_pos<|by lia];simp
     refine⟨[LF,LP,.sh<|.int n,.sh<|.int w.sum,.ow<|acc.map λs=>pt<|rt s w.sum,.sh<|.int x,.sh<|.int i],[LF,LP,.sh<|.int n,.sh<|.int w.sum,.ow<|(acc.set i x).map λs=>pt<|rt s w.sum,.sh<|.int x,.sh<|.int i],by simp,?_,_,_,rfl,by simpa using hlen⟩;simp[lL,Xe h0 hb,hix,List.map_set]) (Ù n 0) [LF,LP,.sh<|.int n,.sh<|.int w.sum,.ow<|(Ù n (0:Int)).map λs=>pt<|rt s w.sum,.no,.no] ⟨_,_,rfl,by simp⟩
  refine⟨U',e,?_⟩;subst hρ;rfl
 have hr:=Zt (show n<=1000 by lia);generalize (Ù n (0:Int)).map (λs=>pt<|rt s w.sum)=zs at c1 loop;generalize (Fr.lay (Ù n 0)<|w.zip q).map (λs=>pt<|rt s w.sum)=rs at loop;generalize ((w.zip q).map λa=>PV.tup [.int a.1,.int (a.2:Int)])=ls at hz loop;generalize w.map PV.int=ws at VH jR hz;generalize w.sum=S at jR c1 loop;generalize (q.map λ(i:Nat)=>PV.int (i:Int))=qs at hz VI;rcases VH with rfl|rfl<;>rcases VI with rfl|rfl
 ·obtain⟨U',e,e4⟩:=loop (.sh<|.lst ws)<|.sh<|.lst qs;simp[di,iP,Ù,-eB,jR,hr,c1,hz,C4,e,e4]
 ·obtain⟨U',e,e4⟩:=loop (.sh<|.lst ws)<|.sh<|.tup qs;simp[di,iP,Ù,-eB,jR,hr,c1,hz,C4,e,e4]
 ·obtain⟨U',e,e4⟩:=loop (.bw ws)<|.sh<|.lst qs;simp[di,iP,Ù,-eB,jR,hr,c1,hz,C4,e,e4]
 ·obtain⟨U',e,e4⟩:=loop (.bw ws)<|.sh<|.tup qs;simp[di,iP,Ù,-eB,jR,hr,c1,hz,C4,e,e4]
def HE(S:List Hu.Pt)(r:List Int×List Nat):List PV:=(Fr.lay (Ù S.length 0)<|r.1.zip r.2).map λs=>pt<|rt s r.1.sum
def jy{S:List Hu.Pt}{i:Nat}(h:i<S.length):(S.map pt)[i]?=some (pt<|Hu.at_ S i):=by unfold Hu.at_;rw[ŗ,Ϡ,ũ h];rfl
def Z5s{S:List Hu.Pt}{sl:Ű}(hs:Sl sl (S.map pt)){i j k:Nat}(hi:i<S.length)(hj:j<S.length)(hk:k<S.length)(s3:Ű):Ģ (gN 1) Ĕ (Ê ß (Â 0)<|Â 1) [.int (i:Int),.int (j:Int),.int (k:Int)] [sl,s3] []=some [pt<|Hu.at_ S i,pt<|Hu.at_ S j,pt<|Hu.at_ S k]:=by rcases hs with rfl|rfl<;>simp[Ģ,jy hi,jy hj,jy hk,-ŗ]
def Z5t{S:List Hu.Pt}{sl:Ű}(hs:Sl sl (S.map pt)){i j:Nat}(hi:i<S.length)(hj:j<S.length)(s3:Ű):Ģ (gN 1) Ĕ (Ê ß (Â 0)<|Â 1) [.int (i:Int),.int (j:Int)] [sl,s3] []=some [pt<|Hu.at_ S i,pt<|Hu.at_ S j]:=by rcases hs with rfl|rfl<;>simp[Ģ,jy hi,jy hj,-ŗ]
def Sl.cap{s:Ű}{ps:List PV}(h:Sl s ps):qk s=s:=by rcases h with rfl|rfl<;>rfl
def Xf{a b c p:Hu.Pt}(ha:Sm a)(hb:Sm b)(hc:Sm c)(hp:Sm p):KW (Hu.qt a b c p):=⟨by simp[Hu.qt],Z5q ha hb hc hp⟩
def Xg{a b p:Hu.Pt}(ha:Sm a)(hb:Sm b)(hp:Sm p):KW (Hu.lH a b p):=⟨by simp[Hu.lH],Z5r ha hb hp⟩
def Z27{S:List Hu.Pt}{sl:Ű}(hs:Sl sl (S.map pt))(hS:∀p∈S,Sm p)(h0:S≠[])(hl:S.length<=100){p:Hu.Pt}(hp:Sm p):bM [sl,.sh<|pt p]=.ret (.ow<|HE S<|Hu.Zj S p):=by
 have yy:∀i,i<S.length->Sm (Hu.at_ S i):=λi h=>hS _<|Hu.ZQ h;have ht:=Z26 S.length hl;have YD:=Xa S.length hl;have hlen:aa [.lst<|S.map pt]=some (.int S.length):=by simp
 have F3:=iE (g:=gN 3) (mb:=eJ) zE (λq=>if Hu.Zp (Hu.qt (Hu.at_ S q.1) (Hu.at_ S q.2.1) (Hu.at_ S q.2.2) p)=true then some (Hu.qt (Hu.at_ S q.1) (Hu.at_ S q.2.1) (Hu.at_ S q.2.2) p,[q.1,q.2.1,q.2.2])else none) (λr=>.ow<|HE S r) (λU=>∃s3 s4,U=[sl,.sh<|pt p,.sh<|.int S.length,s3,s4]) (Hu.Ze S.length) (by
  rintro ⟨i,j,k⟩ hm U ⟨s3,s4,rfl⟩;obtain⟨h1,h2,h3⟩:=Hu.Zf.mp hm;have hi:i<S.length:=by lia
  have hj:j<S.length:=by lia
  have hb:=Xf (yy i hi) (yy j hj) (yy k h3) hp;have e1:=Z3k (yy i hi) (yy j hj) (yy k h3) hp;have e2:=Xc hb (sl:=.bw<|(Hu.qt (Hu.at_ S i) (Hu.at_ S j) (Hu.at_ S k) p).map .int)<|.inr rfl;have e0:=Z5s hs hi hj h3 .no;refine⟨[sl,.sh<|pt p,.sh<|.int S.length,.sh<|zE (i,j,k),s4],rfl,?_⟩;cases q:Hu.Zp (Hu.qt (Hu.at_ S i) (Hu.at_ S j) (Hu.at_ S k) p)with
  |true=>
   left
   have hg:=Hu.Zx.mp q;have e3:=UB (q:=[i,j,k]) (n:=S.length) hb hg.1 rfl (by simp;lia) hl (s0:=.bw<|(Hu.qt (Hu.at_ S i) (Hu.at_ S j) (Hu.at_ S k) p).map .int) (s1:=.sh<|.tup [.int i,.int j,.int k]) (.inr rfl)<|.inr rfl;rw[q]at e2;refine⟨_,[sl,.sh<|pt p,.sh<|.int S.length,.sh<|zE (i,j,k),.ow<|(Hu.qt (Hu.at_ S i) (Hu.at_ S j) (Hu.at_ S k) p).map .int],rfl,?_⟩;generalize Hu.qt (Hu.at_ S i) (Hu.at_ S j) (Hu.at_ S k) p=w at*;generalize hws:w.map PV.int=ws at*;simp[eJ,zE,hs.cap,e0,e1,e2,e3,HE]
  |false=>
   right
   rw[q]at e2;refine⟨[sl,.sh<|pt p,.sh<|.int S.length,.sh<|zE (i,j,k),.ow<|(Hu.qt (Hu.at_ S i) (Hu.at_ S j) (Hu.at_ S k) p).map .int],rfl,?_,_,_,rfl⟩;generalize Hu.qt (Hu.at_ S i) (Hu.at_ S j) (Hu.at_ S k) p=w at*;generalize hws:w.map PV.int=ws at*;simp[eJ,zE,hs.cap,e0,e1,e2])
 have F2:=iE (g:=gN 3) (mb:=eI) uw (λq=>if Hu.Zp (Hu.lH (Hu.at_ S q.1) (Hu.at_ S q.2) p)=true then some (Hu.lH (Hu.at_ S q.1) (Hu.at_ S q.2) p,[q.1,q.2])else none) (λr=>.ow<|HE S r) (λU=>∃s3 s4,U=[sl,.sh<|pt p,.sh<|.int S.length,s3,s4]) (Hu.Zc S.length) (by
  rintro ⟨i,j⟩ hm U ⟨s3,s4,rfl⟩;obtain⟨h1,h2⟩:=Hu.Zz.mp hm;have hi:i<S.length:=by lia
  have hb:=Xg (yy i hi) (yy j h2) hp;have e1:=Z4M (yy i hi) (yy j h2) hp;have e2:=Xc hb (sl:=.bw<|(Hu.lH (Hu.at_ S i) (Hu.at_ S j) p).map .int)<|.inr rfl;have e0:=Z5t hs hi h2 .no;refine⟨[sl,.sh<|pt p,.sh<|.int S.length,.sh<|uw (i,j),s4],rfl,?_⟩;cases q:Hu.Zp (Hu.lH (Hu.at_ S i) (Hu.at_ S j) p)with
  |true=>
   left
   have hg:=Hu.Zx.mp q;have e3:=UB (q:=[i,j]) (n:=S.length) hb hg.1 rfl (by simp;lia) hl (s0:=.bw<|(Hu.lH (Hu.at_ S i) (Hu.at_ S j) p).map .int) (s1:=.sh<|.tup [.int i,.int j]) (.inr rfl)<|.inr rfl;rw[q]at e2;refine⟨_,[sl,.sh<|pt p,.sh<|.int S.length,.sh<|uw (i,j),.ow<|(Hu.lH (Hu.at_ S i) (Hu.at_ S j) p).map .int],rfl,?_⟩;generalize Hu.lH (Hu.at_ S i) (Hu.at_ S j) p=w at*;generalize hws:w.map PV.int=ws at*;simp[eI,uw,hs.cap,e0,e1,e2,e3,HE]
  |false=>
   right
   rw[q]at e2;refine⟨[sl,.sh<|pt p,.sh<|.int S.length,.sh<|uw (i,j),.ow<|(Hu.lH (Hu.at_ S i) (Hu.at_ S j) p).map .int],rfl,?_,_,_,rfl⟩;generalize Hu.lH (Hu.at_ S i) (Hu.at_ S j) p=w at*;generalize hws:w.map PV.int=ws at*;simp[eI,uw,hs.cap,e0,e1,e2])
 have e3:(Hu.Ze S.length).findSome? (λq=>if Hu.Zp (Hu.qt (Hu.at_ S q.1) (Hu.at_ S q.2.1) (Hu.at_ S q.2.2) p)=true then some (Hu.qt (Hu.at_ S q.1) (Hu.at_ S q.2.1) (Hu.at_ S q.2.2) p,[q.1,q.2.1,q.2.2])else none)=Hu.Ob S p:=rfl;have e2:(Hu.Zc S.length).findSome? (λq=>if Hu.Zp (Hu.lH (Hu.at_ S q.1) (Hu.at_ S q.2) p)=true then some (Hu.lH (Hu.at_ S q.1) (Hu.at_ S q.2) p,[q.1,q.2])else none)=Hu.Qp S p:=rfl;rw[e3]at F3;rw[e2]at F2;have e1:=UB (w:=[1]) (q:=[0]) (n:=S.length) ⟨by simp,by simp⟩ (by simp) rfl (by simpa using qS.mpr h0) hl (s0:=.sh<|.lst [.int 1]) (s1:=.sh<|.lst [.int 0]) (.inl rfl)<|.inl rfl;have hw1:(Fr.lay (Ù S.length 0)<|[1].zip [0]).map (λs=>pt<|rt s [1].sum)=HE S ([1],[0]):=rfl;rw[hw1]at e1;generalize hn:(S.length:Int)=N at*;generalize (Hu.Ze S.length).map zE=ts,(Hu.Zc S.length).map uw=prs at*;unfold Hu.Zj;rcases F3 [sl,.sh<|pt p,.sh<|.int N,.no,.no] ⟨_,_,rfl⟩with⟨r,U',q1,q2⟩|⟨U',q1,q2,s3,s4,hρ⟩
 ·rw[q1];rcases hs with rfl|rfl<;>simp[bM,eK,Ù,-oC,hlen,ht,q2]
 ·subst hρ;rw[q1];rcases F2 [sl,.sh<|pt p,.sh<|.int N,s3,s4] ⟨_,_,rfl⟩with⟨r,U',q3,q4⟩|⟨U',q3,q4,Q5,DC,hρ⟩
  ·rw[q3];rcases hs with rfl|rfl<;>simp[bM,eK,Ù,-oC,hlen,ht,YD,q2,q4]
  ·subst hρ;rw[q3];rcases hs with rfl|rfl<;>simp[bM,eK,Ù,-oC,hlen,ht,YD,q2,q4,e1]
def LG(S:List Hu.Pt)(p:Hu.Pt):PV:=match Hu.Zs S p with
 |some l=>.tup [.str "out",gj l]|none=>.tup [.str "in",.lst<|HE S<|Hu.Zj S p]
def Z49{S:List Hu.Pt}{sl:Ű}(hs:Sl sl (S.map pt))(hS:∀p∈S,Sm p)(h0:S≠[])(hl:S.length<=100){p:Hu.Pt}(hp:Sm p):ul [sl,.sh<|pt p]=.ret (.sh<|LG S p):=by
 have h1:=Z25 hs hS h0 (by lia) p;have h2:=Z27 hs hS h0 hl hp;unfold LG;cases e:Hu.Zs S p with
 |some l=>rw[e]at h1;simp[ul,yi,Ù,hs.lend,h1,Oi,gj,ur]|none=>rw[e]at h1;simp[ul,yi,Ù,hs.lend,h1,Oi,h2,ur]
def Z3l{r:P3}(hr:RB r)(s:Hu.Pt):fK [.sh<|pt s,.sh<|c3 r]=.ret (.sh<|pt<|eX r<|qv s):=by have e:=WW hr<|qv s;have e':PV.tup [.int<|2*s.1,.int<|2*s.2,.int 0]=c3 (qv s):=rfl;generalize hR:c3 r=R at*;unfold pt;simp[fK,lX,Ù,e',e];rfl
def Xh{w:Str}{xs:List Int}(hg:Z0 w xs=true){r:P3}(hr:RB r){s:Hu.Pt}(hs:PB (qv s)):fO [.sh<|Z9 (Zh w) w xs,.sh<|pt s,.sh<|c3 r]=.ret (.sh<|LG ((Z6 w xs).map (eX r))<|eX r<|qv s):=by
 obtain⟨g1,g2,g3⟩:=ZZ hg;have h1:=WX hg (by lia) hr;have h2:=Z3l hr s;have h3:=Z49 (S:=(Z6 w xs).map (eX r)) (sl:=.sh<|.lst<|((Z6 w xs).map (eX r)).map pt) (.inl rfl) (by
  intro p hp;obtain⟨q,hq,rfl⟩:=Đ.mp hp;exact Oe hr<|g3 q hq) (by simpa using g2) (by simp;lia) (p:=eX r<|qv s)<|Oe hr hs
 generalize LG ((Z6 w xs).map (eX r)) (eX r<|qv s)=V,((Z6 w xs).map (eX r)).map pt=Y,pt (eX r<|qv s)=Z,Z9 (Zh w) w xs=v,c3 r=R,pt s=Q at*;simp[fO,um,Ù,h1,h2,h3]
def UC:ĕ (Æ "in")=true:=by decide+kernel
def Z5N:ĕ (Æ "out")=true:=by decide+kernel
def dIO:(Æ "out"=Æ "in")=False:=eq_false (by decide+kernel)
def Z2H{w:Str}{xs:List Int}(hg:Z0 w xs=true){r:P3}(hr:RB r){s:Hu.Pt}(hs:PB (qv s)):iS [.sh<|Z9 (Zh w) w xs,.sh<|pt s,.sh<|c3 r]=.ret (.sh<|.bl<|Of w xs s r):=by
 have h1:=Xh hg hr hs;unfold Of;unfold LG at h1;cases e:Hu.Zs ((Z6 w xs).map (eX r)) (eX r<|qv s)with
 |none=>rw[e]at h1;simp[iS,pL,h1,İ UC UC]|some l=>rw[e]at h1;simp[iS,pL,h1,İ Z5N UC,dIO]
structure UD(w h:Nat)(T:List Th):Prop where
 w0:0<w
 w1:w<=60
 h1:h<=1000
 wh:w*h<=1000
 tl:T.length<=1000
 tg:∀t∈T,Z0 t.1 t.2=true
def Z4N{w k n:Nat}(hk:k<1000):PB (qv<|ff w k):=by have h1:k%w<=k:=Nat.mod_le k w;have h2:k/w<=k:=Nat.div_le_self k w;unfold PB qv ff;dsimp only;generalize k%w=a,k/w=b at*;lia
def UE{w h:Nat}{T:List Th}{D:List Dy}{i:Nat}(hi:i<D.length):dL [.sh<|Z3 w h T D,.sh<|.int i]=.ret (.sh<|.lst<|D[i].2.2.map ak):=by
 have yd:=QA w h T D;have hx:(D.map pf)[i]?=some (pf D[i]):=by simp[hi]
 simp[dL,qe,yd,hx];simp[pf]
def Z2I{w h:Nat}{T:List Th}(D:List Dy)(hw:0<w){k:Nat}(hk:k<w*h):eE [.sh<|Z3 w h T D,.sh<|pt<|ff w k]=.ret (.sh .non):=by
 have yw:=LB w h T D;have yh:=Og w h T D;have h1:=nC k hw;have h2:=(LC (k:=k) (h:=h) hw).mpr hk;have a1:(0:Int)<=((k%w:Nat):Int):=kT _;have a2:((k%w:Nat):Int)<(w:Int):=vQ.mpr h1;have a3:(0:Int)<=((k/w:Nat):Int):=kT _;have a4:((k/w:Nat):Int)<(h:Int):=vQ.mpr h2;unfold pt ff;dsimp only;generalize Z3 w h T D=Yv,((k%w:Nat):Int)=x,((k/w:Nat):Int)=y at*;have hs:ia [.sh Yv,.sh<|.tup [.int x,.int y]]=.ret (.sh<|.bl true):=by simp[ia,oZ,yw,yh,a1,a2,a3,a4]
 simp[eE,kM,hs]
def FS:Th:=(Æ "post",[])
def yj(w:Nat)(T:List Th)(r:P3)(k:Nat):List Nat:=(å T.length).filter λi=>kf (T.getD i FS) (ff w k) r
def oV:Option Nat->PV
 |none=>.non|some j=>.int (j:Int)
theorem Xi(f:Nat->PV):∀(n a:Nat),bQ a ((jc a n).map f)=(jc a n).map λ(k:Nat)=>PV.tup [.int k,f k]
 |0,a=>rfl|n+1,a=>by rw[we,á,á];show _::bQ (a+1) _=_;rw[Xi f n<|a+1]
def Z3m(w h:Nat)(r:P3)(T:List Th):(T.map λt=>PV.int<|uo w h r t)=(å T.length).map λi=>PV.int (uo w h r<|T.getD i FS):=by refine List.ext_getElem (by simp) λi h1 h2=>?_;simp at h1;simp[h1]
def Z4a(w h:Nat)(r:P3)(T:List Th):bQ 0 (T.map λt=>PV.int<|uo w h r t)=(å T.length).map λ(i:Nat)=>PV.tup [.int i,.int<|uo w h r<|T.getD i FS]:=by rw[Z3m,AZ];exact Xi _ _ 0
def Z4O{w h:Nat}{r:P3}{t:Th}{k:Nat}(hk:k<w*h):(uo w h r t).testBit k=kf t (ff w k) r:=by rw[uo,ZG];simp[hk]
theorem Xj{α β:Type}(p:α->Bool)(f:α->β):∀l:List α,l.findSome? (λx=>if p x=true then some (f x)else none)=(l.find? p).map f
 |[]=>rfl|x::l=>by
  rw[qN,qP];cases h:p x with
  |true=>simp|false=>simpa using Xj p f l
def Z3n{w h:Nat}(T:List Th)(r:P3){k:Nat}(hk:k<w*h){sl:Ű}(hs:Sl sl (T.map λt=>PV.int<|uo w h r t)):ύ [sl,.sh<|.int k]=.ret (.sh<|oV (yj w T r k).head?):=by
 have hf:(å T.length).findSome? (λi=>if kf (T.getD i FS) (ff w k) r=true then some i else none)=(yj w T r k).head?:=by
  have:=Xj (λi=>kf (T.getD i FS) (ff w k) r) (λ(i:Nat)=>i)<|å T.length;rw[this,yj,List.head?_filter];simp
 have main:=iE (g:=gT 2<|ï (gN 2)<|ï (gN 3) ϒ) (mb:=bK) (λ(i:Nat)=>PV.tup [.int i,.int<|uo w h r<|T.getD i FS]) (λi=>if kf (T.getD i FS) (ff w k) r=true then some i else none) (λi=>.sh<|.int (i:Int)) (λU=>∃a b,U=[sl,.sh<|.int k,a,b]) (å T.length) (by
  rintro i hi U ⟨a,b,rfl⟩;have hb:=Z4O (r:=r) (t:=T.getD i FS) hk;generalize T.getD i FS=t at*;have sb:mL (.int<|(uo w h r t:Int)/2^k) (.int 1)=some (.int<|if kf t (ff w k) r then 1 else 0):=by show some (PV.int<|gG ((uo w h r t:Int)/2^k) 1)=_;rw[W1,W0,hb]
  have so:sY (uo w h r t:Int) (k:Int)=true:=by unfold sY;simp
  generalize uo w h r t=A at*;refine⟨[sl,.sh<|.int k,.sh<|.int i,.sh<|.int A],by simp,?_⟩;cases hd:kf t (ff w k) r with
  |true=>rw[hd]at sb;simp at sb;exact .inl ⟨i,[sl,.sh<|.int k,.sh<|.int i,.sh<|.int A],by simp,by simp[bK,so,sb,Ic]⟩|false=>rw[hd]at sb;simp at sb;exact .inr ⟨[sl,.sh<|.int k,.sh<|.int i,.sh<|.int A],by simp,by simp[bK,so,sb,Ic],_,_,rfl⟩) [sl,.sh<|.int k,.no,.no] ⟨_,_,rfl⟩
 rw[hf,<-Z4a]at main;generalize (yj w T r k).head?=q at*;generalize (T.map λt=>PV.int<|uo w h r t)=DV at*;rcases main with⟨i,U2,q1,q2⟩|⟨U2,q1,q2,_⟩
 ·rw[q1];rcases hs with rfl|rfl<;>simp[ύ,dM,Ù,q2,oV]
 ·rw[q1];rcases hs with rfl|rfl<;>simp[ύ,dM,Ù,q2,oV]
def Z4P{w h:Nat}(hw:0<w)(F9:w<=60)(hh:h<=1000)(Uy:w*h<=1000){T:List Th}(hT:T.length<=1000)(hg:∀t∈T,Z0 t.1 t.2=true)(Ds:List Dy){r:P3}(hr:RB r)(hz:0<r.2.2):Cm [.sh<|Z3 w h T Ds,.sh<|c3 r]=.ret (.ow<|(å<|w*h).map λk=>oV (yj w T r k).head?):=by
 have e1:=W5 hw F9 hh hT Ds hg hr hz;have yw:=LB w h T Ds;have yh:=Og w h T Ds;have mo:Ě (w:Int) (h:Int)=true:=œ (by lia) (by lia);have rr:=Zt (n:=w*h) Uy;rw[ng]at rr;have hc:=ē (g:=gN 1) (mt:=Ĕ) (me:=Ý<|à ύ<|Í 0<|Í 1 Ú) (λ(k:Nat)=>PV.int (k:Int)) (λk=>oV (yj w T r k).head?) (λU=>∃a,U=[.bw<|T.map λt=>PV.int<|uo w h r t,a]) (å<|w*h) [.bw<|T.map λt=>PV.int<|uo w h r t,.no] [] ⟨_,rfl⟩ (by simp;lia) (by
  rintro k hk U ⟨a,rfl⟩;have hk:=Ϝ.mp hk;have e:=Z3n T r hk (sl:=.bw<|T.map λt=>PV.int<|uo w h r t)<|.inr rfl;generalize (T.map λt=>PV.int<|uo w h r t)=DV at*;generalize oV (yj w T r k).head?=O at*;exact⟨[.bw DV,.sh<|.int k],_,[.bw DV,.sh<|.int k],rfl,rfl,by simp[e],_,rfl⟩)
 rw[bq]at hc;generalize Z3 w h T Ds=Yv,c3 r=R at*;generalize (T.map λt=>PV.int<|uo w h r t)=DV at*;generalize ((å<|w*h).map λk=>oV (yj w T r k).head?)=OV at*;simp[Cm,Fw,Ù,e1,yw,yh,mo,rr,hc]
def Z4b(A k:Nat):mL (.int<|(A:Int)/2^k) (.int 1)=some (.int<|if A.testBit k then 1 else 0):=by show some (PV.int<|gG ((A:Int)/2^k) 1)=_;rw[W1,W0]
def nT(n:Int):List Nat:=(Æ<|fG n).cps.toList
def Z4Q(n:Int):Æ (fG n)=S (nT n):=jj (by simp[nT])
def QC(m:Nat):nT (m:Int)=(Ϣ 10 m).map aF:=PySem.W.KIN.signs_num m
def Xk(m:Nat)(h:0<m):nT (-(m:Int))=45::(Ϣ 10 m).map aF:=by obtain⟨k,rfl⟩:∃k,m=k+1:=⟨m-1,by lia⟩;unfold nT;rw[PyProof.Rows.signs_ofString];show("-"++Nat.repr (k+1)).toList.map aF=_;rw[String.toList_append,Nat.toList_repr];rfl
def QD{m c:Nat}(h:c∈(Ϣ 10 m).map aF):48<=c/\c<=57:=by obtain⟨ch,DE,e⟩:=Đ.mp h;have r:=PyProof.Rows.digit_range (Nat.isDigit_of_mem_toDigits (by decide) (by decide) DE);rw[<-e];exact r
def UF:∀(m:Nat),0<m->∃c r,(Ϣ 10 m).map aF=c::r/\c≠48:=by
 intro m
 induction m using Nat.strongRecOn with
 |_ m ih=>
  intro h0;by_cases h:m<10
  ·rw[Nat.toDigits_of_lt_base h];exact⟨_,[],rfl,by
    have:∀d:Nat,d<10->0<d->(Nat.digitChar d).toNat≠48:=by decide
    exact this m h h0⟩
  ·have hm:m%10<10:=nC m (by decide);have t:Ϣ 10 (m/10)++Ϣ 10 (m%10)=Ϣ 10 (10*(m/10)+m%10):=Nat.toDigits_append_toDigits (by decide) (by lia) hm;rw[wp]at t;obtain⟨c,r,e,hc⟩:=ih (m/10) (by lia) (by lia);rw[<-t,ş,e];exact⟨c,_,rfl,hc⟩
def ZU{m:Nat}(h:m<10^10):1<=((Ϣ 10 m).map aF).length/\((Ϣ 10 m).map aF).length<=10:=by
 have h1:=PySem.W.KT.len_num (n:=(m:Int)) (by lia) (by lia);have e:(Æ<|fG (m:Int)).length=(nT (m:Int)).length:=by simp[nT,cj]
 rw[e,QC]at h1;refine⟨?_,h1⟩;by_cases h0:m=0
 ·subst h0;decide
 ·obtain⟨c,r,e,_⟩:=UF m (by lia);rw[e];simp
def UG{n:Int}(h1: -10000000000<n)(h2:n<10000000000):∃(b:Bool) (ds:List Nat),nT n=(if b then[45]else[])++ds/\(∀c∈ds,48<=c/\c<=57)/\1<=ds.length/\ds.length<=10/\(nT n=[48]\/∃c r,ds=c::r/\c≠48):=by
 rcases Int.lt_or_le n 0with h|h
 ·obtain⟨m,rfl⟩:∃m:Nat,n= -(m:Int):=⟨(-n).toNat,by lia⟩;obtain⟨l1,l2⟩:=ZU (m:=m) (by lia);exact⟨true,_,Xk m (by lia),λc hc=>QD hc,l1,l2,.inr<|UF m<|by lia⟩
 ·obtain⟨m,rfl⟩:=qE h;obtain⟨l1,l2⟩:=ZU (m:=m) (by lia);refine⟨false,_,QC m,λc hc=>QD hc,l1,l2,?_⟩;by_cases h0:m=0
  ·left
   subst h0;rfl
  ·exact .inr (UF m<|by lia)
def UH{n:Int}(h1: -10000000000<n)(h2:n<10000000000):∀c∈nT n,c=45\/(48<=c/\c<=57):=by
 obtain⟨b,ds,e,hd,_⟩:=UG h1 h2;rw[e];intro c hc;rcases aH.mp hc with hc|hc
 ·cases b
  ·cases hc
  ·left;simpa using hc
 ·exact .inr<|hd c hc
def QE{n:Int}(h1: -10000000000<n)(h2:n<10000000000):1<=(nT n).length/\(nT n).length<=11:=by obtain⟨b,ds,e,_,l1,l2,_⟩:=UG h1 h2;rw[e];cases b<;>simp<;>lia
def Z4R{n:Int}(h1: -10000000000<n)(h2:n<10000000000):nO (S<|nT n)=some n:=by
 have key:∀m:Nat,PySem.NumText.AllDigits ((Ϣ 10 m).map aF):=λm c hc=>QD hc;have ne:∀m:Nat,m<10^10->(Ϣ 10 m).map aF≠[]:=λm hm e=>by have:=(ZU hm).1;rw[e]at this;cases this
 rcases Int.lt_or_le n 0with h|h
 ·obtain⟨m,rfl⟩:∃m:Nat,n= -(m:Int):=⟨(-n).toNat,by lia⟩;have l2:=(ZU (m:=m)<|by lia).2;rw[Xk m<|by lia];have:=PySem.intText_neg (x:=S (45::(Ϣ 10 m).map aF)) rfl (key m) (ne m<|by lia) (by show(45::(Ϣ 10 m).map aF).toArray.size<=4300;simp at l2⊢;lia);rw[this,Bp]
 ·obtain⟨m,rfl⟩:=qE h;have l2:=(ZU (m:=m)<|by lia).2;rw[QC m];have:=PySem.intText_digits (x:=S<|(Ϣ 10 m).map aF) (key m) (ne m<|by lia) (by show((Ϣ 10 m).map aF).toArray.size<=4300;simp at l2⊢;lia);rw[this];show some (((PySem.NumText.digitsVal ((Ϣ 10 m).map aF):Nat)):Int)=_;rw[Bp]
def sV(l:List Nat):PV:=.str<|S l
def zF(l:List Nat):Prop:=∀c∈l,c<1000
def zF.ok{l:List Nat}(h:zF l):ĕ (S l)=true:=by
 unfold ĕ;rw[Array.all_eq_true];intro i hi;have zJ:i<l.length:=by simpa using hi
 have:=h l[i] (Ū zJ);simp;lia
def ZC(l:List Nat):(S l).length=l.length:=by simp[cj]
def Xl{l:List Nat}(h:l.length<=1000000):aa [.str<|S l]=some (.int l.length):=by
 have hz:(S l).length<=16777216:=by rw[ZC];lia
 show(if(S l).length<=16777216then some (PV.int (S l).length)else none)=_;rw[if_pos hz,ZC]
def Xm{l:List Nat}(hl:l.length<=100000)(sg:Str)(k:Int):ac [.sh<|sV l,.sh<|.str sg,.sh<|.int k]=.ret (.sh<|.bl<|decide (1<=(l.length:Int))&&decide ((l.length:Int)<=k)&&l.all λc=>decide<|c∈sg.cps.toList):=by
 have c1:Ģ (gN 1) Ĕ (Ê Cf (Â 1)<|Â 0) (l.map λc=>PV.str ⟨#[c]⟩) [.sh<|.str sg,.no] []=some ((l.map λc=>decide<|c∈sg.cps.toList).map .bl):=by
  have:=ē (g:=gN 1) (mt:=Ĕ) (me:=Ê Cf (Â 1)<|Â 0) (λc=>PV.str ⟨#[c]⟩) (λc=>PV.bl<|decide<|c∈sg.cps.toList) (λU=>∃s,U=[.sh<|.str sg,s]) l [.sh<|.str sg,.no] [] ⟨_,rfl⟩ (by simp;lia) (by
   rintro x hx U ⟨s,rfl⟩;exact⟨[.sh<|.str sg,.sh<|.str ⟨#[x]⟩],_,[.sh<|.str sg,.sh<|.str ⟨#[x]⟩],by simp,rfl,by simp,_,rfl⟩)
  rw[this];simp
 have c2:=ZS<|l.map λc=>decide<|c∈sg.cps.toList;have c3:((l.map λc=>decide<|c∈sg.cps.toList).all id)=l.all λc=>decide (c∈sg.cps.toList):=by rw[List.all_map];rfl
 rw[c3]at c2;generalize (l.map λc=>decide<|c∈sg.cps.toList).map PV.bl=bs at c1 c2;have e:(S l).cps.toList=l:=by simp
 have hz:=Xl (l:=l) (by lia);unfold sV;by_cases h1:1<=(l.length:Int)
 ·by_cases h2:(l.length:Int)<=k
  ·simp[ac,eC,Ù,hz,h1,h2,c1,c2]
  ·simp[ac,eC,Ù,hz,h1,h2]
 ·simp[ac,eC,Ù,hz,h1]
def Xn(l:List Nat)(c:Nat){y:Str}(hy:y=S [c]):oE (.str<|S l) [.str y]=some (.bl<|decide<|l.take 1=[c]):=by rw[hy];rfl
def c45:Æ "-"=S [45]:=by decide+kernel
def c48:Æ "0"=S [48]:=by decide+kernel
def QF{α:Type}(xs:List α)(k:Nat)(hk:k<=xs.length):cw xs (some (k:Int)) none=xs.drop k:=by unfold cw;rw[HT.xq,HT.D9,wq hk];exact vW (by simp)
def Xo{l:List Nat}{s:Str}{a n:Nat}(e:s.cps.toList=jc a n)(h:∀c∈l,a<=c/\c<a+n):(l.all λc=>decide<|c∈s.cps.toList)=true:=by rw[bp,e];exact λc hc=>decide_eq_true<|List.mem_range'_1.mpr<|h c hc
def Z4c{n:Int}(h1: -10000000000<n)(h2:n<10000000000):ϔ [.sh<|sV<|nT n]=.ret (.sh<|.bl true):=by
 obtain⟨b,ds,e,hd,l1,l2,h0⟩:=UG h1 h2;have md:=Xm (l:=ds) (by lia) "0123456789" 10;have al:=Xo (l:=ds) (s:="0123456789") (a:=48) (n:=10) (by decide+kernel) λc hc=>by have:=hd c hc;lia
 rw[al]at md;have VJ:1<=(ds.length:Int):=by lia
 have UI:(ds.length:Int)<=10:=by lia
 simp only[VJ,UI,decide_true,Bool.and_self]at md;have pl:zF (nT n):=λc hc=>by rcases UH h1 h2 c hc with h|h<;>lia
 have h0s:ĕ (Æ "0")=true:=by decide+kernel
 have OY:=Xn (nT n) 45 c45;have FX:=Xn ds 48 c48;have QG:ŉ (.str<|S<|nT n) (.str<|Æ "0")=some (.bl<|decide<|S (nT n)=Æ "0"):=İ pl.ok h0s;have nl:=QE h1 h2;have hz:(S<|nT n).length<=16777216:=by rw[ZC];lia
 have tm:nT n=[48]->decide (S (nT n)=Æ "0")=true:=λh=>by rw[h];decide+kernel
 unfold sV at md⊢;cases b with
 |true=>
  have e':nT n=45::ds:=e;have t1:decide ((nT n).take 1=[45])=true:=by rw[e'];simp
  rw[t1]at OY;have sl:Lq (.str<|S<|nT n) (some 1) none=some (.sh<|.str<|S ds):=by show(if(S<|nT n).length<=16777216then some (RV.sh<|.str<|S<|cw (S<|nT n).cps.toList (some 1) none)else none)=_;rw[if_pos hz,e'];have:cw (45::ds) (some 1) none=ds:=QF (45::ds) 1 (by simp);show some (RV.sh<|.str<|S<|cw (45::ds) (some 1) none)=_;rw[this]
  have hh:∃c r,ds=c::r/\c≠48:=by
   rcases h0 with h|h
   ·rw[e']at h;cases h
   ·exact h
  obtain⟨c,r,ec,hc⟩:=hh;have t2:decide (ds.take 1=[48])=false:=by rw[ec];simpa using hc
  rw[t2]at FX;generalize decide (S (nT n)=Æ "0")=qq at*;generalize S (nT n)=N at*;cases qq<;>simp[ϔ,fH,OY,FX,sl,md,QG]
 |false=>
  have e':nT n=ds:=e;have t1:decide ((nT n).take 1=[45])=false:=by
   rw[e'];cases YE:ds with
   |nil=>rw[YE]at l1;cases l1|cons a r=>have:=hd a (by rw[YE];simp);simp;lia
  rw[t1]at OY;rw[<-e']at md FX;rcases h0 with h|⟨c,r,ec,hc⟩
  ·rw[tm h]at QG;generalize S (nT n)=N at*;simp[ϔ,fH,OY,md,QG]
  ·have t2:decide ((nT n).take 1=[48])=false:=by rw[e',ec];simpa using hc
   rw[t2]at FX;generalize decide (S (nT n)=Æ "0")=qq at*;cases qq<;>simp[ϔ,fH,OY,FX,md,QG]
def Nb(n:Int):Prop:=-10000000000<n/\n<10000000000
def aR(n:Int):PV:=sV<|nT n
def Xp{ns:List Int}(hn:∀n∈ns,Nb n)(hl:ns.length<=1000){sl:Ű}(hs:Sl sl (ns.map aR)):cZ [sl]=.ret (.ow<|ns.map .int):=by
 have c1:Ģ (gN 0) Ĕ (Ý<|à ϔ<|Í 0 Ú) (ns.map aR) [.no] []=some ((ns.map λ_=>true).map .bl):=by
  have:=ē (g:=gN 0) (mt:=Ĕ) (me:=Ý<|à ϔ<|Í 0 Ú) aR (λ_=>PV.bl true) (λU=>∃s,U=[s]) ns [.no] [] ⟨_,rfl⟩ (by simp;lia) (by
   rintro x hx U ⟨s,rfl⟩;have e:=Z4c (hn x hx).1 (hn x hx).2;change ϔ [.sh<|aR x]=_ at e;exact⟨[.sh<|aR x],_,[.sh<|aR x],by simp,rfl,by simp[e],_,rfl⟩)
  rw[this];simp[vJ]
 have c2:Ģ (gN 0) Ĕ (Ϲ iG<|É (Â 0) ã) (ns.map aR) [.no] []=some (ns.map .int):=by
  have:=ē (g:=gN 0) (mt:=Ĕ) (me:=Ϲ iG<|É (Â 0) ã) aR PV.int (λU=>∃s,U=[s]) ns [.no] [] ⟨_,rfl⟩ (by simp;lia) (by
   rintro x hx U ⟨s,rfl⟩;have e1:=Z4R (hn x hx).1 (hn x hx).2;have e2:=QE (hn x hx).1 (hn x hx).2;have e:iG [aR x]=some (.int x):=by show(if(S<|nT x).length<=640then(nO<|S<|nT x).map PV.int else none)=_;rw[if_pos (by rw[ZC];lia),e1];rfl
   exact⟨[.sh<|aR x],_,[.sh<|aR x],by simp,rfl,by simp[e],_,rfl⟩)
  rw[this];simp
 have c3:=ZS<|ns.map λ_=>true;have c4:((ns.map λ_=>true).all id)=true:=by simp
 rw[c4]at c3;have it:=hs.it (i:=0) (U:=[sl]) rfl;generalize (ns.map λ_=>true).map PV.bl=bs,ns.map aR=X at*;simp[cZ,lP,Ù,-xJ,it,c1,c2,c3]
def ZL{ns:List Int}(hn:∀n∈ns,Nb n)(hl:ns.length<=1000){sl:Ű}(hs:Sl sl (ns.map aR))(k:Int):ae [sl,.sh<|.int k]=.ret (.ow<|ns.map .int):=by have e:=Xp hn hl hs;simp[ae,lQ,hs.lend,e,ur]
def ZH{α:Type}(x:α)(xs:List α):cw (x::xs) (some 1) none=xs:=QF (x::xs) 1 (by simp)
def Xq{a b:Str}(ha:ĕ a=true)(hb:ĕ b=true):ϲ (.str a) (.str b)=some (.bl<|!decide (a=b)):=by
 have h:aE (.str a) (.str b)=decide (a=b):=by unfold aE;rfl
 unfold ϲ tj;rw[show ŭ (.str a)=true by unfold ŭ;exact ha,show ŭ (.str b)=true by unfold ŭ;exact hb,h];rfl
def Xr:ĕ (Æ "yard")=true:=by decide+kernel
def QH:ĕ (Æ "ray")=true:=by decide+kernel
def Z4S:ĕ (Æ "night")=true:=by decide+kernel
def QI:ĕ (Æ "day")=true:=by decide+kernel
def Z4d{w h:Int}(hw:1<=w/\w<=20)(hh:1<=h/\h<=20):gW [.sh<|.lst [.str "yard",aR w,aR h],.sh<|.int 0]=.ret (.sh<|.lst [.int w,.int h]):=by have e:=ZL (ns:=[w,h]) (λn hn=>by simp at hn;unfold Nb;lia) (by simp) (sl:=.sh<|.lst<|[w,h].map aR) (.inl rfl) 0;have ne:=Xq Xr Xr;have c:=ZH (PV.str "yard") [aR w,aR h];simp only[á,ϟ]at e;simp[gW,oQ,Ù,ne,c,e,Ģ,hw.1,hw.2,hh.1,hh.2,kD,dr]
def Z2M{w:Str}{ns:List Int}(hg:Z0 w ns=true)(hw:ĕ w=true)(hn:∀n∈ns,Nb n)(hl:ns.length<=1000)(k:Int){sl:Ű}(hs:Sl sl (.str w::ns.map aR)):fI [sl,.sh<|.int k]=.ret (.sh<|Z9 (Zh w) w ns):=by have e:=ZL hn hl (sl:=.sh<|.lst<|ns.map aR) (.inl rfl) k;have t:=WS hw (xs:=ns) (sl:=.bw<|ns.map .int)<|.inr rfl;rw[if_pos hg]at t;have c:=ZH (PV.str w)<|ns.map aR;rcases hs with rfl|rfl<;>simp[fI,lR,c,e,t]
def Z2N{l:List Nat}(h1:1<=l.length)(h2:l.length<=8)(hc:∀c∈l,97<=c/\c<=122):lI [.sh<|sV l]=.ret (.sh<|.bl true):=by
 have md:=Xm (l:=l) (by lia) "abcdefghijklmnopqrstuvwxyz" 8;have al:=Xo (l:=l) (s:="abcdefghijklmnopqrstuvwxyz") (a:=97) (n:=26) (by decide+kernel) λc h=>by have:=hc c h;lia
 rw[al]at md;have VJ:1<=(l.length:Int):=by lia
 have UI:(l.length:Int)<=8:=by lia
 simp only[VJ,UI,decide_true,Bool.and_self]at md;simp[lI,ud,md]
def Nm(l:List Nat):Prop:=1<=l.length/\l.length<=8/\∀c∈l,97<=c/\c<=122
def Nm.Xs{l:List Nat}(h:Nm l):zF l:=λc hc=>by have:=h.2.2 c hc;lia
def Z4e{l:List Nat}(hm:Nm l){t:Int}(h1:1<=t)(h2:t<=1000000000)(k:Int){sl:Ű}(hs:Sl sl [.str "day",sV l,aR t]):jK [sl,.sh<|.int k]=.ret (.ot [sV l,.int t] [] []):=by have e:=ZL (ns:=[t]) (λn hn=>by simp at hn;unfold Nb;lia) (by simp) (sl:=.sh<|.lst<|[t].map aR) (.inl rfl) k;have i:=Z2N hm.1 hm.2.1 hm.2.2;have c:cw [PV.str "day",sV l,aR t] (some 2) none=[aR t]:=QF [PV.str "day",sV l,aR t] 2 (by simp);simp only[á,ϟ]at e;rcases hs with rfl|rfl<;>simp[jK,qb,i,c,e,h1,h2]
def LH:Option P3->List PV
 |none=>[.str "night"]|some r=>[.str "ray",aR r.1,aR r.2.1,aR r.2.2]
def Oj(r:P3):Prop:=-1000000<=r.1/\r.1<=1000000/\ -1000000<=r.2.1/\r.2.1<=1000000/\1<=r.2.2/\r.2.2<=1000000
def Zy:Option P3->Prop
 |none=>True|some r=>Oj r
def Z3o{r:P3}(h:Oj r):oR [.sh<|c3 r]=.ret (.sh<|.bl true):=by
 obtain⟨h1,h2,h3,h4,h5,h6⟩:=h;have a1:(if r.1<0then -r.1 else r.1)<=1000000:=by split<;>lia
 have a2:(if r.2.1<0then -r.2.1 else r.2.1)<=1000000:=by split<;>lia
 simp[oR,vB,c3,a1,a2,h5,h6]
def dRN:(Æ "ray"=Æ "night")=False:=eq_false (by decide+kernel)
def UJ{n:Int}(h:Nb n):ŭ (aR n)=true:=by
 have pl:zF (nT n):=λc hc=>by rcases UH h.1 h.2 c hc with h|h<;>lia
 unfold aR sV ŭ;exact pl.ok
def QJ(l:List Nat):qh (sV l)=0:=by unfold sV qh;rfl
def Z3p{ws:List PV}{a:Str}(ha:ĕ a=true)(hn:¬a=Æ "night")(hw:ϻ ws=true)(hd:pA ws=0):ŉ (.lst (.str a::ws)) (.lst [.str "night"])=some (.bl false):=by
 have h1:aE (.lst (.str a::ws)) (.lst [.str<|Æ "night"])=false:=by
  unfold aE iA;have:aE (.str a) (.str<|Æ "night")=false:=by unfold aE;simpa using hn
  rw[this];rfl
 have h2:ŭ (.lst (.str a::ws))=true:=by unfold ŭ ϻ;rw[show ŭ (.str a)=true by unfold ŭ;exact ha,hw];rfl
 have h3:ŭ (.lst [.str<|Æ "night"])=true:=by decide+kernel
 have h4:qh (.lst (.str a::ws))=1:=by unfold qh pA;rw[hd];unfold qh;rfl
 unfold ŉ tj;rw[h1,h2,h3,h4];rfl
def Z3q{o:Option P3}(ho:Zy o)(k:Int){sl:Ű}(hs:Sl sl (LH o)):eQ [sl,.sh<|.int k]=.ret (.sh<|ak o):=by
 cases o with
 |none=>
  have h3:ŭ (.lst [.str<|Æ "night"])=true:=by decide+kernel
  have e:ŉ (.lst [.str "night"]) (.lst [.str "night"])=some (.bl true):=by unfold ŉ tj;rw[zb _ h3,h3];rfl
  change Sl sl [.str "night"]at hs;rcases hs with rfl|rfl<;>simp[eQ,jJ,e,ak]
 |some r=>
  obtain⟨h1,h2,h3,h4,h5,h6⟩:=ho;have e:=ZL (ns:=[r.1,r.2.1,r.2.2]) (λn hn=>by simp at hn;unfold Nb;lia) (by simp) (sl:=.sh<|.lst<|[r.1,r.2.1,r.2.2].map aR) (.inl rfl) k;have i:=Z3o (r:=r) ⟨h1,h2,h3,h4,h5,h6⟩;have c:=ZH (PV.str "ray") [aR r.1,aR r.2.1,aR r.2.2];have ne:=Xq QH QH;simp only[á,ϟ]at e;have eq:ŉ (.lst [.str "ray",aR r.1,aR r.2.1,aR r.2.2]) (.lst [.str "night"])=some (.bl false):=by
   refine Z3p QH (by rw[dRN];exact id) ?_ ?_
   ·have b1:=UJ (n:=r.1) ⟨by lia,by lia⟩;have b2:=UJ (n:=r.2.1) ⟨by lia,by lia⟩;have b3:=UJ (n:=r.2.2) ⟨by lia,by lia⟩;unfold ϻ ϻ ϻ ϻ;rw[b1,b2,b3];rfl
   ·unfold aR pA pA pA pA;rw[QJ,QJ,QJ];rfl
  change Sl sl [.str "ray",aR r.1,aR r.2.1,aR r.2.2]at hs;unfold c3 at i;rcases hs with rfl|rfl<;>simp[eQ,jJ,eq,ne,c,e,i,ak,c3]
@[simp]theorem Z5T{D:List (List PV×List PV)}:eM (.dw D)=some (.dw D):=rfl
abbrev Dz:=List Nat×Int×List (Option P3)
def dD(d:Dz):List PV×List PV:=([sV d.1,.int d.2.1],d.2.2.map ak)
def zV(d:Dz):Dy:=(S d.1,d.2.1,d.2.2)
def QK(D:List Dz):Bool:=match D.getLast? with
 |some d=>decide<|d.2.2.length=0|none=>false
def Xt{D:List Dz}(h0:∀d,D.getLast?=some d->d.2.2.length≠0):QK D=false:=by
 unfold QK;split
 ·rename_i d e;simpa using h0 d e
 ·rfl
def Xu{D:List Dz}:Ů [.dw<|D.map dD]=.ret (.sh<|.bl<|QK D):=by
 unfold QK;cases e:D.getLast? with
 |none=>have:D=[]:=List.getLast?_eq_none_iff.mp e;subst this;simp[Ů,c_]|some d=>
  have hl:0<(D.map dD).length:=by
   have:D≠[]:=λz=>by rw[z]at e;cases e
   have:=qS.mpr this;simp;lia
  have hg:(D.map dD).getLast?=some (dD d):=by rw[List.getLast?_map,e];rfl
  have h2:(dD d).1.length=2:=rfl;have h3:(dD d).2.length=d.2.2.length:=by simp[dD]
  generalize D.map dD=DD at*;by_cases h0:d.2.2.length=0
  ·have:(dD d).2=[]:=qL.mp (by lia);simp[Ů,c_,hl,hg,h2,this,h0]
  ·have:¬(dD d).2=[]:=λz=>h0 (by rw[<-h3,z];rfl);simp[Ů,c_,hl,hg,h2,this,h0]
def Z3r{D:List Dz}{d:Dz}(hd:D.getLast?=some d)(hl:d.2.2.length<24){o:Option P3}(ho:Zy o)(k:Int){sl:Ű}(hs:Sl sl (LH o)):gX [sl,.sh<|.int k,.dw<|D.map dD]=.ok (.l 2<|ak o):=by
 have e:=Z3q ho k hs;have l0:¬D.map dD=[]:=by
  have:D≠[]:=λz=>by rw[z]at hd;cases hd
  simpa using this
 have hg:(D.map dD).getLast?=some (dD d):=by rw[List.getLast?_map,hd];rfl
 have h2:(dD d).1.length=2:=rfl;have h3:(dD d).2.length=d.2.2.length:=by simp[dD]
 have h4:¬((dD d).2.length:Int)=24:=by lia
 have h5:(dD d).2.length<16777216:=by lia
 generalize D.map dD=DD,dD d=dd at*;simp[gX,oS,fW,ľ,l0,hg,h2,h4,h5,zl,hs.lend,e,WR.ix]
def Z3s(D:List Dz)(hl:D.length<=1000):Ģ (gD 0 1 2) Ĕ (ä 0) (D.map dD) [.no,.no,.no] []=some (D.map λd=>sV d.1):=by
 have key:∀(D:List Dz) (acc:List PV) (a b c:Ű),acc.length+D.length<=1000->Ģ (gD 0 1 2) Ĕ (ä 0) (D.map dD) [a,b,c] acc=some (acc++D.map λd=>sV d.1):=by
  intro D
  induction D with
  |nil=>intro acc a b c _;simp[Ģ]|cons d D ih=>
   intro acc a b c hl;rw[Ę]at hl;have h1:acc.length<16777216:=by lia
   have:=ih (acc++[sV d.1]) (.sh<|sV d.1) (.sh<|.int d.2.1) (.bw<|d.2.2.map ak) (by simp;lia);rw[á,Ģ];simp[dD,gD,h1,Ĕ];simpa[dD]using this
 simpa using key D [] .no .no .no (by simpa using hl)
def Z4T{a b:List Nat}:S a=S b↔a=b:=by
 constructor
 ·intro h;have:=congrArg (λs=>s.cps.toList) h;simpa using this
 ·intro h;rw[h]
def Z1E{l:List Nat}(hl:zF l){D:List Dz}(hD:∀d∈D,zF d.1)(h:l∉D.map (·.1)):Cs false (sV l) (.lst<|D.map λd=>sV d.1)=some (.bl false):=by
 have h1:ŭ (sV l)=true:=by unfold sV ŭ;exact hl.ok
 have h2:∀D:List Dz,(∀d∈D,zF d.1)->ϻ (D.map λd=>sV d.1)=true:=by
  intro D
  induction D with
  |nil=>intro _;rfl|cons d D ih=>
   intro hD;rw[á,ϻ,ih λx hx=>hD x<|ð _ hx];have:ŭ (sV d.1)=true:=by unfold sV ŭ;exact(hD d<|by simp).ok
   rw[this];rfl
 have h3:((D.map λd=>sV d.1).any λy=>aE y<|sV l)=false:=by rw[nj];intro y hy;obtain⟨d,hd,rfl⟩:=Đ.mp hy;unfold sV aE;intro z;exact h<|Đ.mpr ⟨d,hd,Z4T.mp<|of_decide_eq_true z⟩
 unfold Cs;dsimp only;rw[h1,h2 D hD,QJ,h3];rfl
def Z4f{D:List Dz}(h0:∀d,D.getLast?=some d->d.2.2.length≠0)(hD:D.length<12)(hp:∀d∈D,zF d.1){l:List Nat}(hm:Nm l)(hn:l∉D.map (·.1)){t:Int}(h1:1<=t)(h2:t<=1000000000)(k:Int){sl:Ű}(hs:Sl sl [.str "day",sV l,aR t]):jL [sl,.sh<|.int k,.dw<|D.map dD]=.ok (.d 2 [sV l,.int t]):=by
 have lk:=Xu (D:=D);rw[Xt h0]at lk;have rd:=Z4e hm h1 h2 k hs;have cg:=Z3s D (by lia);have ni:=Z1E hm.Xs hp hn;have l12:¬((D.map dD).length:Int)=12:=by simp;lia
 have UK:(D.map dD).length<16777216:=by simp;lia
 generalize D.map dD=DD,D.map (λd=>sV d.1)=NN,sV l=L at*;simp[jL,qc,fW,ľ,Ù,lk,l12,hs.lend,rd,RV.slot,zc,ģ,pG,mK,cg,ni,zj,UK,WR.ix]
def Z2O{T:List PV}(hT:T.length<40){w:Str}{ns:List Int}(hg:Z0 w ns=true)(hw:ĕ w=true)(hn:∀n∈ns,Nb n)(hl:ns.length<=1000)(k:Int){sl:Ű}(hs:Sl sl (.str w::ns.map aR)):db [sl,.sh<|.int k,.bw T,.dw []]=.ok (.t 2<|pM (w,ns)):=by
 have rt:=Z2M hg hw hn hl k hs;have l40:¬(T.length:Int)=40:=by lia
 have UK:T.length<16777216:=by lia
 change _=FR.ret (.sh<|pM (w,ns))at rt;simp[db,lS,fW,ľ,l40,hs.lend,rt,zi,UK,WR.ix]
def Xv{w:Str}{xs:List Int}(h:Z0 w xs=true):xs.length<=100/\(∀n∈xs,-1000000000<=n/\n<=1000000000)/\w.cps.toList.length<=1000:=by
 have pl:∀{x},dI x=true-> -1000000000<=x/\x<=1000000000:=λh=>by simpa[dI]using h
 have gl:∀{x},zD x=true-> -1000000000<=x/\x<=1000000000:=λh=>by simp[zD]at h;lia
 have hl:∀{x},zC x=true-> -1000000000<=x/\x<=1000000000:=λh=>by simp[zC]at h;lia
 have hp:Zg xs=true->xs.length<=100/\(∀n∈xs,-1000000000<=n/\n<=1000000000):=λh=>by obtain⟨a,b,c,rfl⟩:=Qw h;simp only[Zg,Ă]at h;obtain⟨⟨h1,h2⟩,h3⟩:=h;exact⟨by simp,by simp only[ny];exact⟨pl h1,pl h2,hl h3,nofun⟩⟩
 have he:Zd xs=true->xs.length<=100/\(∀n∈xs,-1000000000<=n/\n<=1000000000):=λh=>by obtain⟨a,b,c,d,e,rfl⟩:=Z4D h;simp only[Zd,Ă]at h;obtain⟨⟨⟨⟨h1,h2⟩,h3⟩,h4⟩,h5⟩:=h;exact⟨by simp,by simp only[ny];exact⟨pl h1,pl h2,pl h3,pl h4,hl h5,nofun⟩⟩
 have hf:Z7 xs=true->Zd xs=true:=λh=>by obtain⟨a,b,c,d,e,rfl⟩:=Qx h;simp[Z7]at h;exact h.1
 have hb:Za xs=true->Zd xs=true:=λh=>by obtain⟨a,b,c,d,e,rfl⟩:=LA h;simp[Za]at h;exact h.1.1
 have hc:Z8 xs=true->xs.length<=100/\(∀n∈xs,-1000000000<=n/\n<=1000000000):=λh=>by obtain⟨a,b,c,d,e,f,g,i,j,rfl⟩:=Qy h;simp only[Z8,Ă]at h;obtain⟨⟨⟨⟨h1,h2⟩,h3⟩,⟨h4,h5⟩,h6⟩,⟨h7,h8⟩,h9⟩:=h;exact⟨by simp,by simp only[ny];exact⟨pl h1,pl h2,gl h3,pl h4,pl h5,gl h6,pl h7,pl h8,gl h9,nofun⟩⟩
 unfold Z0 at h;split at h
 ·next e=>exact⟨(hp h).1,(hp h).2,by rw[e];decide+kernel⟩
 split at h
 ·next e=>exact⟨(he<|hf h).1,(he<|hf h).2,by rw[e];decide+kernel⟩
 split at h
 ·next e=>exact⟨(he<|hb h).1,(he<|hb h).2,by rw[e];decide+kernel⟩
 split at h
 ·next e=>exact⟨(hc h).1,(hc h).2,by rw[e];decide+kernel⟩
 split at h
 ·next e=>exact⟨(he<|hb h).1,(he<|hb h).2,by rw[e];decide+kernel⟩
 ·cases h
inductive Rw where
 |th (t:Th)|dy (l:List Nat) (t:Int)|tn (o:Option P3)
def FT:Rw->List PV
 |.th t=>.str t.1::t.2.map aR|.dy l t=>[.str "day",sV l,aR t]|.tn o=>LH o
def ZV{w:Str}{ns:List Int}(h:Z0 w ns=true):(∀n∈ns,Nb n)/\ns.length<=100:=⟨λn hn=>by have:=(Xv h).2.1 n hn;unfold Nb;lia,(Xv h).1⟩
def QL{w:Str}{xs:List Int}(h:Z0 w xs=true):ĕ w=true:=by
 unfold Z0 at h;by_cases e1:w="post"
 ·rw[e1];exact s1
 rw[if_neg e1]at h;by_cases e2:w="fence"
 ·rw[e2];exact s2
 rw[if_neg e2]at h;by_cases e3:w="sail"
 ·rw[e3];exact s3
 rw[if_neg e3]at h;by_cases e4:w="cloth"
 ·rw[e4];exact s4
 rw[if_neg e4]at h;by_cases e5:w="house"
 ·rw[e5];exact s5
 rw[if_neg e5]at h;cases h
def Xw{w:Str}{xs:List Int}(h:Z0 w xs=true):w="post" \/w="fence" \/w="sail" \/w="cloth" \/w="house":=by
 unfold Z0 at h;by_cases e1:w="post"
 ·exact .inl e1
 rw[if_neg e1]at h;by_cases e2:w="fence"
 ·exact .inr<|.inl e2
 rw[if_neg e2]at h;by_cases e3:w="sail"
 ·exact .inr<|.inr<|.inl e3
 rw[if_neg e3]at h;by_cases e4:w="cloth"
 ·exact .inr<|.inr<|.inr<|.inl e4
 rw[if_neg e4]at h;by_cases e5:w="house"
 ·exact .inr<|.inr<|.inr<|.inr e5
 rw[if_neg e5]at h;cases h
def QM{a:Str}(ha:ĕ a=true):Cs false (.str a) (.tup [.str "ray",.str "night"])=some (.bl<|decide (Æ "ray"=a)||decide (Æ "night"=a)):=by
 have h1:ŭ (.str a)=true:=by unfold ŭ;exact ha
 have h2:ϻ [.str<|Æ "ray",.str<|Æ "night"]=true:=by decide+kernel
 unfold Cs;dsimp only;rw[h1,h2];have h3:qh (.str a)=0:=by unfold qh;rfl
 rw[h3];have e:∀b:Str,aE (.str b) (.str a)=decide (b=a):=λb=>by unfold aE;rfl
 rw[jb,jb,List.any_nil,e,e,vI];rfl
def dWD{w:Str}{xs:List Int}(h:Z0 w xs=true):¬Æ "ray"=w/\¬Æ "night"=w/\¬w=Æ "day":=by
 rcases Xw h with rfl|rfl|rfl|rfl|rfl<;>decide+kernel
def Z3t{T:List PV}{D:List Dz}{d:Dz}(hd:D.getLast?=some d)(hl:d.2.2.length<24){o:Option P3}(ho:Zy o)(k:Int):Ħ [.sh<|.lst<|LH o,.sh<|.int k,.bw T,.dw<|D.map dD]=.ok (.l 3<|ak o):=by
 have e:=Z3r hd hl ho k (sl:=.sh<|.lst<|LH o)<|.inl rfl;have i:∃a r,LH o=.str a::r/\Cs false (.str a) (.tup [.str "ray",.str "night"])=some (.bl true):=by
  cases o with
  |none=>exact⟨_,_,rfl,by rw[QM Z4S];simp⟩|some r=>exact⟨_,_,rfl,by rw[QM QH];simp⟩
 obtain⟨a,r,e1,e2⟩:=i;rw[e1]at e⊢;simp[Ħ,gY,fW,ľ,e2,ϫ,jX,e,qo,WR.ix,WR.to]
def Z4g{T:List PV}{D:List Dz}(h0:∀d,D.getLast?=some d->d.2.2.length≠0)(hD:D.length<12)(hp:∀d∈D,zF d.1){l:List Nat}(hm:Nm l)(hn:l∉D.map (·.1)){t:Int}(h1:1<=t)(h2:t<=1000000000)(k:Int):Ħ [.sh<|.lst [.str "day",sV l,aR t],.sh<|.int k,.bw T,.dw<|D.map dD]=.ok (.d 3 [sV l,.int t]):=by
 have e:=Z4f h0 hD hp hm hn h1 h2 k (sl:=.sh<|.lst [.str "day",sV l,aR t])<|.inl rfl;have i:Cs false (.str<|Æ "day") (.tup [.str "ray",.str "night"])=some (.bl false):=by rw[QM QI,show decide (Æ "ray"=Æ "day")=false by decide+kernel,show decide (Æ "night"=Æ "day")=false by decide+kernel];rfl
 have q:=İ QI QI;simp[Ħ,gY,fW,ľ,i,q,ϫ,jX,e,qo,WR.ix,WR.to]
def Z2P{T:List PV}(hT:T.length<40){t:Th}(hg:Z0 t.1 t.2=true)(k:Int):Ħ [.sh<|.lst (.str t.1::t.2.map aR),.sh<|.int k,.bw T,.dw []]=.ok (.t 2<|pM t):=by have e:=Z2O hT hg (QL hg) (ZV hg).1 (by have:=(ZV hg).2;lia) k (sl:=.sh<|.lst (.str t.1::t.2.map aR)) (.inl rfl);obtain⟨d1,d2,d3⟩:=dWD hg;have i:=QM<|QL hg;have q:=İ (QL hg) QI;simp only[d1,d2,decide_false,Bool.or_self]at i;simp only[d3,decide_false]at q;change db _=FW.ok (.t 2<|pM t)at e;simp[Ħ,gY,fW,ľ,i,q,ϫ,jX,e,qo,WR.ix,WR.to]
abbrev yq:=jF 5 6 3 4<|ϫ Ħ [6,5,3,4]
def Z5u{ws:List PV}{k:Int}{T:List PV}{D:DL}{p:PV}(h:Ħ [.sh<|.lst ws,.sh<|.int k,.bw T,.dw D]=.ok (.t 2 p))(ps:List PV)(s0 s1 s2 a b:Ű):
 yq (.tup [.int k,.lst ws]::ps) [s0,s1,s2,.no,.no,a,b] T D=yq ps [s0,s1,s2,.no,.no,.sh<|.int k,.sh<|.lst ws] (T++[p]) D:=by
 unfold yq;rw[jF];have e:ϫ Ħ [6,5,3,4] (aZ 3 4 T D<|(([s0,s1,s2,.no,.no,a,b]:ċ).set 5 (.sh<|.int k)).set 6 (.sh<|.lst ws))=.ok (.t 3 p) (aZ 3 4 T D<|(([s0,s1,s2,.no,.no,a,b]:ċ).set 5 (.sh<|.int k)).set 6 (.sh<|.lst ws)):=by simp[ϫ,aZ,jX,p_,h,WR.ix,qo,WR.to]
 rw[e];rfl
def Z5v{ws:List PV}{k:Int}{T:List PV}{D:DL}{p:List PV}(h:Ħ [.sh<|.lst ws,.sh<|.int k,.bw T,.dw D]=.ok (.d 3 p))(ps:List PV)(s0 s1 s2 a b:Ű):
 yq (.tup [.int k,.lst ws]::ps) [s0,s1,s2,.no,.no,a,b] T D=yq ps [s0,s1,s2,.no,.no,.sh<|.int k,.sh<|.lst ws] T (D++[(p,[])]):=by
 unfold yq;rw[jF];have e:ϫ Ħ [6,5,3,4] (aZ 3 4 T D<|(([s0,s1,s2,.no,.no,a,b]:ċ).set 5 (.sh<|.int k)).set 6 (.sh<|.lst ws))=.ok (.d 4 p) (aZ 3 4 T D<|(([s0,s1,s2,.no,.no,a,b]:ċ).set 5 (.sh<|.int k)).set 6 (.sh<|.lst ws)):=by simp[ϫ,aZ,jX,p_,h,WR.ix,qo,WR.to]
 rw[e];rfl
def Z5w{ws:List PV}{k:Int}{T:List PV}{D:DL}{p:PV}{d:List PV×List PV}(h:Ħ [.sh<|.lst ws,.sh<|.int k,.bw T,.dw D]=.ok (.l 3 p))(hd:D.getLast?=some d)(ps:List PV)(s0 s1 s2 a b:Ű):
 yq (.tup [.int k,.lst ws]::ps) [s0,s1,s2,.no,.no,a,b] T D=yq ps [s0,s1,s2,.no,.no,.sh<|.int k,.sh<|.lst ws] T (D.dropLast++[(d.1,d.2++[p])]):=by
 unfold yq;rw[jF];have e:ϫ Ħ [6,5,3,4] (aZ 3 4 T D<|(([s0,s1,s2,.no,.no,a,b]:ċ).set 5 (.sh<|.int k)).set 6 (.sh<|.lst ws))=.ok (.l 4 p) (aZ 3 4 T D<|(([s0,s1,s2,.no,.no,a,b]:ċ).set 5 (.sh<|.int k)).set 6 (.sh<|.lst ws)):=by simp[ϫ,aZ,jX,p_,h,WR.ix,qo,WR.to]
 rw[e];have e2:zp 3 4 (.l 4 p) T D=some (T,D.dropLast++[(d.1,d.2++[p])]):=by unfold zp;simp[hd]
 dsimp only;rw[e2];rfl
def zG(r:Rw):PV:=.lst<|FT r
def Z4h:∀(ts:List Th) (T0:List PV) (k:Nat) (rest:List PV) (s0 s1 s2 a b:Ű),(∀t∈ts,Z0 t.1 t.2=true)->T0.length+ts.length<=40->
 ∃a' b',yq (bQ k<|ts.map (λt=>zG<|.th t)++rest) [s0,s1,s2,.no,.no,a,b] T0 []=yq (bQ (k+ts.length) rest) [s0,s1,s2,.no,.no,a',b'] (T0++ts.map pM) []:=by
 intro ts
 induction ts with
 |nil=>intro T0 k rest s0 s1 s2 a b _ _;exact⟨a,b,by simp⟩|cons t ts ih=>intro T0 k rest s0 s1 s2 a b hg hl;rw[Ę]at hl;have r:=Z2P (T:=T0) (by lia) (hg t<|by simp) (k:Int);obtain⟨a',b',e⟩:=ih (T0++[pM t]) (k+1) rest s0 s1 s2 (.sh<|.int k) (.sh<|zG<|.th t) (λx hx=>hg x<|ð _ hx) (by simp;lia);refine⟨a',b',?_⟩;rw[á,dQ];show yq (.tup [.int k,.lst<|FT<|.th t]::bQ (k+1) _) _ _ _=_;rw[Z5u<|show Ħ [.sh<|.lst<|FT<|.th t,.sh<|.int k,.bw T0,.dw []]=_ from r];refine e.trans ?_;rw[Ę,show k+1+ts.length=k+(ts.length+1) by lia];simp
def Z4i:∀(os:List (Option P3)) (T:List PV) (D:List Dz) (d:Dz) (k:Nat) (rest:List PV) (s0 s1 s2 a b:Ű),(∀o∈os,Zy o)->d.2.2.length+os.length<=24->
 ∃a' b',yq (bQ k<|os.map (λo=>zG<|.tn o)++rest) [s0,s1,s2,.no,.no,a,b] T ((D++[d]).map dD)=yq (bQ (k+os.length) rest) [s0,s1,s2,.no,.no,a',b'] T ((D++[(d.1,d.2.1,d.2.2++os)]).map dD):=by
 intro os
 induction os with
 |nil=>intro T D d k rest s0 s1 s2 a b _ _;exact⟨a,b,by simp⟩|cons o os ih=>
  intro T D d k rest s0 s1 s2 a b hg hl;rw[Ę]at hl;have r:=Z3t (T:=T) (D:=D++[d]) (d:=d) (by simp) (by lia) (hg o<|by simp) (k:Int);obtain⟨a',b',e⟩:=ih T D (d.1,d.2.1,d.2.2++[o]) (k+1) rest s0 s1 s2 (.sh<|.int k) (.sh<|zG<|.tn o) (λx hx=>hg x<|ð _ hx) (by simp;lia);refine⟨a',b',?_⟩;rw[á,dQ];show yq (.tup [.int k,.lst<|FT<|.tn o]::bQ (k+1) _) _ _ _=_;rw[Z5w (d:=dD d) (show Ħ [.sh<|.lst<|FT<|.tn o,.sh<|.int k,.bw T,.dw<|(D++[d]).map dD]=_ from r) (by rw[ş];simp)];have ed:((D++[d]).map dD).dropLast++[((dD d).1,(dD d).2++[ak o])]=(D++[(d.1,d.2.1,d.2.2++[o])]).map dD:=by rw[ş,ş,á,ϟ,List.dropLast_concat];simp[dD]
  rw[ed];refine e.trans ?_;rw[Ę,show k+1+os.length=k+(os.length+1) by lia];simp
def ZE(d:Dz):Prop:=Nm d.1/\1<=d.2.1/\d.2.1<=1000000000/\1<=d.2.2.length/\d.2.2.length<=24/\∀o∈d.2.2,Zy o
def FA(d:Dz):List PV:=zG (.dy d.1 d.2.1)::d.2.2.map λo=>zG<|.tn o
def Z4j:∀(ds:List Dz) (T:List PV) (D:List Dz) (k:Nat) (s0 s1 s2 a b:Ű),(∀d∈D++ds,ZE d)->((D++ds).map (·.1)).Nodup->D.length+ds.length<=12->
 ∃a' b',yq (bQ k<|ds.flatMap FA) [s0,s1,s2,.no,.no,a,b] T (D.map dD)=.ok (T,(D++ds).map dD) [s0,s1,s2,.no,.no,a',b']:=by
 intro ds
 induction ds with
 |nil=>intro T D k s0 s1 s2 a b _ _ _;exact⟨a,b,by simp[bQ,jF]⟩|cons d ds ih=>
  intro T D k s0 s1 s2 a b hg hn hl;rw[Ę]at hl;obtain⟨g1,g2,g3,g4,g5,g6⟩:=hg d (by simp);have hn1:d.1∉D.map (·.1):=by rw[ş,á,wc]at hn;intro z;exact hn.2.2 _ z _ (by simp) rfl
  have h0:∀x,D.getLast?=some x->x.2.2.length≠0:=λx hx=>by have:=(hg x<|kU _<|A_ hx).2.2.2.1;lia
  have r:=Z4g (T:=T) h0 (by lia) (λx hx=>(hg x<|kU _ hx).1.Xs) g1 hn1 g2 g3 (k:Int);rw[nv];show ∃a' b',yq (.tup [.int k,.lst<|FT<|.dy d.1 d.2.1]::bQ (k+1) (d.2.2.map (λo=>zG<|.tn o)++ds.flatMap FA)) _ _ _=_;rw[Z5v<|show Ħ [.sh<|.lst<|FT<|.dy d.1 d.2.1,.sh<|.int k,.bw T,.dw<|D.map dD]=_ from r];have ed:D.map dD++[([sV d.1,.int d.2.1],[])]=(D++[(d.1,d.2.1,[])]).map dD:=by rw[ş];rfl
  rw[ed];obtain⟨a1,b1,e1⟩:=Z4i d.2.2 T D (d.1,d.2.1,[]) (k+1) (ds.flatMap FA) s0 s1 s2 (.sh<|.int k) (.sh<|.lst<|FT<|.dy d.1 d.2.1) g6 (by simpa using g5);have ed2:(D++[(d.1,d.2.1,[]++d.2.2)])=D++[d]:=by simp
  rw[e1];dsimp only;rw[ed2];have hh:D++[d]++ds=D++d::ds:=by simp
  obtain⟨a2,b2,e2⟩:=ih T (D++[d]) (k+1+d.2.2.length) s0 s1 s2 a1 b1 (by rw[hh];exact hg) (by rw[hh];exact hn) (by simp;lia);rw[hh]at e2;exact⟨a2,b2,e2⟩
def Z5x(D:List Dz)(hl:D.length<=1000)(hd:∀d∈D,d.2.2.length<=1000):Ģ (gD 0 1 2) Ĕ (Ō<|É (ä 0)<|É (ä 1)<|É (Ý<|xD kz<|É (Â 2) ã) ã) (D.map dD) [.no,.no,.no] []=some ((D.map zV).map pf):=by
 have key:∀(D:List Dz) (acc:List PV) (a b c:Ű),acc.length+D.length<=1000->(∀d∈D,d.2.2.length<=1000)->Ģ (gD 0 1 2) Ĕ (Ō<|É (ä 0)<|É (ä 1)<|É (Ý<|xD kz<|É (Â 2) ã) ã) (D.map dD) [a,b,c] acc=some (acc++(D.map zV).map pf):=by
  intro D
  induction D with
  |nil=>intro acc a b c _ _;simp[Ģ]|cons d D ih=>
   intro acc a b c hl hd;rw[Ę]at hl;have h1:acc.length<16777216:=by lia
   have h2:=hd d (by simp);have:=ih (acc++[pf<|zV d]) (.sh<|sV d.1) (.sh<|.int d.2.1) (.bw<|d.2.2.map ak) (by simp;lia)<|λx hx=>hd x<|ð _ hx;have e:dD d=([sV d.1,.int d.2.1],d.2.2.map ak):=rfl;have e2:pf (zV d)=.tup [sV d.1,.int d.2.1,.lst<|d.2.2.map ak]:=rfl;have hz:(d.2.2.map ak).length<=16777216:=by simp;lia
   rw[á,Ģ,á,á,e];rw[e2]at this⊢;simp[gD,h1,Ĕ];simpa using this
 simpa using key D [] .no .no .no (by simpa using hl) hd
def Z4k(w h:Int){T:List Th}{D:List Dz}(hT:T.length<=100000)(hD:D.length<=1000)(hd:∀d∈D,d.2.2.length<=1000):jI [.sh<|.int w,.sh<|.int h,.bw<|T.map pM,.dw<|D.map dD]=.ok ["width","height","things","days"] [.int w,.int h,.lst<|T.map pM,.lst<|(D.map zV).map pf]:=by have c:=Z5x D hD hd;simp[jI,dH,iH,jV,IR.of,Ù,putN,Aq,ywh,ywt,ywd,yht,yhd,ytd,c,Qc,Ky,ģ,pG,mK]
def wC(s:String):List Nat:=(Æ s).cps.toList
def LI(s:Str):S s.cps.toList=s:=jj (by simp)
def fg:Rw->List (List Nat)
 |.th t=>t.1.cps.toList::t.2.map nT|.dy l t=>[wC "day",l,nT t]|.tn none=>[wC "night"]|.tn (some r)=>[wC "ray",nT r.1,nT r.2.1,nT r.2.2]
theorem Z5y:∀r:Rw,(fg r).map sV=FT r
 |.th t=>by unfold fg FT sV;rw[á,LI,Ğ];rfl|.dy l t=>rfl|.tn none=>rfl|.tn (some r)=>rfl
def Zv(T:List Th)(D:List Dz):List Rw:=T.map .th++D.flatMap λd=>.dy d.1 d.2.1::d.2.2.map .tn
def Z1(ws:List (List Nat)):List Nat:=ţ [32] ws
def yT(w h:Int):List (List Nat):=[wC "yard",nT w,nT h]
def HF(w h:Int)(T:List Th)(D:List Dz):List (List Nat):=Z1 (yT w h)::(Zv T D).map λr=>Z1<|fg r
def Dg(w h:Int)(T:List Th)(D:List Dz):List Nat:=ţ [10] (HF w h T D)
def Wd(l:List Nat):Prop:=l.length<=11/\∀c∈l,33<=c/\c<256
def ZI{n:Int}(h:Nb n):Wd (nT n):=⟨(QE h.1 h.2).2,λc hc=>by rcases UH h.1 h.2 c hc with h|h<;>lia⟩
def Nm.wd{l:List Nat}(h:Nm l):Wd l:=⟨by have:=h.2.1;lia,λc hc=>by have:=h.2.2 c hc;lia⟩
def LJ{s:String}(h:((wC s).length<=11/\(wC s).all (λc=>decide<|33<=c/\c<256)=true)):Wd (wC s):=⟨h.1,λc hc=>of_decide_eq_true<|bp.mp h.2 c hc⟩
def Z4l{w:Str}{xs:List Int}(h:Z0 w xs=true):Wd w.cps.toList:=by rcases Xw h with rfl|rfl|rfl|rfl|rfl<;>exact LJ (by decide+kernel)
def QN:Rw->Prop
 |.th t=>Z0 t.1 t.2=true|.dy l t=>Nm l/\1<=t/\t<=1000000000|.tn o=>Zy o
theorem UL:∀{r:Rw},QN r->(∀x∈fg r,Wd x)/\fg r≠[]/\(fg r).length<=101
 |.th t,h=>by
   have h':Z0 t.1 t.2=true:=h;refine⟨λx hx=>?_,by simp[fg],?_⟩
   ·rcases ö.mp hx with rfl|hx
    ·exact Z4l h'
    ·obtain⟨n,hn,rfl⟩:=Đ.mp hx;exact ZI<|(ZV h').1 n hn
   ·have:=(ZV h').2;simp[fg];lia
 |.dy l t,h=>by
   obtain⟨h1,h2,h3⟩:=h;refine⟨λx hx=>?_,by simp[fg],by simp[fg]⟩;have:x=wC "day" \/x=l\/x=nT t:=by simpa[fg]using hx
   rcases this with rfl|rfl|rfl
   ·exact LJ (by decide+kernel)
   ·exact h1.wd
   ·exact ZI ⟨by lia,by lia⟩
 |.tn none,_=>by
   refine⟨λx hx=>?_,by simp[fg],by simp[fg]⟩;have:x=wC "night":=by simpa[fg]using hx
   subst this;exact LJ (by decide+kernel)
 |.tn (some r),h=>by
   obtain⟨h1,h2,h3,h4,h5,h6⟩:=h;refine⟨λx hx=>?_,by simp[fg],by simp[fg]⟩;have:x=wC "ray" \/x=nT r.1\/x=nT r.2.1\/x=nT r.2.2:=by simpa[fg]using hx
   rcases this with rfl|rfl|rfl|rfl
   ·exact LJ (by decide+kernel)
   ·exact ZI ⟨by lia,by lia⟩
   ·exact ZI ⟨by lia,by lia⟩
   ·exact ZI ⟨by lia,by lia⟩
theorem Xx{c:Nat}:∀(ys:List (List Nat)) {x:Nat},x∈ţ [c] ys->x=c\/∃y∈ys,x∈y
 |[],_,h=>by cases h|[y],_,h=>.inr ⟨y,by simp,h⟩|y::z::r,x,h=>by
  have h':x∈y++[c]++ţ [c] (z::r):=h;rcases aH.mp h' with h1|h1
  ·rcases aH.mp h1 with h2|h2
   ·exact .inr ⟨y,by simp,h2⟩
   ·exact .inl (by simpa using h2)
  ·rcases Xx (z::r) h1 with e|⟨q,hq,e⟩
   ·exact .inl e
   ·exact .inr ⟨q,ð _ hq,e⟩
theorem QO{c:Nat}:∀(ys:List (List Nat)) (B:Nat),(∀y∈ys,y.length<=B)->(ţ [c] ys).length<=ys.length*(B+1)
 |[],B,_=>by simp[ţ]|[y],B,h=>by have:=h y (by simp);show y.length<=_;simp;lia|y::z::r,B,h=>by
  have h1:=h y (by simp);have ih:=QO (c:=c) (z::r) B λq hq=>h q<|ð _ hq;show(y++[c]++ţ [c] (z::r)).length<=_;rw[Ϟ,Ϟ];have e:(y::z::r).length*(B+1)=(z::r).length*(B+1)+(B+1):=by rw[Ę (a:=y),qZ,wm]
  have e1:[c].length=1:=rfl;lia
def Xy{ws:List (List Nat)}(h:∀x∈ws,Wd x)(h0:ws≠[]):Sp.Ł 32 (Z1 ws)=ws:=Sp.jG 32 ws h0 λy hy z=>by have:=(h y hy).2 32 z;lia
def Z4U{ws:List (List Nat)}(h:∀x∈ws,Wd x):10∉Z1 ws:=λz=>by
 rcases Xx ws z with e|⟨y,hy,e⟩
 ·cases e
 ·have:=(h y hy).2 10 e;lia
def ZW{ws:List (List Nat)}(h:∀x∈ws,Wd x)(hl:ws.length<=101):(Z1 ws).length<=1212:=by have:=QO (c:=32) ws 11 λy hy=>(h y hy).1;unfold Z1;have h2:ws.length*(11+1)<=101*12:=bt hl (by lia);lia
def UM{w h:Int}(hw:1<=w/\w<=20)(hh:1<=h/\h<=20):(∀x∈yT w h,Wd x)/\yT w h≠[]/\(yT w h).length<=101:=by
 refine⟨λx hx=>?_,by simp[yT],by simp[yT]⟩;have:x=wC "yard" \/x=nT w\/x=nT h:=by simpa[yT]using hx
 rcases this with rfl|rfl|rfl
 ·exact LJ (by decide+kernel)
 ·exact ZI ⟨by lia,by lia⟩
 ·exact ZI ⟨by lia,by lia⟩
def Z2Q{W:List (List<|List Nat)}(h0:W≠[])(h:∀ws∈W,∀x∈ws,Wd x):Sp.Ł 10 (ţ [10] (W.map Z1))=W.map Z1:=by refine Sp.jG 10 _ (by simpa using h0) λy hy=>?_;obtain⟨ws,hw,rfl⟩:=Đ.mp hy;exact Z4U<|h ws hw
def Z4m{W:List (List<|List Nat)}(hl:W.length<=1000)(h:∀ws∈W,(∀x∈ws,Wd x)/\ws.length<=101):(ţ [10] (W.map Z1)).length<=1213000:=by
 have:=QO (c:=10) (W.map Z1) 1212 λy hy=>by obtain⟨ws,hw,rfl⟩:=Đ.mp hy;exact ZW (h ws hw).1 (h ws hw).2
 rw[ħ]at this;have h2:W.length*(1212+1)<=1000*1213:=bt hl (by lia);lia
def QP{c:Nat}(hc:c<256){y:Str}(hy:y=S [c]){l:List Nat}(hl:l.length<=16000000):fX (sV l) [.str y]=some (.ow<|(Sp.Ł c l).map sV):=by
 have e:Db y=some c:=by rw[hy];rfl
 show((Db y).bind λc=>if c<256/\(S l).length+2<=16777216then some (RV.ow<|(Sp.Ł c (S l).cps.toList).map λl=>PV.str<|S l)else none)=_;rw[e];show(if c<256/\(S l).length+2<=16777216then some (RV.ow<|(Sp.Ł c (S l).cps.toList).map λl=>PV.str<|S l)else none)=_;rw[if_pos ⟨hc,by rw[ZC];lia⟩];rfl
def Xz:Æ "\n"=S [10]:=by decide+kernel
def UN:Æ " "=S [32]:=by decide+kernel
def Z2R{W:List (List<|List Nat)}(hl:W.length<=1000)(h:∀ws∈W,(∀x∈ws,Wd x)/\ws≠[]/\ws.length<=101):Ģ (gN 0) Ĕ (Ý<|AD fX (Â 0)<|É (mC<|.str " ") ã) ((W.map Z1).map sV) [.no] []=some (W.map λws=>.lst<|ws.map sV):=by
 have:=ē (g:=gN 0) (mt:=Ĕ) (me:=Ý<|AD fX (Â 0)<|É (mC<|.str " ") ã) (λws=>sV<|Z1 ws) (λws=>PV.lst<|ws.map sV) (λU=>∃s,U=[s]) W [.no] [] ⟨_,rfl⟩ (by simp;lia) (by
  rintro ws hw U ⟨s,rfl⟩;obtain⟨h1,h2,h3⟩:=h ws hw;have e:=QP (c:=32) (by lia) UN (l:=Z1 ws) (by have:=ZW h1 h3;lia);rw[Xy h1 h2]at e;refine⟨[.sh<|sV<|Z1 ws],_,[.sh<|sV<|Z1 ws],by simp,rfl,?_,_,rfl⟩;unfold sV at e⊢;simp[e])
 rw[Ğ];simpa[vJ]using this
def XA{T:List Th}{D:List Dz}(hT:∀t∈T,Z0 t.1 t.2=true)(hD:∀d∈D,ZE d):∀r∈Zv T D,QN r:=by
 intro r hr;rcases aH.mp hr with hr|hr
 ·obtain⟨t,ht,rfl⟩:=Đ.mp hr;exact hT t ht
 ·obtain⟨d,hd,hr⟩:=qQ.mp hr;obtain⟨g1,g2,g3,_,_,g6⟩:=hD d hd;rcases ö.mp hr with rfl|hr
  ·exact⟨g1,g2,g3⟩
  ·obtain⟨o,ho,rfl⟩:=Đ.mp hr;exact g6 o ho
def XB{T:List Th}{D:List Dz}(hT:T.length<=40)(hD:∀d∈D,ZE d)(hl:D.length<=12):(Zv T D).length<=400:=by
 have:∀D:List Dz,(∀d∈D,ZE d)->(D.flatMap λd=>Rw.dy d.1 d.2.1::d.2.2.map Rw.tn).length<=D.length*25:=by
  intro D
  induction D with
  |nil=>intro _;simp|cons d D ih=>intro h;have h1:=ih λx hx=>h x<|ð _ hx;have h2:=(h d<|by simp).2.2.2.2.1;rw[nv,Ϟ,Ę,Ę,ħ];lia
 have:=this D hD;unfold Zv;rw[Ϟ,ħ];lia
def Z4V(T:List Th)(D:List Dz):((Zv T D).map λr=>PV.lst<|(fg r).map sV)=T.map (λt=>zG<|.th t)++D.flatMap FA:=by
 have e:∀r,PV.lst ((fg r).map sV)=zG r:=λr=>by unfold zG;rw[Z5y]
 unfold Zv;rw[v_ λr _=>e r,ş,Ğ,List.map_flatMap];congr 1;have:(λd:Dz=>List.map (λr=>zG r) (Rw.dy d.1 d.2.1::d.2.2.map Rw.tn))=FA:=funext λd=>by rw[á,Ğ];rfl
 rw[this]
def Z4n{w h:Int}(hw:1<=w/\w<=20)(hh:1<=h/\h<=20){T:List Th}(hT:∀t∈T,Z0 t.1 t.2=true)(IG:T.length<=40){D:List Dz}(hD:∀d∈D,ZE d)(IH:D.length<=12)(hn:(D.map (·.1)).Nodup):gZ [.sh<|sV<|Dg w h T D]=.ret (.sh<|Z3 w h T<|D.map zV):=by
 obtain⟨y1,y2,y3⟩:=UM hw hh;have hW:∀ws∈yT w h::(Zv T D).map fg,(∀x∈ws,Wd x)/\ws≠[]/\ws.length<=101:=λws hws=>by
  rcases ö.mp hws with rfl|hws
  ·exact⟨y1,y2,y3⟩
  ·obtain⟨r,hr,rfl⟩:=Đ.mp hws;exact UL<|XA hT hD r hr
 have XC:(yT w h::(Zv T D).map fg).length<=1000:=by have:=XB IG hD IH;simp;lia
 have eT:Dg w h T D=ţ [10] ((yT w h::(Zv T D).map fg).map Z1):=by unfold Dg HF;rw[á,Ğ];rfl
 have sp:=QP (c:=10) (by lia) Xz (l:=Dg w h T D) (by rw[eT];have:=Z4m XC λws hws=>⟨(hW ws hws).1,(hW ws hws).2.2⟩;lia);rw[eT,Z2Q (by simp) λws hws=>(hW ws hws).1,<-eT]at sp;have rc:=Z2R XC hW;have er:((yT w h::(Zv T D).map fg).map λws=>PV.lst<|ws.map sV)=PV.lst [.str "yard",aR w,aR h]::(T.map (λt=>zG<|.th t)++D.flatMap FA):=by rw[á,Ğ,<-Z4V];rfl
 rw[er]at rc;have sz:=Z4d hw hh;have ct:=ZH (PV.lst [.str "yard",aR w,aR h])<|T.map (λt=>zG<|.th t)++D.flatMap FA;obtain⟨a1,b1,e1⟩:=Z4h T [] 1 (D.flatMap FA) (.sh<|sV<|Dg w h T D) (.ow (PV.lst [.str "yard",aR w,aR h]::(T.map (λt=>zG<|.th t)++D.flatMap FA))) (.sh<|.lst [.int w,.int h]) .no .no hT (by simpa using IG);obtain⟨a2,b2,e2⟩:=Z4j D ([]++T.map pM) [] (1+T.length) (.sh<|sV<|Dg w h T D) (.ow (PV.lst [.str "yard",aR w,aR h]::(T.map (λt=>zG<|.th t)++D.flatMap FA))) (.sh<|.lst [.int w,.int h]) a1 b1 (by simpa using hD) (by simpa using hn) (by simpa using IH);rw[ϟ]at e2;have lp:=e1.trans e2;rw[bq,bq]at lp;have lk:=Xu (D:=D);rw[Xt λd e=>by have:=(hD d<|A_ e).2.2.2.1;lia]at lk;have yd:=Z4k w h (T:=T) (D:=D) (by lia) (by lia) λd hd=>by have:=(hD d hd).2.2.2.2.1;lia
 have eq:Z3 w h T (D.map zV)=.ins "Yard" ["width","height","things","days"] [.int w,.int h,.lst<|T.map pM,.lst<|(D.map zV).map pf]:=rfl;rw[eq];generalize (D.map zV).map pf=DY,D.map dD=DD,T.map pM=TH,T.map (λt=>zG<|.th t)++D.flatMap FA=RR,((yT w h::(Zv T D).map fg).map Z1).map sV=LN,PV.lst [.str "yard",aR w,aR h]=YR,Dg w h T D=TX at*;unfold sV at sp lp⊢;generalize S TX=X at*;unfold yq at lp;have pl1:dA (.sh<|.str X)=true:=rfl;simp[gZ,oU,Ù,sp,rc,sz];have em:AB (PU<|Ý<|oB (Â 1) (mP<|Å 1) jC) [.sh<|.str X,.ow (YR::RR),.sh<|.lst [.int w,.int h],.no,.no,.no,.no]=.ok (bQ 1 RR) [.sh<|.str X,.ow (YR::RR),.sh<|.lst [.int w,.int h],.no,.no,.no,.no]:=by simp[PU,ct]
 have tl:(æ (ϴ (aU<|Ý<|à Ů<|Í 4 Ú) cX bi)<|ú<|Ķ<|eP "Yard" jI (Û (Ê ß (Â 2)<|Å 0)<|Û (Ê ß (Â 2)<|Å 1)<|Í 3<|Í 4 Ú)) (aZ 3 4 TH DD [.sh<|.str X,.ow (YR::RR),.sh<|.lst [.int w,.int h],.no,.no,a2,b2])=.ok (.rt<|.sh<|.ins "Yard" ["width","height","things","days"] [.int w,.int h,.lst TH,.lst DY]) (aZ 3 4 TH DD [.sh<|.str X,.ow (YR::RR),.sh<|.lst [.int w,.int h],.no,.no,a2,b2]):=by simp[aZ,p_,lk,yd]
 have pa:([.sh<|.str X,.ow (YR::RR),.sh<|.lst [.int w,.int h],.no,.no,.no,.no]:ċ).all dA=true:=rfl;unfold Qe;rw[if_pos ⟨pa,by simp,by simp⟩];simp only[nr,qT,em];rw[if_pos pa,lp];simp only[ĳ.aL,tl];rfl
theorem UO:∀ys:List (List Nat),kS (ys.map sV)=some ys
 |[]=>rfl|y::ys=>by rw[á];show(kS<|ys.map sV).map ((S y).cps.toList::·)=_;rw[UO ys];rfl
theorem UP:∀(ys:List (List Nat)) (B:Nat),(∀y∈ys,y.length<=B)->(ys.map cJ).sum<=ys.length*B
 |[],_,_=>by simp|y::ys,B,h=>by have h1:=h y (by simp);have ih:=UP ys B λq hq=>h q<|ð _ hq;rw[á,nq,Ę,qZ];lia
def UQ{c:Nat}{y:Str}(hy:y=S [c]){ys:List (List Nat)}{B:Nat}(h:∀x∈ys,x.length<=B)(hl:ys.length*(B+1)<=16000000):iC (.str y) [.lst<|ys.map sV]=some (sV<|ţ [c] ys):=by rw[hy];show((kS<|ys.map sV).bind λys=>if(ys.map cJ).sum+ys.length*(S [c]).length<=16777216then some (PV.str<|S<|ţ (S [c]).cps.toList ys)else none)=_;rw[UO];have h1:=UP ys B h;have h2:(S [c]).length=1:=rfl;show(if(ys.map cJ).sum+ys.length*(S [c]).length<=16777216then some (PV.str<|S<|ţ [c] ys)else none)=_;rw[h2,if_pos (by rw[Nat.mul_add]at hl;lia)];rfl
def Z3u{ws:List (List Nat)}(h:∀x∈ws,Wd x)(hl:ws.length<=101):iC (.str " ") [.lst<|ws.map sV]=some (sV<|Z1 ws):=
 UQ UN (B:=11) (λx hx=>(h x hx).1) (by have:ws.length*(11+1)<=101*12:=bt hl (by lia);lia)
def Z4W{n:Int}(h:Nb n):n.natAbs.log2<1920:=by
 have:n.natAbs<2^1920:=by
  have h1:n.natAbs<2^34:=by unfold Nb at h;lia
  exact Š h1 (qY (by lia)<|by lia)
 by_cases h0:n.natAbs=0
 ·rw[h0];decide
 ·exact(Nat.log2_lt h0).mpr this
def Zi{n:Int}(h:Nb n):fY [.int n]=some (aR n):=by show(if n.natAbs.log2<1920then some (PV.str<|Æ<|fG n)else none)=_;rw[if_pos<|Z4W h,Z4Q];rfl
def FU(d:Dz):List (List Nat):=Z1 (fg<|.dy d.1 d.2.1)::d.2.2.map λo=>Z1<|fg<|.tn o
def Z4o{d:Dz}(h:ZE d):(FU d).length<=25:=by have:=h.2.2.2.2.1;simp[FU];lia
def Z4X(w h:Int)(T:List Th)(D:List Dz):HF w h T D=Z1 (yT w h)::(T.map (λt=>Z1<|fg<|.th t)++D.flatMap FU):=by
 unfold HF Zv;rw[ş,Ğ,List.map_flatMap];have:(λd:Dz=>List.map (λr=>Z1<|fg r) (Rw.dy d.1 d.2.1::d.2.2.map Rw.tn))=FU:=funext λd=>by rw[á,Ğ];rfl
 rw[this];rfl
def Z4p{w h:Int}{T:List Th}{D:List Dz}(IG:T.length<=40)(hD:∀d∈D,ZE d)(IH:D.length<=12):(HF w h T D).length<=401:=by have:=XB IG hD IH;simp[HF];lia
def Z4Y{w h:Int}(hw:1<=w/\w<=20)(hh:1<=h/\h<=20){T:List Th}(hT:∀t∈T,Z0 t.1 t.2=true){D:List Dz}(hD:∀d∈D,ZE d):∀x∈HF w h T D,x.length<=1212:=λx hx=>by
 rcases ö.mp hx with rfl|hx
 ·obtain⟨y1,y2,y3⟩:=UM hw hh;exact ZW y1 y3
 ·obtain⟨r,hr,rfl⟩:=Đ.mp hx;obtain⟨y1,y2,y3⟩:=UL<|XA hT hD r hr;exact ZW y1 y3
def Z3v{w h:Int}(hw:1<=w/\w<=20)(hh:1<=h/\h<=20){T:List Th}(hT:∀t∈T,Z0 t.1 t.2=true)(IG:T.length<=40){D:List Dz}(hD:∀d∈D,ZE d)(IH:D.length<=12):iC (.str "\n") [.lst<|(HF w h T D).map sV]=some (sV<|Dg w h T D):=
 UQ Xz (B:=1212) (Z4Y hw hh hT hD) (by have:=Z4p (w:=w) (h:=h) IG hD IH;have:(HF w h T D).length*(1212+1)<=401*1213:=bt this (by lia);lia)
def pW:Rw->List (PV×List Nat)
 |.th t=>(.str t.1,t.1.cps.toList)::t.2.map λn=>(.int n,nT n)
 |.dy l t=>[(.str "day",wC "day"),(sV l,l),(.int t,nT t)]|.tn none=>[(.str "night",wC "night")]|.tn (some r)=>[(.str "ray",wC "ray"),(.int r.1,nT r.1),(.int r.2.1,nT r.2.1),(.int r.2.2,nT r.2.2)]
theorem Z5O:∀r:Rw,(pW r).map (·.2)=fg r
 |.th t=>by unfold pW fg;rw[á,Ğ];rfl|.dy _ _=>rfl|.tn none=>rfl|.tn (some _)=>rfl
def ZX(s:String):fY [.str s]=some (sV<|wC s):=congrArg (λz=>some<|PV.str z) (LI _).symm
theorem Z5z:∀{r:Rw},QN r->∀x∈pW r,fY [x.1]=some (sV x.2)
 |.th t,h=>fun x hx=>by
   have h':Z0 t.1 t.2=true:=h;rcases ö.mp hx with rfl|hx
   ·exact congrArg (λz=>some<|PV.str z) (LI _).symm
   ·obtain⟨n,hn,rfl⟩:=Đ.mp hx;exact Zi<|(ZV h').1 n hn
 |.dy l t,⟨h1,h2,h3⟩=>fun x hx=>by
   have:x=(.str "day",wC "day")\/x=(sV l,l)\/x=(.int t,nT t):=by simpa[pW]using hx
   rcases this with rfl|rfl|rfl
   ·exact ZX _
   ·rfl
   ·exact Zi ⟨by lia,by lia⟩
 |.tn none,_=>fun x hx=>by
   have:x=(.str "night",wC "night"):=by simpa[pW]using hx
   subst this;exact ZX _
 |.tn (some r),⟨h1,h2,h3,h4,h5,h6⟩=>fun x hx=>by
   have:x=(.str "ray",wC "ray")\/x=(.int r.1,nT r.1)\/x=(.int r.2.1,nT r.2.1)\/x=(.int r.2.2,nT r.2.2):=by simpa[pW]using hx
   rcases this with rfl|rfl|rfl|rfl
   ·exact ZX _
   ·exact Zi ⟨by lia,by lia⟩
   ·exact Zi ⟨by lia,by lia⟩
   ·exact Zi ⟨by lia,by lia⟩
def UR{ws:List (PV×List Nat)}(h:∀x∈ws,fY [x.1]=some (sV x.2))(h1:∀x∈ws,Wd x.2)(hl:ws.length<=101):ě [.sh<|.lst<|ws.map (·.1)]=.ret (.sh<|sV<|Z1<|ws.map (·.2)):=by
 have c:=ē (g:=gN 0) (mt:=Ĕ) (me:=Ϲ fY<|É (Â 0) ã) (λx:PV×List Nat=>x.1) (λx=>sV x.2) (λU=>∃s,U=[s]) ws [.no] [] ⟨_,rfl⟩ (by simp;lia) (by
  rintro x hx U ⟨s,rfl⟩;have e:=h x hx;refine⟨[.sh x.1],_,[.sh x.1],by simp,rfl,?_,_,rfl⟩;simp[e])
 rw[bq]at c;have j:=Z3u (ws:=ws.map (·.2)) (λy hy=>by obtain⟨x,hx,rfl⟩:=Đ.mp hy;exact h1 x hx) (by simpa using hl);rw[Ğ]at j;have ec:(sV ∘ λx:PV×List Nat=>x.2)=λx=>sV x.2:=rfl;rw[ec]at j;simp[ě,kI,Ù,c,j]
def US{r:Rw}(h:QN r):ě [.sh<|.lst<|(pW r).map (·.1)]=.ret (.sh<|sV<|Z1<|fg r):=by obtain⟨h1,h2,h3⟩:=UL h;rw[<-Z5O]at h1 h3⊢;exact UR (Z5z h) (λx hx=>h1 _<|Đ.mpr ⟨x,hx,rfl⟩) (by simpa using h3)
def gk(t:Th):PV:=.lst (.str t.1::t.2.map .int)
def Z2S{t:Th}(h:Z0 t.1 t.2=true):ě [.sh<|gk t]=.ret (.sh<|sV<|Z1<|fg<|.th t):=by
 have:=US (r:=.th t) h;have e:(pW<|.th t).map (·.1)=.str t.1::t.2.map .int:=by unfold pW;rw[á,Ğ];rfl
 rw[e]at this;exact this
def Z1F{T:List Th}(hT:∀t∈T,Z0 t.1 t.2=true)(hl:T.length<=1000):Ģ (gN 0) Ĕ (Ý<|à ě<|Í 0 Ú) (T.map gk) [.no] []=some (T.map λt=>sV<|Z1<|fg<|.th t):=by
 have:=ē (g:=gN 0) (mt:=Ĕ) (me:=Ý<|à ě<|Í 0 Ú) gk (λt=>sV<|Z1<|fg<|.th t) (λU=>∃s,U=[s]) T [.no] [] ⟨_,rfl⟩ (by simp;lia) (by
  rintro t ht U ⟨s,rfl⟩;have e:=Z2S<|hT t ht;refine⟨[.sh<|gk t],_,[.sh<|gk t],by simp,rfl,?_,_,rfl⟩;simp[e])
 simpa using this
def Z4q{o:Option P3}(ho:Zy o){R:List PV}(hR:R.length<1000)(s0 s1 s2 s3 s5 s6 s7:Ű):Ť [s0,s1,s2,s3,.ow R,s5,s6,s7,.sh<|ak o]=.ok .nx [s0,s1,s2,s3,.ow<|R++[sV<|Z1<|fg<|.tn o],s5,s6,s7,.sh<|ak o]:=by
 have k1:R.length<16777216:=by lia
 cases o with
 |none=>have e:sV (Z1<|fg<|.tn none)=.str "night":=congrArg PV.str<|LI _;rw[e];simp[Ť,ak,ur,k1]|some r=>
  have j:=US (r:=.tn<|some r) ho;have e:(pW<|.tn<|some r).map (·.1)=[.str "ray",.int r.1,.int r.2.1,.int r.2.2]:=rfl;rw[e]at j;have ad:ü (.lst [.str "ray"]) (.lst [.int r.1,.int r.2.1,.int r.2.2])=some (.ow [.str "ray",.int r.1,.int r.2.1,.int r.2.2]):=by rw[vH<|by simp];rfl
  simp[Ť,ak,c3,ur,k1,j,ad]
theorem XD(s0 s1 s2 s3 s5 s6 s7:Ű):∀(os:List (Option P3)) (R:List PV) (s8:Ű),(∀o∈os,Zy o)->R.length+os.length<=1000->∃UT,ĺ (gN 8) Ť (os.map ak) [s0,s1,s2,s3,.ow R,s5,s6,s7,s8]=.ok .nx [s0,s1,s2,s3,.ow<|R++os.map λo=>sV<|Z1<|fg<|.tn o,s5,s6,s7,UT]
 |[],R,s8,_,_=>⟨s8,by simp[ĺ]⟩|o::os,R,s8,h,hl=>by rw[Ę]at hl;have st:=Z4q (h o<|by simp) (R:=R) (by lia) s0 s1 s2 s3 s5 s6 s7;obtain⟨UT,e⟩:=XD s0 s1 s2 s3 s5 s6 s7 os (R++[sV<|Z1<|fg<|.tn o]) (.sh<|ak o) (λx hx=>h x<|ð _ hx) (by simp;lia);refine⟨UT,?_⟩;rw[á,ĺ];show(Ť [s0,s1,s2,s3,.ow R,s5,s6,s7,.sh<|ak o]).bind _=_;rw[st];refine Eq.trans e ?_;simp
theorem XE(s0 s1 s2 s3:Ű):∀(D:List Dz) (R:List (List Nat)) (a b c d:Ű),(∀d∈D,ZE d)->R.length+25*D.length<=1000->∃a' b' c' d',ĺ (gT 3<|ï (gN 5)<|ï (gN 6)<|ï (gN 7) ϒ) aP ((D.map zV).map pf) [s0,s1,s2,s3,.ow<|R.map sV,a,b,c,d]=.ok .nx [s0,s1,s2,s3,.ow<|(R++D.flatMap FU).map sV,a',b',c',d']
 |[],R,a,b,c,d,_,_=>⟨a,b,c,d,by simp[ĺ]⟩|d::D,R,a,b,c,f,hD,hl=>by
  have hd:=hD d (by simp);obtain⟨g1,g2,g3,g4,g5,g6⟩:=id hd;rw[Ę]at hl;have hz:=Z4o hd;obtain⟨f1,ef⟩:=XD s0 s1 s2 s3 (.sh<|sV d.1) (.sh<|.int d.2.1) (.sh<|.lst<|d.2.2.map ak) d.2.2 (R.map sV++[sV<|Z1<|fg<|.dy d.1 d.2.1]) f g6 (by simp;lia);obtain⟨a',b',c',d',e⟩:=XE s0 s1 s2 s3 D (R++FU d) (.sh<|sV d.1) (.sh<|.int d.2.1) (.sh<|.lst<|d.2.2.map ak) f1 (λx hx=>hD x<|ð _ hx) (by rw[Ϟ];lia);refine⟨a',b',c',d',?_⟩;have e2:pf (zV d)=.tup [sV d.1,.int d.2.1,.lst<|d.2.2.map ak]:=rfl;have hg:gT 3 (ï (gN 5)<|ï (gN 6)<|ï (gN 7) ϒ) (pf<|zV d) [s0,s1,s2,s3,.ow<|R.map sV,a,b,c,f]=some [s0,s1,s2,s3,.ow<|R.map sV,.sh<|sV d.1,.sh<|.int d.2.1,.sh<|.lst<|d.2.2.map ak,f]:=by rw[e2];rfl
  have st:aP [s0,s1,s2,s3,.ow<|R.map sV,.sh<|sV d.1,.sh<|.int d.2.1,.sh<|.lst<|d.2.2.map ak,f]=.ok .nx [s0,s1,s2,s3,.ow<|(R++FU d).map sV,.sh<|sV d.1,.sh<|.int d.2.1,.sh<|.lst<|d.2.2.map ak,f1]:=by
   have j:=US (r:=.dy d.1 d.2.1) ⟨g1,g2,g3⟩;have ep:(pW<|.dy d.1 d.2.1).map (·.1)=[.str "day",sV d.1,.int d.2.1]:=rfl;rw[ep]at j;have er:(R++FU d).map sV=R.map sV++[sV<|Z1<|fg<|.dy d.1 d.2.1]++d.2.2.map (λo=>sV<|Z1<|fg<|.tn o):=by unfold FU;rw[ş,á,Ğ];simp[vJ]
   have k1:(R.map sV).length<16777216:=by simp;lia
   rw[er];generalize R.map sV=RR,d.2.2.map ak=TT,(d.2.2.map λo=>sV<|Z1<|fg<|.tn o)=OO,sV (Z1<|fg<|.dy d.1 d.2.1)=DD,sV d.1=N at*;rw[<-ef];simp[aP,j,k1]
  rw[á,á,ĺ,hg];dsimp only;rw[st];refine Eq.trans e ?_;rw[nv,qI]
def Z4r{w h:Int}(hw:1<=w/\w<=20)(hh:1<=h/\h<=20){T:List Th}(hT:∀t∈T,Z0 t.1 t.2=true)(IG:T.length<=40){D:List Dz}(hD:∀d∈D,ZE d)(IH:D.length<=12):bI [.sh<|.int w,.sh<|.int h,.bw<|T.map gk,.sh<|.lst<|(D.map zV).map pf]=.ret (.sh<|sV<|Dg w h T D):=by
 obtain⟨y1,y2,y3⟩:=UM hw hh;have j0:=UR (ws:=[(.str "yard",wC "yard"),(.int w,nT w),(.int h,nT h)]) (λx hx=>by
  have:x=(.str "yard",wC "yard")\/x=(.int w,nT w)\/x=(.int h,nT h):=by simpa using hx
  rcases this with rfl|rfl|rfl
  ·exact ZX _
  ·exact Zi ⟨by lia,by lia⟩
  ·exact Zi ⟨by lia,by lia⟩) (λx hx=>y1 _ (by
  have:x=(.str "yard",wC "yard")\/x=(.int w,nT w)\/x=(.int h,nT h):=by simpa using hx
  rcases this with rfl|rfl|rfl<;>simp[yT])) (by simp)
 change ě [.sh<|.lst [.str "yard",.int w,.int h]]=.ret (.sh<|sV<|Z1<|yT w h)at j0;have c1:=Z1F hT (by lia);obtain⟨a',b',c',d',lp⟩:=XE (.sh<|.int w) (.sh<|.int h) (.bw<|T.map gk) (.sh<|.lst<|(D.map zV).map pf) D (Z1 (yT w h)::T.map (λt=>Z1<|fg<|.th t)) .no .no .no .no hD (by simp;lia);have jn:=Z3v hw hh hT IG hD IH;rw[Z4X]at jn;rw[dQ]at lp;have er:(Z1 (yT w h)::T.map (λt=>Z1<|fg<|.th t)).map sV=sV (Z1<|yT w h)::T.map λt=>sV (Z1<|fg<|.th t):=by rw[á,Ğ];rfl
 rw[er]at lp;have ad:ü (.lst [sV<|Z1<|yT w h]) (.lst<|T.map λt=>sV<|Z1<|fg<|.th t)=some (.ow (sV (Z1<|yT w h)::T.map λt=>sV<|Z1<|fg<|.th t)):=by rw[vH (by simp;lia)];rfl
 generalize T.map gk=TH,(D.map zV).map pf=DY,(T.map λt=>sV<|Z1<|fg<|.th t)=TS,sV (Z1<|yT w h)=Z,(Z1 (yT w h)::(T.map (λt=>Z1<|fg<|.th t)++D.flatMap FU)).map sV=LL,sV (Dg w h T D)=TX at*;simp[bI,g_,Ù,j0,c1,ad,lp,jn]
@[simp]theorem Z5U{x:Int}{n:Nat}(h:n≠0)(h2:n<1073741824):BZ x (no_index (Ÿ n):Int)=true:=by unfold BZ;have:(no_index (Ÿ n):Int)=(n:Int):=rfl;rw[this];simp;lia
def XF:yO (.int 10) (.int 9)=some (.int 1000000000):=rfl
def G9(x:Int):Prop:=0<=x/\x<1000000000
theorem XG(s0 s1 s5 s7 s8:Ű):∀(ks:List Nat) (acc:List Int) (n:Int) (s4 s6:Ű),acc.length+ks.length<=100->(∀x∈acc,G9 x)->∃(mY:List Int) (n':Int) (a b:Ű),ĺ (gN 4) be (ks.map λ(i:Nat)=>PV.int (i:Int)) [s0,s1,.ow<|acc.map .int,.sh<|.int n,s4,s5,s6,s7,s8]=.ok .nx [s0,s1,.ow<|mY.map .int,.sh<|.int n',a,s5,b,s7,s8]/\mY.length=acc.length+ks.length/\∀x∈mY,G9 x
 |[],acc,n,s4,s6,_,h=>⟨acc,n,s4,s6,rfl,rfl,h⟩|k::ks,acc,n,s4,s6,hl,h=>by
  rw[Ę]at hl;obtain⟨mY,n',a,b,e,e2,e3⟩:=XG s0 s1 s5 s7 s8 ks (acc++[n%1000000000]) (n/1000000000) (.sh<|.int k) (.sh<|.int<|n%1000000000) (by simp;lia) (by
   intro x hx;rcases aH.mp hx with hx|hx
   ·exact h x hx
   ·rw[kZ.mp hx];unfold G9;lia)
  refine⟨mY,n',a,b,?_,by rw[e2];simp;lia,e3⟩;have k1:acc.length<16777216:=by lia
  have hd:gU [.int n,.int 1000000000]=some (.tup [.int<|n/1000000000,.int<|n%1000000000]):=by simp[gU]
  have st:be [s0,s1,.ow<|acc.map .int,.sh<|.int n,.sh<|.int k,s5,s6,s7,s8]=.ok .nx [s0,s1,.ow<|(acc++[n%1000000000]).map .int,.sh<|.int<|n/1000000000,.sh<|.int k,s5,.sh<|.int<|n%1000000000,s7,s8]:=by simp[be,XF,hd,k1,-B0]
  rw[á,ĺ];show(be [s0,s1,.ow<|acc.map .int,.sh<|.int n,.sh<|.int k,s5,s6,s7,s8]).bind _=_;rw[st];exact e
def Rs(x:Int):Prop:=0<=x/\x<998244353
def Z5P:Ϛ [.int 2]=some [.int 0,.int 1]:=by rfl
def XH(s0 s1 s4 s6 s7 s8 k:Ű){acc:List Int}(hl:acc.length<=100){r:Int}(hr:Rs r):∃(r':Int) (a b:Ű),Ŵ [s0,s1,.ow<|acc.map .int,.sh<|.int r,s4,k,s6,s7,s8]=.ok .nx [s0,s1,.ow<|acc.map .int,.sh<|.int r',s4,k,s6,a,b]/\Rs r':=by
 have hd:gU [.int r,.int 4099]=some (.tup [.int<|r/4099,.int<|r%4099]):=by simp[gU]
 obtain⟨h,hh⟩:∃h,r/4099=h:=⟨_,rfl⟩;obtain⟨l,Le⟩:∃l,r%4099=l:=⟨_,rfl⟩;unfold Rs at hr;have b1:0<=h/\h<18446744073709551616:=by lia
 have b2:0<=l/\l<18446744073709551616:=by lia
 rw[hh,Le]at hd;obtain⟨S,hS⟩:∃S,l*240007+h*89+1201*(acc.length:Int)+11=S:=⟨_,rfl⟩;refine⟨S%998244353,.sh<|.int h,.sh<|.int l,?_,by unfold Rs;lia⟩;have m1:Ě l 240007=true:=œ (by lia) (by lia);have m2:Ě h 89=true:=œ (by lia) (by lia);have m3:Ě 1201 (acc.length:Int)=true:=œ (by lia) (by lia);simp[Ŵ,hd,hS]
theorem UU(s0 s4 s6:Ű){n:Nat}(hn:n<=100):∀(f:Nat) (acc:List Int) (r:Int) (s5 s7 s8:Ű),acc.length+f=n->(∀x∈acc,G9 x)->Rs r->∃(mY:List Int) (r':Int) (a b c:Ű),bc [s0,.sh<|.int n,.ow<|acc.map .int,.sh<|.int r,s4,s5,s6,s7,s8]=.ok .nx [s0,.sh<|.int n,.ow<|mY.map .int,.sh<|.int r',s4,a,s6,b,c]/\mY.length=n/\∀x∈mY,G9 x
 |0,acc,r,s5,s7,s8,hl,h,hr=>by
  refine⟨acc,r,s5,s7,s8,?_,by lia,h⟩;unfold bc;have hm:¬((acc.length:Int)<(n:Int)):=by lia
  rw[cF];simp[hm]
 |f+1,acc,r,s5,s7,s8,hl,h,hr=>by
  obtain⟨r1,a1,b1,e1,hr1⟩:=XH s0 (.sh<|.int n) s4 s6 s7 s8 (.sh<|.int 0) (acc:=acc) (by lia) hr;obtain⟨r2,a2,b2,e2,LO⟩:=XH s0 (.sh<|.int n) s4 s6 a1 b1 (.sh<|.int 1) (acc:=acc) (by lia) hr1;obtain⟨mY,r',a,b,c,e,q1,q2⟩:=UU s0 s4 s6 hn f (acc++[r2/5]) r2 (.sh<|.int 1) a2 b2 (by simp;lia) (by
   intro x hx;rcases aH.mp hx with hx|hx
   ·exact h x hx
   ·rw[kZ.mp hx];unfold G9;unfold Rs at LO;lia) LO
  refine⟨mY,r',a,b,c,?_,q1,q2⟩;have hm:((acc.length:Int)<(n:Int)):=by lia
  have k1:acc.length<16777216:=by lia
  have fr:ĺ (gN 5) Ŵ [.int 0,.int 1] [s0,.sh<|.int n,.ow<|acc.map .int,.sh<|.int r,s4,s5,s6,s7,s8]=.ok .nx [s0,.sh<|.int n,.ow<|acc.map .int,.sh<|.int r2,s4,.sh<|.int 1,s6,a2,b2]:=by rw[ĺ];show(Ŵ [s0,.sh<|.int n,.ow<|acc.map .int,.sh<|.int r,s4,.sh<|.int 0,s6,s7,s8]).bind _=_;rw[e1];show ĺ (gN 5) Ŵ [.int 1] _=_;rw[ĺ];show(Ŵ [s0,.sh<|.int n,.ow<|acc.map .int,.sh<|.int r1,s4,.sh<|.int 1,s6,a1,b1]).bind _=_;rw[e2];rfl
  rw[<-e];unfold bc;rw[cF];simp[hm,Z5P,fr,k1]
def XI(c:Int){n:Nat}(hn:n<=100):∃xs:List Int,ů [.sh<|.int c,.sh<|.int n]=.ret (.ow<|xs.map .int)/\xs.length=n/\∀x∈xs,G9 x:=by
 by_cases hc:c%2=0
 ·obtain⟨acc,r,a,b,e,q1,q2⟩:=XG (.sh<|.int c) (.sh<|.int n) .no .no .no (å n) [] (c/2) .no .no (by simp;lia) (by simp);have rg:=Zt (n:=n) (by lia);rw[ϟ]at e;have m1:Ě (n:Int) 1=true:=œ (by lia) (by lia);have q1':acc.length=n:=by simpa using q1
  refine⟨acc,?_,q1',q2⟩;obtain⟨mY,r',a2,b2,c2,e2,q3,q4⟩:=UU (.sh<|.int c) a b hn 0 acc (r%998244341+5) .no .no .no (by lia) q2 (by unfold Rs;lia);have:mY=acc:=by
   unfold bc at e2;rw[cF]at e2;have hm:¬((acc.length:Int)<(n:Int)):=by lia
   simp[hm]at e2;have:=e2.1;exact((List.map_inj_right<|λ_ _ h=>by injection h).mp this).symm
  subst this;simp[ů,gb,Ù,hc,rg,e,e2]
 ·have hc1:c%2=1:=by lia
  obtain⟨mY,r',a2,b2,c2,e2,q3,q4⟩:=UU (.sh<|.int c) .no .no hn n [] ((c/2)%998244341+5) .no .no .no (by simp) (by simp) (by unfold Rs;lia);rw[ϟ]at e2;have m1:Ě (n:Int) 0=true:=œ (by lia) (by lia);have rg:Ϛ [.int 0]=some []:=by rfl
  refine⟨mY,?_,q3,q4⟩;simp[ů,gb,Ù,hc1,rg,ĺ,e2]
def Z5A(xs:List Int)(h:xs.length=11):∃a b c d e f g h i j k,xs=[a,b,c,d,e,f,g,h,i,j,k]:=by obtain⟨a,x,rfl,h1⟩:=ln h;obtain⟨b,y,rfl,h2⟩:=ln h1;obtain⟨c,d,e,f,g,k,i,j,l,rfl⟩:=Ur h2;exact⟨a,b,c,d,e,f,g,k,i,j,l,rfl⟩
def zH{a b:String}(h:decide (Æ a=Æ b)=false):¬(Æ a=Æ b):=of_decide_eq_false h
def sm(x:Int):Prop:=-100<=x/\x<=100
def Pl(x:Int):Prop:=-1000000000<=x/\x<=1000000000
def Z5B{x y h:Int}(a:Pl x)(b:Pl y)(c:1<=h/\h<=1000000000):Z0 "post" [x,y,h]=true:=by unfold Pl at a b;unfold Z0 Zg dI zC;simp;lia
def Z4Z{x y u v h:Int}(a:sm x)(b:sm y)(a':sm u)(b':sm v)(hn:¬(x=u/\y=v))(c:1<=h/\h<=1000000000):Z0 "fence" [x,y,u,v,h]=true:=by have h1:¬(Æ "fence"=Æ "post"):=zH (by decide+kernel);unfold sm at a b a' b';unfold Z0;rw[if_neg h1,if_pos rfl];unfold Z7 Zd dI zC;simp;omega
def Z5Q{w:Str}(hw:w="sail" \/w="house"){x y u v h:Int}(a:sm x)(b:sm y)(a':sm u)(b':sm v)(h1:x<u)(h2:y<v)(c:1<=h/\h<=1000000000):Z0 w [x,y,u,v,h]=true:=by
 have hb:Za [x,y,u,v,h]=true:=by unfold sm at a b a' b';unfold Za Zd dI zC;simp;omega
 unfold Z0;rcases hw with rfl|rfl
 ·rw[if_neg (zH<|by decide+kernel),if_neg (zH<|by decide+kernel),if_pos rfl];exact hb
 ·rw[if_neg (zH<|by decide+kernel),if_neg (zH<|by decide+kernel),if_neg (zH<|by decide+kernel),if_neg (zH<|by decide+kernel),if_pos rfl];exact hb
def Z50{x y z a b c d e f:Int}(h1:Pl x)(h2:Pl y)(h3:0<=z/\z<=1000000000)(h4:Pl a)(h5:Pl b)(h6:0<=c/\c<=1000000000)(h7:Pl d)(h8:Pl e)(h9:0<=f/\f<=1000000000):Z0 "cloth" [x,y,z,a,b,c,d,e,f]=true:=by unfold Z0;rw[if_neg (zH<|by decide+kernel),if_neg (zH<|by decide+kernel),if_neg (zH<|by decide+kernel),if_pos rfl];unfold Pl at*;unfold Z8 dI zD;simp;omega
def QR(t:Th):Prop:=(∃x y h,t=(Æ "post",[x,y,h])/\sm x/\sm y/\(1<=h/\h<=1000000000))\/(∃x y z a b c d e f,t=(Æ "cloth",[x,y,z,a,b,c,d,e,f])/\sm x/\sm y/\(0<=z/\z<=100)/\sm a/\sm b/\(0<=c/\c<=100)/\sm d/\sm e/\(0<=f/\f<=100))\/(¬t.1=Æ "post"/\ ¬t.1=Æ "cloth"/\Z0 t.1 t.2=true)
def fm(a:Int){b:Int}(h:0<b):∃X,a.fmod b=X/\0<=X/\X<b:=⟨_,rfl,by rw[vL _<|by lia];exact⟨Int.emod_nonneg a (by lia),Int.emod_lt_of_pos a h⟩⟩
def Z51(c:Int){w h:Int}(hw:1<=w/\w<=20)(hh:1<=h/\h<=20):∃x0 x1 x2 x3 x4 x5 x6 x7 x8 x9 Lf X Y H:Int,ϋ [.sh<|.int c,.sh<|.int w,.sh<|.int h]=FR.of (T4 [.sh<|.int c,.sh<|.int w,.sh<|.int h,.ow [.int x0,.int x1,.int x2,.int x3,.int x4,.int x5,.int x6,.int x7,.int x8,.int x9,.int Lf],.sh<|.int<|X-4,.sh<|.int<|Y-4,.sh<|.int<|X-4+1+x3%5,.sh<|.int<|Y-4+1+x4%5,.sh<|.int H,.no,.no])/\(0<=X/\X<2*w+7)/\(0<=Y/\Y<2*h+7)/\1<=H/\H<=1000000000:=by
 obtain⟨xs,eg,hl,-⟩:=XI c (n:=11) (by lia);obtain⟨x0,x1,x2,x3,x4,x5,x6,x7,x8,x9,Lf,rfl⟩:=Z5A xs hl;change ů [.sh<|.int c,.sh<|.int 11]=.ret (.ow [.int x0,.int x1,.int x2,.int x3,.int x4,.int x5,.int x6,.int x7,.int x8,.int x9,.int Lf])at eg;have mw:Ě 2 w=true:=œ (by lia) (by lia);have mh:Ě 2 h=true:=œ (by lia) (by lia);have n1:¬(2*w+7=0):=by lia
 have n2:¬(2*h+7=0):=by lia
 obtain⟨X,f1,bX⟩:=fm x1 (show 0<2*w+7 by lia);obtain⟨Y,f2,bY⟩:=fm x2 (show 0<2*h+7 by lia);have st:ϋ [.sh<|.int c,.sh<|.int w,.sh<|.int h]=FR.of ((æ _<|æ _<|æ _<|æ _<|æ _<|æ _<|æ _ T4) [.sh<|.int c,.sh<|.int w,.sh<|.int h,.no,.no,.no,.no,.no,.no,.no,.no]):=rfl;refine⟨x0,x1,x2,x3,x4,x5,x6,x7,x8,x9,Lf,X,Y,if x6%8=5then 1000000000-x5%1000 else 1+x5%8,?_,bX,bY,by split<;>lia⟩;rw[st];by_cases hb:x6%8=5<;>simp -implicitDefEqProofs [eg,n1,n2,f1,f2,hb,XF,-B0]
abbrev XJ(i:Int)(A B:M Fl):M Fl:=æ (ϴ (ϯ<|Ê ŉ (Ê Ļ (Ê ß (Â 3)<|Å 0)<|Å 5)<|mC<|.int i) A bi) B
def FV{U:ċ}{x i:Int}{xs:List PV}{A B:M Fl}{r:FR}(hk:¬x%5=i)(hB:FR.of (B U)=r)(h:U[3]?=some (.ow (.int x::xs)):=by rfl):FR.of (XJ i A B U)=r:=by rw[<-hB];simp[h,hk]
def QS{U:ċ}{x i:Int}{xs:List PV}{A B:M Fl}{r:FR}(hk:x%5=i)(hB:FR.of (æ A B U)=r)(h:U[3]?=some (.ow (.int x::xs)):=by rfl):FR.of (XJ i A B U)=r:=by rw[<-hB];simp[h,hk]
def Z5C(c:Int){w h:Int}(hw:1<=w/\w<=20)(hh:1<=h/\h<=20):∃t:Th,ϋ [.sh<|.int c,.sh<|.int w,.sh<|.int h]=.ret (.ow (.str t.1::t.2.map .int))/\QR t:=by
 obtain⟨x0,x1,x2,x3,x4,x5,x6,x7,x8,x9,Lf,X,Y,H,pre,bX,bY,bH⟩:=Z51 c hw hh;rw[pre];clear pre;have s1:sm (X-4):=⟨by lia,by lia⟩;have s2:sm (Y-4):=⟨by lia,by lia⟩;have s3:sm (X-4+1+x3%5):=⟨by lia,by lia⟩;have s4:sm (Y-4+1+x4%5):=⟨by lia,by lia⟩;by_cases k0:x0%5=0
 ·obtain⟨PX,f3,p3⟩:=fm x1 (show 0<w+2 by lia);obtain⟨PY,f4,p4⟩:=fm x2 (show 0<h+2 by lia);have n3:¬(w+2=0):=by lia
  have n4:¬(h+2=0):=by lia
  exact⟨(Æ "post",[PX-1,PY-1,H]),QS k0 (by simp[n3,n4,f3,f4]),.inl ⟨PX-1,PY-1,H,rfl,⟨by lia,by lia⟩,⟨by lia,by lia⟩,bH⟩⟩
 by_cases k1:x0%5=1
 ·obtain⟨q,hq⟩:∃q,x7%4=q:=⟨_,rfl⟩;have fe:∀u v:Int,sm u->sm v->¬(X-4=u/\Y-4=v)->QR (Æ "fence",[X-4,Y-4,u,v,H]):=λu v a b n=>.inr (.inr ⟨zH (by decide+kernel),zH (by decide+kernel),Z4Z s1 s2 a b n bH⟩);obtain⟨u,v,hi,hf⟩:∃u v:Int,ß (.lst [.tup [.int<|X-4+1+x3%5,.int<|Y-4],.tup [.int<|X-4+1+x3%5,.int<|Y-4+1+x4%5],.tup [.int<|X-4,.int<|Y-4+1+x4%5],.tup [.int<|X-4-2,.int<|Y-4+1+x4%5]]) (.int q)=some (.tup [.int u,.int v])/\QR (Æ "fence",[X-4,Y-4,u,v,H]):=by
   have hq4:q=0\/q=1\/q=2\/q=3:=by lia
   rcases hq4 with rfl|rfl|rfl|rfl
   ·exact⟨_,_,rfl,fe _ _ s3 s2<|by lia⟩
   ·exact⟨_,_,rfl,fe _ _ s3 s4<|by lia⟩
   ·exact⟨_,_,rfl,fe _ _ s1 s4<|by lia⟩
   ·exact⟨_,_,rfl,fe (X-4-2) _ ⟨by lia,by lia⟩ s4<|by lia⟩
  exact⟨(_,[_,_,_,_,_]),FV k0 (QS k1<|by simp[hq,hi]),hf⟩
 have bx:∀s:Str,(s="sail" \/s="house")->Z0 s [X-4,Y-4,X-4+1+x3%5,Y-4+1+x4%5,H]=true:=λs hs=>Z5Q hs s1 s2 s3 s4 (by lia) (by lia) bH;by_cases k2:x0%5=2
 ·exact⟨(Æ "sail",[_,_,_,_,_]),FV k0 (FV k1<|QS k2<|by simp),.inr<|.inr ⟨zH (by decide+kernel),zH (by decide+kernel),bx (Æ "sail")<|.inl rfl⟩⟩
 by_cases k3:x0%5=3
 ·exact⟨(Æ "house",[_,_,_,_,_]),FV k0 (FV k1<|FV k2<|QS k3<|by simp),.inr<|.inr ⟨zH (by decide+kernel),zH (by decide+kernel),bx (Æ "house")<|.inr rfl⟩⟩
 have k4:x0%5=4:=by lia
 have ms:Ě (Lf%7) (x6%2)=true:=œ (by lia) (by lia);obtain⟨C,hC,LQ⟩:∃C:Int,Lf%7*(x6%2)=C/\(0<=C/\C<=100):=by
  refine⟨_,rfl,?_⟩;have:x6%2=0\/x6%2=1:=by lia
  rcases this with h|h<;>rw[h]<;>lia
 exact⟨(Æ "cloth",[X-4,Y-4,x5%7,X-4+1+x3%5,Y-4-2+x7%5,x8%7,X-4-3+x9%7,Y-4+1+x4%5,C]),FV k0 (FV k1<|FV k2<|FV k3<|by simp[ms,hC]),.inr<|.inl ⟨_,_,_,_,_,_,_,_,_,rfl,s1,s2,⟨by lia,by lia⟩,s3,⟨by lia,by lia⟩,⟨by lia,by lia⟩,⟨by lia,by lia⟩,s4,LQ⟩⟩
def slI(xs:List Int)(lo hi:Option Int):∃ys:List Int,cw (xs.map PV.int) lo hi=ys.map PV.int/\ys.length<=xs.length:=by refine⟨(xs.drop<|HT.lC xs.length 0 lo).take (HT.lC xs.length xs.length hi-HT.lC xs.length 0 lo),?_,by simp;lia⟩;unfold cw;rw[ħ,List.map_take,List.map_drop]
def QT(ns:List Int)(k:Int):∃v:Int,ŝ [.sh<|.lst<|ns.map .int,.sh<|.int k]=.ret (.sh<|.int v)/\0<=v:=by
 obtain⟨ys,e,_⟩:=slI ns (some k)<|some<|k+1;cases ys with
 |nil=>exact⟨0,by simp[ŝ,jH,e,ĺ],by lia⟩|cons y ys=>exact⟨_,by simp[ŝ,jH,e,ĺ,oP];rfl,by lia⟩
theorem Z5R:∀(xs:List Int),xs.length=4->∃a b c d,xs=[a,b,c,d]
 |[a,b,c,d],_=>⟨a,b,c,d,rfl⟩
def Z3w(c:Int):∃o:Option P3,Ϙ [.sh<|.int c]=.ret (.sh<|ak o)/\Zy o:=by
 obtain⟨xs,eg,hl,hx⟩:=XI c (n:=4) (by lia);obtain⟨a,b,d,e,rfl⟩:=Z5R xs hl;clear hl hx;have UV:ů [.sh<|.int c,.sh<|.int 4]=.ret (.ow [.int a,.int b,.int d,.int e]):=eg;clear eg;by_cases h4:e%6=4
 ·exact⟨none,by simp[Ϙ,de,UV,h4,ak],trivial⟩
 ·by_cases h5:e%6=5
  ·exact⟨some (a%2000001-1000000,b%2000001-1000000,1+d%1000000),by simp[Ϙ,de,UV,h5,ak,c3],by unfold Zy Oj;dsimp only;lia⟩
  ·exact⟨some (a%7-3,b%7-3,1+d%3),by simp[Ϙ,de,UV,h4,h5,ak,c3],by unfold Zy Oj;dsimp only;lia⟩
def KY(s:String):PV.str (Æ s)=sV (wC s):=congrArg PV.str (LI _).symm
def sg(b:Bool):Nat:=if b then 35 else 46
def XM:PV.str (Æ "#")=sV [35]:=by rw[KY];congr 1
def XN:PV.str (Æ ".")=sV [46]:=by rw[KY];congr 1
def Z3x{n A:Nat}(hn:n<=1000):Ģ (gN 1) Ĕ (ϴ (aU<|Ê mL (Ê vc (Â 0)<|Â 1)<|Å 1) (mC<|.str "#")<|mC<|.str ".") ((å n).map λ(i:Nat)=>PV.int (i:Int)) [.sh<|.int A,.no] []=some ((å n).map λk=>sV [sg<|A.testBit k]):=by
 have hc:=ē (g:=gN 1) (mt:=Ĕ) (me:=ϴ (aU<|Ê mL (Ê vc (Â 0)<|Â 1)<|Å 1) (mC<|.str "#")<|mC<|.str ".") (λ(i:Nat)=>PV.int (i:Int)) (λk=>sV [sg<|A.testBit k]) (λU=>∃a,U=[.sh<|.int A,a]) (å n) [.sh<|.int A,.no] [] ⟨_,rfl⟩ (by simp;lia) (by
  rintro k hk U ⟨a,rfl⟩;have sb:=Z4b A k;have so:sY (A:Int) (k:Int)=true:=by unfold sY;simp
  refine⟨[.sh<|.int A,.sh<|.int k],_,[.sh<|.int A,.sh<|.int k],rfl,rfl,?_,_,rfl⟩;have e1:=XM;have e2:=XN;cases hd:A.testBit k<;>rw[hd]at sb<;>simp at sb<;>simp[so,sb,sg,e1,e2])
 simpa using hc
def Zo(w:Nat)(p:Nat->Bool)(q:Nat):List Nat:=(å w).map λx=>sg<|p<|q*w+x
def kR(w h:Nat)(p:Nat->Bool):List (List Nat):=(å h).map λq=>Zo w p q
def UW{α:Type}(xs:List α){a b:Nat}(hb:b<=xs.length)(ha:a<=b):cw xs (some (a:Int)) (some (b:Int))=(xs.drop a).take (b-a):=by unfold cw;rw[HT.xq,HT.xq,wq hb,wq<|by lia]
def Z4s{α:Type}(f:Nat->α){w h q:Nat}(hq:q<h):cw ((å<|w*h).map f) (some ((q*w:Nat):Int)) (some ((q*w+w:Nat):Int))=(å w).map λx=>f (q*w+x):=by
 have hl:q*w+w<=w*h:=by have:=Nat.mul_le_mul_right w (show q+1<=h from hq);rw[qZ,wm,q_ h w]at this;exact this
 rw[UW _ (by simp;exact hl)<|by lia];apply List.ext_getElem
 ·simp;lia
 ·intro n h1 h2;simp
theorem XO:∀xs:List Nat,ţ [] (xs.map λx=>[x])=xs
 |[]=>rfl|[x]=>rfl|x::y::r=>by have:=XO (y::r);rw[á]at this;rw[á,á];show[x]++[]++ţ [] ([y]::r.map λx=>[x])=_;rw[this];rfl
def Z3z{xs:List Nat}(hl:xs.length<=1000):iC (.str "") [.lst<|xs.map λx=>sV [x]]=some (sV xs):=by
 have e:(xs.map λx=>sV [x])=(xs.map λx=>[x]).map sV:=by rw[Ğ];rfl
 rw[e];show((kS<|(xs.map λx=>[x]).map sV).bind λys=>if(ys.map cJ).sum+ys.length*(Æ "").length<=16777216then some (PV.str<|S<|ţ (Æ "").cps.toList ys)else none)=_;rw[UO];have h1:=UP (xs.map λx=>[x]) 1 (λy hy=>by obtain⟨x,_,rfl⟩:=Đ.mp hy;simp);have h2:(Æ "").length=0:=rfl;have h3:(Æ "").cps.toList=[]:=rfl;show(if((xs.map λx=>[x]).map cJ).sum+(xs.map λx=>[x]).length*(Æ "").length<=16777216then some (PV.str<|S<|ţ (Æ "").cps.toList (xs.map λx=>[x]))else none)=_;rw[ħ]at h1;rw[h2,h3,XO,if_pos<|by lia];rfl
def XQ:Æ "/"=S [47]:=by decide+kernel
def QU(w:Nat)(p:Nat->Bool)(q:Nat):(Zo w p q).length=w:=by unfold Zo;simp
def Z2U{w h A:Nat}(hw:w<=60)(hh:w*h<=1000)(h2:h<=1000):Ģ (gN 2) Ĕ (Ha iC (mC<|.str "")<|É (Ý<|oB (Â 0) (mP<|Ê ó (Â 2)<|Â 1)<|mP<|Ý<|Ą ü (Ê ó (Â 2)<|Â 1)<|Â 1) ã) ((å h).map λ(i:Nat)=>PV.int (i:Int)) [.bw<|(å<|w*h).map λk=>sV [sg<|A.testBit k],.sh<|.int w,.no] []=some ((kR w h A.testBit).map sV):=by
 have hc:=ē (g:=gN 2) (mt:=Ĕ) (me:=Ha iC (mC<|.str "")<|É (Ý<|oB (Â 0) (mP<|Ê ó (Â 2)<|Â 1)<|mP<|Ý<|Ą ü (Ê ó (Â 2)<|Â 1)<|Â 1) ã) (λ(i:Nat)=>PV.int (i:Int)) (λq=>sV<|Zo w A.testBit q) (λU=>∃a,U=[.bw<|(å<|w*h).map λk=>sV [sg<|A.testBit k],.sh<|.int w,a]) (å h) [.bw<|(å<|w*h).map λk=>sV [sg<|A.testBit k],.sh<|.int w,.no] [] ⟨_,rfl⟩ (by simp;lia) (by
  rintro q hq U ⟨a,rfl⟩;have hq:=Ϝ.mp hq;have ct:=Z4s (λk=>sV [sg<|A.testBit k]) (w:=w) hq;have j:=Z3z (xs:=Zo w A.testBit q) (by rw[QU];lia);have e:((Zo w A.testBit q).map λx=>sV [x])=(å w).map λx=>sV [sg<|A.testBit<|q*w+x]:=by unfold Zo;rw[Ğ];rfl
  rw[e]at j;have m1:Ě (q:Int) (w:Int)=true:=œ (by lia) (by lia);have c1:((q*w:Nat):Int)=(q:Int)*(w:Int):=ng q w;have c2:((q*w+w:Nat):Int)=(q:Int)*(w:Int)+(w:Int):=by rw[qF,c1]
  rw[c1,c2]at ct;refine⟨_,_,[.bw<|(å<|w*h).map λk=>sV [sg<|A.testBit k],.sh<|.int w,.sh<|.int q],rfl,rfl,?_,_,rfl⟩;simp[m1,ct,j])
 have e:(kR w h A.testBit).map sV=(å h).map λq=>sV (Zo w A.testBit q):=by unfold kR;rw[Ğ];rfl
 rw[e];simpa using hc
def Z3A{w h:Nat}(hw:w<=60)(hh:h<=1000)(p:Nat->Bool):iC (.str "/") [.lst<|(kR w h p).map sV]=some (sV<|ţ [47] (kR w h p)):=UQ XQ (B:=60) (λx hx=>by
 obtain⟨q,_,rfl⟩:=Đ.mp hx;rw[QU];exact hw) (by
 have:(kR w h p).length*61<=1000*61:=bt (by unfold kR;simp;exact hh) (by lia);lia)
def XR{w h:Nat}{T:List Th}{D:List Dy}{i j:Nat}(hi:i<D.length)(hj:j<D[i].2.2.length)(hl:D[i].2.2.length<=1000):dg [.sh<|Z3 w h T D,.sh<|.int i,.sh<|.int j]=.ret (.sh .non):=by
 have yd:=QA w h T D;have tv:=UE (w:=w) (h:=h) (T:=T) hi;have FL:(D.map pf).length=D.length:=by simp
 have a1:(i:Int)<((D.map pf).length:Int):=by lia
 have zI:(D[i].2.2.map ak).length=D[i].2.2.length:=by simp
 have a2:(j:Int)<((D[i].2.2.map ak).length:Int):=by lia
 have a3:(D[i].2.2.map ak).length<=16777216:=by lia
 generalize Z3 w h T D=Yv,D.map pf=DV,D[i].2.2.map ak=TV at*;have hs:lJ [.sh Yv,.sh<|.int i]=.ret (.sh<|.bl true):=by simp[lJ,uh,yd];lia
 simp[dg,lU,hs,tv,a2]
def Z3B{w h:Nat}{T:List Th}(Y:UD w h T){D:List Dy}{i j:Nat}(hi:i<D.length)(hj:j<D[i].2.2.length)(hl:D[i].2.2.length<=1000)(ho:Oh D[i].2.2[j]):bV [.sh<|Z3 w h T D,.sh<|.lst [.int i,.int j]]=.ret (.sh<|sV<|ţ [47] (kR w h (kQ w h T D[i].2.2[j]).testBit)):=by
 have yw:=LB w h T D;have yh:=Og w h T D;have ct:=XR (w:=w) (h:=h) (T:=T) hi hj hl;have tv:=UE (w:=w) (h:=h) (T:=T) hi;have dk:=Z47 Y.w0 Y.w1 Y.h1 Y.wh Y.tl D Y.tg ho;have hx:(D[i].2.2.map ak)[j]?=some (ak D[i].2.2[j]):=by simp[hj]
 generalize kQ w h T D[i].2.2[j]=A at*;have s1:=Z3x (n:=w*h) (A:=A) Y.wh;have s2:=Z2U (A:=A) Y.w1 Y.wh Y.h1;have s3:=Z3A Y.w1 Y.h1 A.testBit;have r1:=Zt (n:=w*h) (by have:=Y.wh;lia);have r2:=Zt (n:=h) (by have:=Y.h1;lia);have m1:Ě (w:Int) (h:Int)=true:=œ (by have:=Y.w1;lia) (by have:=Y.w1;lia);have c1:((w*h:Nat):Int)=(w:Int)*(h:Int):=ng w h;rw[c1]at r1;have k1:((D[i].2.2.map ak).length:Int)=D[i].2.2.length:=by simp
 have k2:(j:Int)<((D[i].2.2.map ak).length:Int):=by lia
 simp[bV,kL,Ù,ct,tv,hx,dk,yw,yh,m1,r1,r2,mK,s1,s2,s3]
def XT:PV.str (Æ "-")=sV [45]:=by rw[KY];congr 1
def Zm{j:Nat}(h:j<=100000):Nb (j:Int):=⟨by lia,by lia⟩
def Z5D{w h:Nat}(hw:w<=60)(hh:h<=1000)(hw0:0<w){k:Nat}(hk:k<w*h):ib [.sh<|.tup [.int ((k%w:Nat):Int),.int ((k/w:Nat):Int)],.sh<|.int w]=.ret (.sh<|.int k):=by
 have h2:=(LC (k:=k) (h:=h) hw0).mpr hk;have a3:(0:Int)<=((k/w:Nat):Int):=kT _;have a4:((k/w:Nat):Int)<(h:Int):=vQ.mpr h2;have e:((k/w:Nat):Int)*(w:Int)+((k%w:Nat):Int)=k:=by rw[<-ng,<-qF,q_,wp]
 generalize ((k%w:Nat):Int)=x,((k/w:Nat):Int)=y at*;have m1:Ě y (w:Int)=true:=œ (by lia) (by lia);simp[ib,o_,m1,e]
def Zu(w:Nat)(T:List Th)(k:Nat):Option P3->List Nat
 |none=>wC "night"|some r=>match(yj w T r k).head? with
  |none=>[45]|some n=>nT (n:Int)
def XU{w k n:Nat}{T:List Th}{r:P3}(h:(yj w T r k).head?=some n):n<T.length:=Ϝ.mp (vR.mp<|List.mem_of_head? h).1
def Z4t{w h:Nat}{T:List Th}(Y:UD w h T){D:List Dy}{i j k:Nat}(hi:i<D.length)(hj:j<D[i].2.2.length)(hl:D[i].2.2.length<=1000)(ho:Oh D[i].2.2[j])(hk:k<w*h):ag [.sh<|Z3 w h T D,.sh<|.lst [.int i,.int j,.int ((k%w:Nat):Int),.int ((k/w:Nat):Int)]]=.ret (.sh<|sV<|Zu w T k D[i].2.2[j]):=by
 have yw:=LB w h T D;have cs:=Z2I (T:=T) D Y.w0 hk;have ct:=XR (w:=w) (h:=h) (T:=T) hi hj hl;have tv:=UE (w:=w) (h:=h) (T:=T) hi;have nu:=Z5D Y.w1 Y.h1 Y.w0 hk;have hx:(D[i].2.2.map ak)[j]?=some (ak D[i].2.2[j]):=by simp[hj]
 have k2:(j:Int)<((D[i].2.2.map ak).length:Int):=by simp;lia
 have nt:PV.str (Æ "night")=sV (wC "night"):=KY _;have ds:=XT;unfold pt ff at cs;dsimp only at cs;cases e:D[i].2.2[j]with
 |none=>rw[e]at hx;generalize Z3 w h T D=Yv,((k%w:Nat):Int)=x,((k/w:Nat):Int)=y,D[i].2.2.map ak=TV at*;simp[ag,eG,Ù,cs,ct,tv,hx,ak,ur,Zu,nt]|some r=>
  rw[e]at hx ho;have wh:=Z4P Y.w0 Y.w1 Y.h1 Y.wh Y.tl Y.tg D ho.1 ho.2;have wx:((å<|w*h).map λk=>oV (yj w T r k).head?)[k]?=some (oV (yj w T r k).head?):=by simp[hk]
  have hn:ur (c3 r)=false:=by simp[c3,ur]
  change _=some (c3 r)at hx;generalize Z3 w h T D=Yv,((k%w:Nat):Int)=x,((k/w:Nat):Int)=y,D[i].2.2.map ak=TV,c3 r=R,((å<|w*h).map λk=>oV (yj w T r k).head?)=WV at*;unfold Zu;dsimp only;cases q:(yj w T r k).head? with
  |none=>rw[q]at wx;simp[ag,eG,Ù,cs,ct,tv,hx,hn,wh,nu,yw,wx,oV,show ur .non=true from rfl,ds]|some n=>rw[q]at wx;have hm:=XU q;have st:=Zi (Zm (j:=n) (by have:=Y.tl;lia));change _=some (PV.int n)at wx;simp[ag,eG,Ù,cs,ct,tv,hx,hn,wh,nu,yw,wx,show ur (.int n)=false from rfl,st];rfl
def uH{α:Type}{P:α->Prop}{a:α}{l:List α}(h:P a)(t:∀x∈l,P x):∀x∈a::l,P x:=λx hx=>by
 rcases ö.mp hx with rfl|hx
 ·exact h
 ·exact t x hx
def Ol{α:Type}{P:α->Prop}:∀x∈([]:List α),P x:=λx hx=>by cases hx
def Z5E{W:List PV}{k:Nat}{ns:List Int}(hk:k<=W.length)(hW:W.drop k=ns.map aR)(hn:∀n∈ns,Nb n)(hl:ns.length<=1000):Ŗ [.bw W,.sh<|.int k]=.ret (.ow<|ns.map .int):=by have c:=QF W k hk;rw[hW]at c;have e:=Xp hn hl (sl:=.sh<|.lst<|ns.map aR)<|.inl rfl;simp[Ŗ,hG,c,e,ur]
def Z2W{w h:Nat}{T:List Th}{D:List Dy}{i:Nat}(hi:i<D.length):lK [.sh<|Z3 w h T D,.sh<|.int i]=.ret (.sh<|.str D[i].1):=by
 have yd:=QA w h T D;have hx:(D.map pf)[i]?=some (pf D[i]):=by simp[hi]
 simp[lK,uj,yd,hx];simp[pf]
theorem XV{w h:Nat}{T:List Th}{D:List Dy}{i:Nat}(hi:i<D.length)(hs:∀d∈D,ĕ d.1=true)(hn:(D.map (·.1)).Nodup):∀(n a:Nat) (s:Ű),a<=i->i<a+n->a+n<=D.length->ĺ (gN 2) ay ((jc a n).map λ(i:Nat)=>PV.int (i:Int)) [.sh<|Z3 w h T D,.sh<|.str D[i].1,s]=.ok (.rt<|.sh<|.int i) [.sh<|Z3 w h T D,.sh<|.str D[i].1,.sh<|.int i]
 |0,a,s,h1,h2,_=>by lia|n+1,a,s,h1,h2,h3=>by
  have ha:a<D.length:=by lia
  have e:=Z2W (w:=w) (h:=h) (T:=T) ha;have q:=İ (hs _<|Ū ha)<|hs _<|Ū hi;rw[we,á,ĺ];by_cases z:a=i
  ·subst z;rw[decide_eq_true rfl]at q;generalize Z3 w h T D=Yv,D[a].1=X at*;simp[ay,e,q]
  ·have ne:¬D[a].1=D[i].1:=fun y=>z (by
    have:=(List.getElem_inj (xs:=D.map (·.1)) (i:=a) (j:=i) (h₀:=by simpa using ha) (h₁:=by simpa using hi) hn).mp (by simpa using y);exact this)
   rw[decide_eq_false ne]at q;have ih:=XV (w:=w) (h:=h) (T:=T) hi hs hn n (a+1) (.sh<|.int a) (by lia) (by lia) (by lia);generalize Z3 w h T D=Yv,D[i].1=X at*;have st:ay [.sh Yv,.sh<|.str X,.sh<|.int a]=.ok .nx [.sh Yv,.sh<|.str X,.sh<|.int a]:=by simp[ay,e,q]
   show(ay [.sh Yv,.sh<|.str X,.sh<|.int a]).bind _=_;rw[st];exact ih
def Z3C{w h:Nat}{T:List Th}{D:List Dy}{i:Nat}(hi:i<D.length)(hs:∀d∈D,ĕ d.1=true)(hn:(D.map (·.1)).Nodup)(hl:D.length<=1000):bL [.sh<|Z3 w h T D,.sh<|.str D[i].1]=.ret (.sh<|.int i):=by
 have yd:=QA w h T D;have lp:=XV (w:=w) (h:=h) (T:=T) hi hs hn D.length 0 .no (by lia) (by lia) (by lia);have rg:=Zt (n:=D.length) (by lia);rw[AZ]at rg;have FL:(D.map pf).length=D.length:=by simp
 have zI:(D.map pf).length<=16777216:=by lia
 rw[<-FL]at rg;generalize Z3 w h T D=Yv,D[i].1=X at*;rw[FL]at rg;generalize ((jc 0 D.length).map λ(i:Nat)=>PV.int (i:Int))=RG at*;rw[<-FL]at rg;generalize D.map pf=DV at*;simp[bL,lW,yd,rg,lp]
def XW:List (String×MF):=[("answer_dark",bV),("answer_who",ag)]
def XX{Y:PV}{wd:Str}{x:PV}{i:Nat}{ns:List Int}{f:String}{mf:MF}{r:RV}(r1:Hr "ROWS" ZR (.str wd) (.cls "ROWS")=some (.bl false))(r2:Hs "ROWS" ZR (.cls "ROWS") (.str wd)=some (.tup [.int 1,.int ns.length,.cls f]))(dc:bL [.sh Y,.sh x]=.ret (.sh<|.int i))
 (hn:∀n∈ns,Nb n)(hl:ns.length<=100)(hf:XW.lookup f=some mf)(ha:mf [.sh Y,.sh<|.lst (.int i::ns.map .int)]=.ret r):kN [.sh Y,.bw (.str wd::x::ns.map aR)]=.ret r:=by
 have nb:Ŗ [.bw (.str wd::x::ns.map aR),.sh<|.int 2]=.ret (.ow<|ns.map .int):=Z5E (k:=2) (by simp) rfl hn (by lia);have ct:cw (.str wd::x::ns.map aR) (some 1) (some 2)=[x]:=by have:=UW (.str wd::x::ns.map aR) (a:=1) (b:=2) (by simp) (by lia);exact this
 have al:ü (.lst [.int i]) (.lst<|ns.map .int)=some (.ow (.int i::ns.map .int)):=vH (by simp;lia);have ln:((ns.map aR).length:Int)=ns.length:=by simp
 have l2:(ns.map aR).length<=1000:=by simp;lia
 unfold XW at hf;generalize ns.map aR=W at*;have e1:(W.length:Int)+1+1=1+1+(ns.length:Int):=by lia
 have l3:W.length+1+1<=16777216:=by lia
 have e2:(W.length:Int)+1+1=2+(ns.length:Int):=by lia
 simp[kN,vC,Ù,r1,r2,ct,e1,nb,mK,Ģ,dc,al,hf,ha]
def Zb(Y:PV):PV:=.ins "Desk" ["yard"] [Y]
def Z5S:ĕ (Æ "put")=true:=by decide+kernel
def Z5F:ĕ (Æ "take")=true:=by decide+kernel
def XY{Y:PV}{s:String}{ws:List (List Nat)}{r:RV}(hs:ĕ (Æ s)=true)(h1:decide (Æ s=Æ "put")=false)(h2:decide (Æ s=Æ "take")=false)(hW:∀x∈wC s::ws,Wd x)(hl:ws.length<=100)(aw:kN [.sh Y,.bw (.str s::ws.map sV)]=.ret r):ŷ [.sh<|Zb Y,.sh<|sV<|Z1 (wC s::ws)]=.ret r:=by
 have sp:=QP (c:=32) (by lia) UN (l:=Z1 (wC s::ws)) (by have:=ZW hW (by simp;lia);lia);rw[Xy hW (by simp),á,<-KY]at sp;have q1:=İ hs Z5S;have q2:=İ hs Z5F;rw[h1]at q1;rw[h2]at q2;have f:Ŝ ["Desk"] (Æ "yard") (Zb Y)=some Y:=by unfold Ŝ Zb;simp
 generalize Zb Y=DV at*;change fX (.str<|S<|Z1 (wC s::ws)) _=_ at sp;show ŷ [.sh DV,.sh<|.str<|S<|Z1 (wC s::ws)]=_;simp[ŷ,qf,sp,q1,q2,f,aw]
structure Ds(w h:Nat)(T:List Th)(D:List Dz):Prop where
 y:UD w h T
 l:D.length<=3
 d:∀d∈D,ZE d/\d.2.2.length<=4
 n:(D.map (·.1)).Nodup
theorem UX:∀{o:Option P3},Zy o->Oh o
 |none,_=>trivial|some r,h=>by unfold Zy Oj at h;unfold Oh RB;lia
theorem Ds.ok{w h:Nat}{T:List Th}{D:List Dz}(X:Ds w h T D):∀d∈D.map zV,ĕ d.1=true/\d.1.length<=1000:=λd hd=>by obtain⟨z,hz,rfl⟩:=Đ.mp hd;obtain⟨_,h1,h2⟩:=(X.d z hz).1.1;refine⟨zF.ok λc hc=>by have:=h2 c hc;lia,?_⟩;show(S z.1).length<=1000;rw[ZC];lia
def Ds.nd{w h:Nat}{T:List Th}{D:List Dz}(X:Ds w h T D):((D.map zV).map (·.1)).Nodup:=by
 have e:(D.map zV).map (·.1)=(D.map (·.1)).map S:=by rw[Ğ,Ğ];rfl
 rw[e];exact List.pairwise_map.mpr (X.n.imp λh e=>h<|by simpa using congrArg (λz:Str=>z.cps.toList) e)
abbrev Zk(w h:Nat)(T:List Th)(D:List Dz):PV:=Z3 w h T<|D.map zV
def Ds.dc{w h:Nat}{T:List Th}{D:List Dz}(X:Ds w h T D){i:Nat}(hi:i<D.length):bL [.sh<|Zk w h T D,.sh<|sV D[i].1]=.ret (.sh<|.int i):=by
 have zJ:i<(D.map zV).length:=by simpa using hi
 have:=Z3C (w:=w) (h:=h) (T:=T) zJ (λd hd=>(X.ok d hd).1) X.nd (by have:=X.l;simp;lia);rw[wg]at this;exact this
def Ds.nm{w h:Nat}{T:List Th}{D:List Dz}(X:Ds w h T D){i:Nat}(hi:i<D.length):Wd D[i].1:=(X.d _<|Ū hi).1.1.wd
def KZ{j:Nat}(h:j<=1000):Wd (nT (j:Int)):=ZI (Zm<|by lia)
def Om(nm:List Nat)(j:Nat):List Nat:=Z1 [wC "dark",nm,nT (j:Int)]
def QV{s:String}(h:((wC s).length<=11/\(wC s).all (λc=>decide<|33<=c/\c<256)=true):=by decide+kernel):Wd (wC s):=LJ h
def Z3D{w h:Nat}{T:List Th}{D:List Dz}(X:Ds w h T D){i j:Nat}(hi:i<D.length)(hj:j<D[i].2.2.length):ŷ [.sh<|Zb<|Zk w h T D,.sh<|sV<|Om D[i].1 j]=.ret (.sh<|sV<|ţ [47] (kR w h (kQ w h T D[i].2.2[j]).testBit)):=by
 obtain⟨⟨_,_,_,_,_,h3⟩,h4⟩:=X.d _<|Ū hi;have zJ:i<(D.map zV).length:=by simpa using hi
 have eg:(D.map zV)[i].2.2=D[i].2.2:=by rw[wg];rfl
 have a:=Z3B X.y (D:=D.map zV) zJ (j:=j) (by rw[eg];exact hj) (by rw[eg];lia) (by simp only[eg];exact UX<|h3 _<|Ū hj);simp only[eg]at a;have b:=XX (Y:=Zk w h T D) (wd:="dark") (x:=sV D[i].1) (ns:=[(j:Int)]) (f:="answer_dark") (by kernel_rfl) (by kernel_rfl) (X.dc hi) (by simp;exact Zm<|by lia) (by simp) rfl a;exact XY (s:="dark") (ws:=[D[i].1,nT (j:Int)]) (by decide+kernel) (by decide+kernel) (by decide+kernel) (uH QV<|uH (X.nm hi)<|uH (KZ<|by lia) Ol) (by simp) b
def QW(nm:List Nat)(j p q:Nat):List Nat:=Z1 [wC "who",nm,nT (j:Int),nT (p:Int),nT (q:Int)]
def Z4u{w h:Nat}{T:List Th}{D:List Dz}(X:Ds w h T D){i j k:Nat}(hi:i<D.length)(hj:j<D[i].2.2.length)(hk:k<w*h):ŷ [.sh<|Zb<|Zk w h T D,.sh<|sV<|QW D[i].1 j (k%w) (k/w)]=.ret (.sh<|sV<|Zu w T k D[i].2.2[j]):=by
 obtain⟨⟨_,_,_,_,_,h3⟩,h4⟩:=X.d _<|Ū hi;have zJ:i<(D.map zV).length:=by simpa using hi
 have eg:(D.map zV)[i].2.2=D[i].2.2:=by rw[wg];rfl
 have a:=Z4t X.y (D:=D.map zV) zJ (j:=j) (by rw[eg];exact hj) (by rw[eg];lia) (by simp only[eg];exact UX<|h3 _<|Ū hj) hk;simp only[eg]at a;have h1:=nC k X.y.w0;have h2:=(LC (k:=k) (h:=h) X.y.w0).mpr hk;have h5:=X.y.w1;have h6:=X.y.h1;have b:=XX (Y:=Zk w h T D) (wd:="who") (x:=sV D[i].1) (ns:=[(j:Int),((k%w:Nat):Int),((k/w:Nat):Int)]) (f:="answer_who") (by kernel_rfl) (by kernel_rfl) (X.dc hi) (uH (Zm<|by lia)<|uH (Zm<|by lia)<|uH (Zm<|by lia) Ol) (by simp) rfl a;exact XY (s:="who") (ws:=[D[i].1,nT (j:Int),nT ((k%w:Nat):Int),nT ((k/w:Nat):Int)]) (by decide+kernel) (by decide+kernel) (by decide+kernel) (uH QV<|uH (X.nm hi)<|uH (KZ<|by lia)<|uH (KZ<|by lia)<|uH (KZ<|by lia) Ol) (by simp) b
def UY(x y u v l h:Int):dN [.sh<|.int x,.sh<|.int y,.sh<|.int u,.sh<|.int v,.sh<|.int l,.sh<|.int h]=.ret (.ow<|(Zl x y u v l++Zl x y u v h).map c3):=by simp[dN,qg,Ù,Zl,c3,Ģ,vH]
def Z57{t:Th}(hg:Z0 t.1 t.2=true):Ş [.sh<|gk t]=.ret (.ow<|(Z6 t.1 t.2).map c3):=by
 obtain⟨w,xs⟩:=t;unfold Z0 at hg;dsimp only at hg⊢;unfold Z6 Zh gk;dsimp only;by_cases e1:w="post"
 ·subst e1;rw[if_pos rfl]at hg;obtain⟨p,q,h,rfl⟩:=Qw hg;have e:=UY (2*p-1) (2*q-1) (2*p+1) (2*q+1) 0 h;simp[Ş,ώ,Ù,İ,s1,e,Z2,ZA,ZH]
 rw[if_neg e1]at hg;by_cases e2:w="fence"
 ·subst e2;rw[if_pos rfl]at hg;obtain⟨x,y,u,v,h,rfl⟩:=Qx hg;simp[Ş,ώ,Ù,İ,s1,s2,s3,s5,T9,Qr,Qs,Z2,c3,ZH]
 rw[if_neg e2]at hg;by_cases e3:w="sail"
 ·subst e3;rw[if_pos rfl]at hg;obtain⟨x,y,u,v,h,rfl⟩:=LA hg;have e:=UY x y u v h h;simp[Ş,ώ,Ù,İ,s1,s3,s5,Qb,Ub,Qt,e,Z2,Zl,ZH,show ∀a b c d e f g h:PV,cw [a,b,c,d,e,f,g,h] none (some 4)=[a,b,c,d]from λ_ _ _ _ _ _ _ _=>rfl]
 rw[if_neg e3]at hg;by_cases e4:w="cloth"
 ·subst e4;rw[if_pos rfl]at hg;obtain⟨a,b,c,d,e,f,g,i,j,rfl⟩:=Qy hg;simp[Ş,ώ,Ù,İ,s1,s2,s3,s4,s5,Ud,Ue,Uf,Qu,Z2,c3,ZH,show ∀a b c d e f g h i:PV,cw [a,b,c,d,e,f,g,h,i] none (some 3)=[a,b,c]from λ_ _ _ _ _ _ _ _ _=>rfl,show ∀a b c d e f g h i:PV,cw [a,b,c,d,e,f,g,h,i] (some 3) (some 6)=[d,e,f]from λ_ _ _ _ _ _ _ _ _=>rfl,show ∀a b c d e f g h i:PV,cw [a,b,c,d,e,f,g,h,i] (some 6) none=[g,h,i]from λ_ _ _ _ _ _ _ _ _=>rfl]
 rw[if_neg e4]at hg;by_cases e5:w="house"
 ·subst e5;rw[if_pos rfl]at hg;obtain⟨x,y,u,v,h,rfl⟩:=LA hg;have e:=UY x y u v 0 h;simp[Ş,ώ,Ù,İ,s1,s5,Ug,Uh,Ui,Uj,e,Z2,ZA,ZH]
 ·rw[if_neg e5]at hg;cases hg
def Z3E{t:Th}(hg:Z0 t.1 t.2=true){r:P3}(hr:RB r):dn [.sh<|gk t,.sh<|c3 r]=.ret (.ow<|((Z6 t.1 t.2).map (eX r)).map pt):=by
 have e:=Z57 hg;have hl:=(ZZ hg).1;obtain⟨a1,a2,a3,a4,a5,a6⟩:=hr;have hc:=ē (g:=gT 3<|ï (gN 3)<|ï (gN 4)<|ï (gN 5) ϒ) (mt:=Ĕ) (me:=Ō<|É (Ý<|Ą ü (Ê ó (Â 0)<|Â 3)<|Ê ó (Â 1)<|Â 5)<|É (Ý<|Ą ü (Ê ó (Â 0)<|Â 4)<|Ê ó (Â 2)<|Â 5) ã) c3 (λp=>pt<|eX r p) (λU=>∃a b c,U=[.sh<|.int r.2.2,.sh<|.int r.1,.sh<|.int r.2.1,a,b,c]) (Z6 t.1 t.2) [.sh<|.int r.2.2,.sh<|.int r.1,.sh<|.int r.2.1,.no,.no,.no] [] ⟨_,_,_,rfl⟩ (by simp;lia) (by
  rintro p hp U ⟨a,b,c,rfl⟩;have m1:∀x,Ě r.2.2 x=true:=λx=>œ (by lia) (by lia);have m2:∀x,Ě r.1 x=true:=λx=>œ (by lia) (by lia);have m3:∀x,Ě r.2.1 x=true:=λx=>œ (by lia) (by lia);exact⟨[.sh<|.int r.2.2,.sh<|.int r.1,.sh<|.int r.2.1,.sh<|.int p.1,.sh<|.int p.2.1,.sh<|.int p.2.2],_,[.sh<|.int r.2.2,.sh<|.int r.1,.sh<|.int r.2.1,.sh<|.int p.1,.sh<|.int p.2.1,.sh<|.int p.2.2],by simp[c3],rfl,by simp[m1,m2,m3,pt,eX],_,_,_,rfl⟩)
 rw[bq]at hc;have em:((Z6 t.1 t.2).map λp=>pt<|eX r p)=((Z6 t.1 t.2).map (eX r)).map pt:=by rw[Ğ];rfl
 rw[em]at hc;generalize (Z6 t.1 t.2).map c3=C,((Z6 t.1 t.2).map (eX r)).map pt=Z,gk t=V at*;obtain⟨x,y,z⟩:=r;simp[dn,lZ,Ù,c3,e,hc]
def XZ(x:Int):bN [.sh<|.int x]=.ret (.sh<|.bl true):=by have h1:ql [.int x,.ty "int"]=some (.bl true):=rfl;have h2:ql [.int x,.ty "bool"]=some (.bl false):=rfl;simp[bN,lY,h1,h2]
def QX{s W:Int}(hW:W≠0):1<=(rt s W).2/\My.gd (rt s W).1 (rt s W).2=1/\(rt s W).1*W=s*(rt s W).2:=My.Z37 s hW
def Z2Y{s W:Int}(hW:W≠0)(h:0<=s*W):0<=(rt s W).1:=by
 obtain⟨h1,_,h3⟩:=QX (s:=s) hW;have e:(rt s W).1*(W*W)=(s*W)*(rt s W).2:=by
  calc (rt s W).1*(W*W)=((rt s W).1*W)*W:=by rw[bj]
   _=s*(rt s W).2*W:=by rw[h3]
   _=(s*W)*(rt s W).2:=by rw[bj,dP (rt s W).2 W,<-bj]
 have hp:0<W*W:=by
  rcases Int.lt_or_gt_of_ne hW with q|q
  ·exact Int.mul_pos_of_neg_of_neg q q
  ·exact vP q q
 have hn:0<=(s*W)*(rt s W).2:=Ŏ h (by lia);by_cases q:0<=(rt s W).1
 ·exact q
 ·have:=iZ (show(rt s W).1<0 by lia) hp;lia
def X_{s W:Int}(hs:bits s<=200)(hW:bits W<=200):bits (rt s W).1<=200/\bits (rt s W).2<=200:=⟨nP hs,nP hW⟩
def Z2Z{s W C:Int}(hW:W≠0)(hd:(rt s W).2 ∣ C):C.fdiv (rt s W).2*(rt s W).1*W=C*s:=by obtain⟨h1,_,h3⟩:=QX (s:=s) hW;rw[nc _<|by lia];exact Fr.Z3a (by lia) h3 hd
theorem X0{W:Int}(h0:W≠0)(hW:bits W<=200)(s0 s1 s2:Ű):∀(L:List Int) (c:Int) (s4:Ű),bits c+200*L.length<=100000->(∀s∈L,0<=s*W)->∃DC,ĺ (gN 4) ar (L.map λs=>pt<|rt s W) [s0,s1,s2,.sh<|.int c,s4,.no,.no]=.ok .nx [s0,s1,s2,.sh<|.int<|(L.map λs=>(rt s W).2).foldl (·*·) c,DC,.no,.no]/\bits ((L.map λs=>(rt s W).2).foldl (·*·) c)<=100000
 |[],c,s4,h,_=>⟨s4,rfl,by simpa using(show bits c<=100000 by simp at h;lia)⟩|s::L,c,s4,h,hs=>by
  rw[Ę]at h;have hb:bits (rt s W).2<=200:=nP hW;have hm:Ě c (rt s W).2=true:=E0 (by lia) (by lia);have hc:bits (c*(rt s W).2)<=bits c+200:=intBits_mul_le (ø _) hb;have f1:=(QX (s:=s) h0).1;have f2:=Z2Y h0 (hs s<|by simp);obtain⟨DC,e,e'⟩:=X0 h0 hW s0 s1 s2 L (c*(rt s W).2) (.sh<|pt<|rt s W) (by lia)<|λx hx=>hs x<|ð _ hx;refine⟨DC,?_,e'⟩;have g1:¬(rt s W).1<0:=by lia
  have g2:¬(rt s W).2<1:=by lia
  have iU:ar [s0,s1,s2,.sh<|.int c,.sh<|pt<|rt s W,.no,.no]=.ok .nx [s0,s1,s2,.sh<|.int<|c*(rt s W).2,.sh<|pt<|rt s W,.no,.no]:=by generalize rt s W=R at*;simp[ar,pt,kA,XZ,g1,g2,hm]
  rw[á,á,ϡ,ĺ];show(ar [s0,s1,s2,.sh<|.int c,.sh<|pt<|rt s W,.no,.no]).bind _=_;rw[iU];exact e
def ax(j:Nat)(p:Hu.Pt):Int:=if j=0then p.1 else p.2
def X1{j:Nat}(hj:j<2)(p:Hu.Pt):ß (pt p) (.int j)=some (.int<|ax j p):=by
 have h:j=0\/j=1:=by lia
 rcases h with rfl|rfl<;>rfl
def X2{S:List Hu.Pt}{p:Hu.Pt}{H:List Int}{C:Int}{j:Nat}(hj:j<2)(hl:H.length=S.length)(hn:S.length<=100)(hb:∀x∈H,bits x<=100400)(hC:bits C<=100000)(hS:∀q∈S,Sm q)
 (hp:Sm p)(heq:((å S.length).map λk=>H.getD k 0*ax j (Hu.at_ S k)).sum=C*ax j p)(s0 s4:Ű):aq [s0,.sh<|.lst<|S.map pt,.sh<|pt p,.sh<|.int C,s4,.ow<|H.map .int,.sh<|.int j]=.ok .nx [s0,.sh<|.lst<|S.map pt,.sh<|pt p,.sh<|.int C,s4,.ow<|H.map .int,.sh<|.int j]:=by
 have YF:∀q,Sm q-> -100000000000000000<=ax j q/\ax j q<=100000000000000000:=by rintro q ⟨a1,a2,a3,a4⟩;unfold ax;split<;>lia
 have c1:=ē (g:=gN 3) (mt:=Ĕ) (me:=Ê ó (Ê ß (Â 0)<|Â 3)<|Ê ß (Ê ß (Â 2)<|Â 3)<|Â 1) (λ(i:Nat)=>PV.int (i:Int)) (λk=>.int<|H.getD k 0*ax j (Hu.at_ S k)) (λU=>∃s,U=[.bw<|H.map .int,.sh<|.int j,.sh<|.lst<|S.map pt,s]) (å S.length) [.bw<|H.map .int,.sh<|.int j,.sh<|.lst<|S.map pt,.no] [] ⟨_,rfl⟩ (by simp;lia) (by
  rintro k hk U ⟨s,rfl⟩;have LR:k<S.length:=Ϝ.mp hk;have hH:(H.map PV.int)[k]?=some (.int<|H.getD k 0):=by rw[ŗ,Ϡ,ũ<|by lia];rfl
  have hx:=YF _<|hS _<|Hu.ZQ LR;have hm:Ě (H.getD k 0) (ax j<|Hu.at_ S k)=true:=Cq (by lia) (by lia);have hpt:=X1 hj<|Hu.at_ S k;have yy:=jy LR;generalize H.getD k 0=x,ax j (Hu.at_ S k)=y,pt (Hu.at_ S k)=Q,S.map pt=SP,H.map PV.int=HP at*;exact⟨[.bw HP,.sh<|.int j,.sh<|.lst SP,.sh<|.int k],_,[.bw HP,.sh<|.int j,.sh<|.lst SP,.sh<|.int k],rfl,rfl,by simp[hH,yy,hpt,hm],_,rfl⟩)
 rw[bq]at c1;have em:((å S.length).map λk=>PV.int<|H.getD k 0*ax j (Hu.at_ S k))=((å S.length).map λk=>H.getD k 0*ax j (Hu.at_ S k)).map .int:=by rw[Ğ];rfl
 rw[em]at c1;have hpp:=X1 hj p;have hx:=YF p hp;have hm:Ě C (ax j p)=true:=Cq (by lia) (by lia);have hr:=Zt (show S.length<=1000 by lia);have jR:tE [.lst<|((å S.length).map λk=>H.getD k 0*ax j (Hu.at_ S k)).map .int]=some (.int<|C*ax j p):=by simp only[eB,fV,re,heq]
 have hlen:aa [.lst<|S.map pt]=some (.int S.length):=by simp
 generalize (((å S.length).map λk=>H.getD k 0*ax j (Hu.at_ S k)).map PV.int)=zs,((å S.length).map λ(i:Nat)=>PV.int (i:Int))=is,ax j p=y,pt p=Q,S.map pt=SP,H.map PV.int=HP at*;simp[aq,-oC,hlen,hr,mK,qk,c1,jR,hpp,hm,-eB]
def Z32{S:List Hu.Pt}{p:Hu.Pt}{L:List Int}{W:Int}(hW:W≠0)(UZ:bits W<=200)(hL:∀s∈L,bits s<=200/\0<=s*W)(hl:L.length=S.length)(hn:S.length<=100)(hS:∀q∈S,Sm q)(hp:Sm p)(h1:L.sum=W)
 (hx:∀j,j<2->Fr.df L (λk=>ax j<|Hu.at_ S k)=W*ax j p):bh [.sh<|.lst<|L.map λs=>pt<|rt s W,.sh<|.lst<|S.map pt,.sh<|pt p]=.ret (.sh<|.bl true):=by
 obtain⟨s4,e,LQ⟩:=X0 hW UZ (.sh<|.lst<|L.map λs=>pt<|rt s W) (.sh<|.lst<|S.map pt) (.sh<|pt p) L 1 .no (by
  have:bits 1<=1:=oJ (n:=1) (by decide) (by decide);lia)<|λs hs=>(hL s hs).2
 have hdv:∀s∈L,(rt s W).2 ∣ (L.map λs=>(rt s W).2).foldl (·*·) 1:=λs hm=>(Fr.Ww _ _).2 _ (cK (f:=λs=>(rt s W).2) hm);generalize hC:(L.map λs=>(rt s W).2).foldl (·*·) 1=C at*;have c3:=ē (g:=gN 1) (mt:=Ĕ) (me:=Ê ó (Ê ß (Â 1)<|Å 0)<|Ê eY (Â 0)<|Ê ß (Â 1)<|Å 1) (λs=>pt<|rt s W) (λs=>.int<|C.fdiv (rt s W).2*(rt s W).1) (λU=>∃a,U=[.sh<|.int C,a]) L [.sh<|.int C,.no] [] ⟨_,rfl⟩ (by simp;lia) (by
  rintro s hm U ⟨a,rfl⟩;have f1:=(QX (s:=s) hW).1;obtain⟨g1,g2⟩:=X_ (hL s hm).1 UZ;have hf:kr C (rt s W).2=true:=yR (by lia) (by lia);have hm:Ě (rt s W).1 (C.fdiv (rt s W).2)=true:=E0 (by lia) (ř (nP LQ)<|by decide);generalize rt s W=R at*;exact⟨[.sh<|.int C,.sh<|pt R],_,[.sh<|.int C,.sh<|pt R],rfl,rfl,by simp[pt,hf,hm,dP],_,rfl⟩)
 rw[bq]at c3;have em:(L.map λs=>PV.int<|C.fdiv (rt s W).2*(rt s W).1)=(L.map λs=>C.fdiv (rt s W).2*(rt s W).1).map .int:=by rw[Ğ];rfl
 rw[em]at c3;have yl:∀s∈L,C.fdiv (rt s W).2*(rt s W).1*W=C*s:=λs hm=>Z2Z hW<|hdv s hm;have jR:(L.map λs=>C.fdiv (rt s W).2*(rt s W).1).sum=C:=by have:=Fr.ZN (f:=λs=>C.fdiv (rt s W).2*(rt s W).1) (g:=λs=>s) L yl;rw[List.map_id',h1]at this;exact AS hW this
 have X3:∀x∈L.map (λs=>C.fdiv (rt s W).2*(rt s W).1),bits x<=100400:=by intro x hx;obtain⟨s,hm,rfl⟩:=Đ.mp hx;obtain⟨g1,g2⟩:=X_ (hL s hm).1 UZ;exact ř (intBits_mul_le (nP LQ) g1) (by decide)
 have YG:∀j,j<2->((å S.length).map λk=>(L.map λs=>C.fdiv (rt s W).2*(rt s W).1).getD k 0*ax j (Hu.at_ S k)).sum=C*ax j p:=by
  intro j hj;have h:=Fr.ZN (W:=W) (C:=C) (f:=λk=>(L.map λs=>C.fdiv (rt s W).2*(rt s W).1).getD k 0*ax j (Hu.at_ S k)) (g:=λk=>L.getD k 0*ax j (Hu.at_ S k)) (å S.length) (λk hk=>by
   have LR:k<L.length:=by rw[hl];exact Ϝ.mp hk
   have e1:(L.map λs=>C.fdiv (rt s W).2*(rt s W).1).getD k 0=C.fdiv (rt L[k] W).2*(rt L[k] W).1:=by rw[Ϡ,ŗ,ũ LR];rfl
   have e2:L.getD k 0=L[k]:=by rw[Ϡ,ũ LR];rfl
   show(L.map λs=>C.fdiv (rt s W).2*(rt s W).1).getD k 0*ax j (Hu.at_ S k)*W=C*(L.getD k 0*ax j (Hu.at_ S k));rw[e1,e2];have:=yl L[k] (Ū LR)
   calc C.fdiv (rt L[k] W).2*(rt L[k] W).1*ax j (Hu.at_ S k)*W=(C.fdiv (rt L[k] W).2*(rt L[k] W).1*W)*ax j (Hu.at_ S k):=by rw[bj,dP (ax j _) W,<-bj]
    _=C*L[k]*ax j (Hu.at_ S k):=by rw[this]
    _=C*(L[k]*ax j (Hu.at_ S k)):=by rw[bj])
  have hd:=Fr.WC L<|λk=>ax j<|Hu.at_ S k;rw[hx j hj,hl]at hd;rw[<-hd]at h;refine AS hW<|h.trans ?_;rw[bj,dP W]
 have t0:=X2 (j:=0) (by decide) (H:=L.map λs=>C.fdiv (rt s W).2*(rt s W).1) (by simpa using hl) hn X3 LQ hS hp (YG 0<|by decide) (.sh<|.lst<|L.map λs=>pt<|rt s W) s4;have t1:=X2 (j:=1) (by decide) (H:=L.map λs=>C.fdiv (rt s W).2*(rt s W).1) (by simpa using hl) hn X3 LQ hS hp (YG 1<|by decide) (.sh<|.lst<|L.map λs=>pt<|rt s W) s4;have OZ:tE [.lst<|(L.map λs=>C.fdiv (rt s W).2*(rt s W).1).map .int]=some (.int C):=by simp only[eB,fV,re,jR]
 have FL:aa [.lst<|L.map λs=>pt<|rt s W]=some (.int S.length):=by simp[hl]
 have zI:aa [.lst<|S.map pt]=some (.int S.length):=by simp
 have LO:Ϛ [.int 2]=some [.int 0,.int 1]:=rfl;generalize (L.map λs=>C.fdiv (rt s W).2*(rt s W).1).map PV.int=Do,L.map (λs=>pt<|rt s W)=V,S.map pt=SP,pt p=Q at*;have t0':aq [.sh<|.lst V,.sh<|.lst SP,.sh Q,.sh<|.int C,s4,.ow Do,.sh<|.int 0]=_:=t0;have t1':aq [.sh<|.lst V,.sh<|.lst SP,.sh Q,.sh<|.int C,s4,.ow Do,.sh<|.int 1]=_:=t1;simp[bh,kb,Ù,kA,-oC,FL,zI,e,c3,OZ,-eB,LO,ĺ,t0',t1']
def Z3F{S:List Hu.Pt}{p:Hu.Pt}{l:Hu.Ln}(hl:FP l)(h1:∀s∈S,Hu.hd l s=true)(h2:Hu.hd l p=false)(hn:S.length<=100):eL [.sh<|gj l,.sh<|.lst<|S.map pt,.sh<|pt p]=.ret (.sh<|.bl true):=by
 obtain⟨a1,a2,a3,a4⟩:=hl;have m1:∀x,Ě l.1 x=true:=λx=>œ (by lia) (by lia);have m2:∀x,Ě l.2.1 x=true:=λx=>œ (by lia) (by lia);have c1:=ē (g:=gT 2<|ï (gN 3)<|ï (gN 4) ϒ) (mt:=Ĕ) (me:=Ê eO (Ý<|Ą ü (Ê ó (Â 1)<|Â 3)<|Ê ó (Â 2)<|Â 4)<|Â 0) pt (λ_=>.bl true) (λU=>∃a b,U=[.sh<|.int l.2.2,.sh<|.int l.1,.sh<|.int l.2.1,a,b]) S [.sh<|.int l.2.2,.sh<|.int l.1,.sh<|.int l.2.1,.no,.no] [] ⟨_,_,rfl⟩ (by simp;lia) (by
  rintro s hm U ⟨a,b,rfl⟩;have hh:=h1 s hm;unfold Hu.hd at hh;rw[decide_eq_true_eq]at hh;exact⟨[.sh<|.int l.2.2,.sh<|.int l.1,.sh<|.int l.2.1,.sh<|.int s.1,.sh<|.int s.2],_,[.sh<|.int l.2.2,.sh<|.int l.1,.sh<|.int l.2.1,.sh<|.int s.1,.sh<|.int s.2],by simp[pt],rfl,by simp[m1,m2,hh],_,_,rfl⟩)
 rw[bq]at c1;have c2:=ZS<|S.map λ_=>true;have c2':(S.map λ_=>true).all id=true:=by simp
 rw[c2',Ğ]at c2;change kD [.lst<|S.map λ_=>PV.bl true]=_ at c2;unfold Hu.hd at h2;rw[decide_eq_false_iff_not]at h2;have h3:l.2.2<l.1*p.1+l.2.1*p.2:=by lia
 generalize (S.map λ_=>PV.bl true)=bs,S.map pt=SP at*;obtain⟨x,y,z⟩:=l;dsimp only at*;simp[eL,kP,Ù,gj,pt,kA,Ģ,XZ,m1,m2,h3,c1,c2,WO]
def Z4v{S:List Hu.Pt}(hS:∀p∈S,Sm p){p:Hu.Pt}(hp:Sm p):KW (Hu.Zj S p).1:=by
 have yy:∀i,i<S.length->Sm (Hu.at_ S i):=λi h=>hS _<|Hu.ZQ h;unfold Hu.Zj;cases e3:Hu.Ob S p with
 |some r=>
  obtain⟨⟨i,j,k⟩,hm,hr⟩:=qR e3;obtain⟨h1,h2,h3⟩:=Hu.Zf.mp hm;split at hr
  ·cases hr;exact Xf (yy i<|by lia) (yy j<|by lia) (yy k h3) hp
  ·cases hr
 |none=>
  cases e2:Hu.Qp S p with
  |some r=>
   obtain⟨⟨i,j⟩,hm,hr⟩:=qR e2;obtain⟨h1,h2⟩:=Hu.Zz.mp hm;split at hr
   ·cases hr;exact Xg (yy i<|by lia) (yy j h2) hp
   ·cases hr
  |none=>exact⟨by simp,by simp⟩
theorem X4{α β:Type}:∀{l:List α}{m:List β},l.length=m.length->(l.zip m).map (·.2)=m
 |[],[],_=>rfl|_::l,_::m,h=>by simp[X4 (l:=l) (m:=m)<|by simpa using h]|[],_::_,h=>by simp at h|_::_,[],h=>by simp at h
theorem ZO{α β:Type}:∀{l:List α}{m:List β},l.length=m.length->(l.zip m).map (·.1)=l
 |[],[],_=>rfl|_::l,_::m,h=>by simp[ZO (l:=l) (m:=m)<|by simpa using h]|[],_::_,h=>by simp at h|_::_,[],h=>by simp at h
def Z5G{S:List Hu.Pt}(h0:S≠[])(hS:∀p∈S,Sm p)(hn:S.length<=100){p:Hu.Pt}(hp:Sm p)(e:Hu.Zs S p=none):bh [.sh<|.lst<|HE S<|Hu.Zj S p,.sh<|.lst<|S.map pt,.sh<|pt p]=.ret (.sh<|.bl true):=by
 have hg:=Hu.Z2o h0 e;have Q0:=Z4v hS hp;obtain⟨b1,b2⟩:=Q0.sum;have hz:∀x∈(Hu.Zj S p).1.zip (Hu.Zj S p).2,x.2<(Ù S.length (0:Int)).length:=λx hx=>by rw[vT];exact hg.lt _ (nk hx).2
 have hz0:∀x∈(Hu.Zj S p).1.zip (Hu.Zj S p).2,(Ù S.length (0:Int)).getD x.2 0=0:=λx hx=>by rw[Ϡ,gt];split<;>rfl
 have hnd:(((Hu.Zj S p).1.zip (Hu.Zj S p).2).map (·.2)).Nodup:=by rw[X4 hg.len];exact hg.nd
 have FZ:∀f,Fr.df (Fr.lay (Ù S.length 0)<|(Hu.Zj S p).1.zip (Hu.Zj S p).2) f=(((Hu.Zj S p).1.zip (Hu.Zj S p).2).map λx=>x.1*f x.2).sum:=λf=>by rw[Fr.Wz _ _ f hnd hz hz0,Fr.Z3Y];lia
 exact Z32 (S:=S) (p:=p) (L:=Fr.lay (Ù S.length 0)<|(Hu.Zj S p).1.zip (Hu.Zj S p).2) (W:=(Hu.Zj S p).1.sum) hg.sum (ZD b1 b2) (λs hm=>by
  rcases Fr.WA _ _ _ hm with q|q
  ·have:s=0:=(List.mem_replicate.mp q).2;subst this;exact⟨ZD (by decide) (by decide),by simp⟩
  ·rw[ZO hg.len]at q;have:=Q0.2 s q;exact⟨ZD (by lia) (by lia),hg.sign s q⟩) (by rw[Fr.Wy,vT]) hn hS hp (by
   rw[<-Fr.WB,FZ];simp only[vK];rw[ZO hg.len]) (by
   intro j hj;rw[FZ];have h:j=0\/j=1:=by lia
   rcases h with rfl|rfl
   ·exact hg.x
   ·exact hg.y)
def Z5H:ŉ (.str "in") (.str "in")=some (.bl true):=by rw[İ (by decide+kernel)<|by decide+kernel];rfl
def Z5I:ŉ (.str "out") (.str "in")=some (.bl false):=by rw[İ (by decide+kernel) (by decide+kernel),decide_eq_false<|by decide+kernel]
def Z5J:ŉ (.str "out") (.str "out")=some (.bl true):=by rw[İ (by decide+kernel)<|by decide+kernel];rfl
def X5{t:Th}(hg:Z0 t.1 t.2=true):ŕ [.sh<|.str t.1,.sh<|.lst<|t.2.map .int]=.ret (.sh<|pM t):=by rw[WS (QL hg)<|.inl rfl,if_pos hg];rfl
def Z58{t:Th}(hg:Z0 t.1 t.2=true){r:P3}(hr:RB r){s:Hu.Pt}(hs:PB (qv s)):cH [.sh<|gk t,.sh<|pt s,.sh<|c3 r]=.ret (.sh<|.bl<|kf t s r):=by
 obtain⟨g1,g2,g3⟩:=ZZ hg;have e1:=Z3E hg hr;have e2:=X5 hg;have e3:fO [.sh<|pM t,.sh<|pt s,.sh<|c3 r]=_:=Xh hg hr hs;have hS:∀q∈(Z6 t.1 t.2).map (eX r),Sm q:=λq hq=>by obtain⟨z,hz,rfl⟩:=Đ.mp hq;exact Oe hr<|g3 z hz
 have hn:((Z6 t.1 t.2).map (eX r)).length<=100:=by simp;lia
 have h0:(Z6 t.1 t.2).map (eX r)≠[]:=by simpa using g2
 have e4:PV.tup [.int<|2*r.2.2*s.1,.int<|2*r.2.2*s.2]=pt (eX r<|qv s):=by unfold pt eX qv;simp only[Int.mul_zero,Int.add_zero,dP 2 r.2.2,bj]
 obtain⟨a1,a2,a3,a4,a5,a6⟩:=hr;have m1:∀x,Ě (2*r.2.2) x=true:=λx=>œ (by lia) (by lia);have m0:Ě 2 r.2.2=true:=œ (by lia) (by lia);unfold LG at e3;unfold kf Of;have ew:gk t=.lst (.str t.1::t.2.map .int):=rfl;have sp:=Oe (r:=r) ⟨a1,a2,a3,a4,a5,a6⟩ hs;cases e:Hu.Zs ((Z6 t.1 t.2).map (eX r)) (eX r<|qv s)with
 |none=>have e5:=Z5G h0 hS hn sp e;rw[e]at e3;generalize HE ((Z6 t.1 t.2).map (eX r)) (Hu.Zj ((Z6 t.1 t.2).map (eX r))<|eX r<|qv s)=L,((Z6 t.1 t.2).map (eX r)).map pt=Z,pt (eX r<|qv s)=Q,pM t=TV,t.2.map PV.int=XS at*;rw[ew]at e1⊢;obtain⟨a,b⟩:=s;obtain⟨x,y,z⟩:=r;simp only[pt,c3]at*;simp[cH,jP,Ù,m0,m1,e4,ZH,e2,e3,kA,Z5H,e1,e5]|some l=>obtain⟨h1,h2⟩:=Hu.Z2l e;have e5:=Z3F (Uo h1 hS) (λs hm=>Hu.Z1X h1 hm) h2 hn;rw[e]at e3;dsimp only at e3;generalize gj l=L,((Z6 t.1 t.2).map (eX r)).map pt=Z,pt (eX r<|qv s)=Q,pM t=TV,t.2.map PV.int=XS at*;rw[ew]at e1⊢;obtain⟨a,b⟩:=s;obtain⟨x,y,z⟩:=r;simp only[pt,c3]at*;simp[cH,jP,Ù,m0,m1,e4,ZH,e2,e3,kA,Z5I,Z5J,e1,e5]
theorem QY:∀l:List Bool,ϻ (l.map .bl)=true
 |[]=>by unfold ϻ;rfl|b::l=>by rw[á];unfold ϻ;rw[QY l,show ŭ (.bl b)=true by unfold ŭ;rfl];rfl
def X6(b:Bool):aE (.bl b) (.bl true)=b:=by unfold aE;cases b<;>rfl
def X7(b:Bool):decide (qh (.bl b)<=60)=true:=by unfold qh;rfl
def Z59:decide (qh .non<=60)=true:=by unfold qh;rfl
def Z5a(l:List Bool):Cf .non (.lst<|l.map .bl)=some (.bl false):=by
 have a:((l.map PV.bl).any λy=>aE y .non)=false:=by rw[nj];intro y hy;obtain⟨z,_,rfl⟩:=Đ.mp hy;intro q;unfold aE at q;cases q
 show(if(ŭ .non&&ϻ (l.map PV.bl)&&decide (qh .non<=60))=true then some (PV.bl<|if false=true then _ else(l.map PV.bl).any λy=>aE y .non)else none)=_;rw[QY,a,Z59,show ŭ .non=true by unfold ŭ;rfl];rfl
def Z5b(l:List Bool):((l.map PV.bl).any λy=>aE y<|.bl true)=l.any id:=by
 rw[List.any_map];congr 1
 funext b
 exact X6 b
def Z5K(l:List Bool):Cf (.bl true) (.lst<|l.map .bl)=some (.bl<|l.any id):=by show(if(ŭ (.bl true)&&ϻ (l.map PV.bl)&&decide (qh (.bl true)<=60))=true then some (PV.bl<|if false=true then _ else(l.map PV.bl).any λy=>aE y<|.bl true)else none)=_;rw[QY,Z5b,X7,show ŭ (.bl true)=true by unfold ŭ;rfl];rfl
def Z5L(l:List Bool):sy (.lst<|l.map .bl) [.bl true]=(l.findIdx? id).map λj=>.int (j:Nat):=by show(if(ŭ (.bl true)&&ϻ (l.map PV.bl)&&decide (qh (.bl true)<=60))=true then((l.map PV.bl).findIdx? λy=>aE y<|.bl true).map λ(j:Nat)=>PV.int (j:Nat)else none)=_;rw[QY,X7,show ŭ (.bl true)=true by unfold ŭ;rfl,wb];show(l.findIdx? λy=>aE (.bl y)<|.bl true).map _=_;rw[show(λy=>aE (.bl y)<|.bl true)=id from funext X6]
def neb(b:Bool):ϲ (.bl b) (.bl b)=some (.bl false):=by cases b<;>rfl
def X8(T:List Th)(p:Th->Bool):((å T.length).filter λi=>p<|T.getD i FS).head?=(T.map p).findIdx? id:=by
 rw[List.head?_filter];apply Option.ext;intro i;rw[List.find?_range_eq_some,qO];constructor
 ·rintro ⟨h1,h2,h3⟩;have h2:=Ϝ.mp h2;refine⟨by simpa using h2,by simpa[h2]using h1,λj hj=>?_⟩;have:=h3 j hj;simpa[show j<T.length by lia]using this
 ·rintro ⟨h1,h2,h3⟩;have qy:i<T.length:=by simpa using h1
  refine⟨by simpa[qy]using h2,Ϝ.mpr qy,λj hj=>?_⟩;have:=h3 j hj;simpa[show j<T.length by lia]using this
def Z4w{w k:Nat}{T:List Th}(hT:∀t∈T,Z0 t.1 t.2=true)(hl:T.length<=100){r:P3}(hr:RB r)(hk:k<1000):ť [.bw<|T.map gk,.sh<|pt<|ff w k,.sh<|c3 r]=.ret (.sh<|sV<|Zu w T k<|some r):=by
 have hp:PB (qv<|ff w k):=Z4N (n:=0) hk;have c1:=ē (g:=gN 2) (mt:=Ĕ) (me:=Ý<|à cH<|Í 2<|Í 0<|Í 1 Ú) gk (λt=>.bl<|kf t (ff w k) r) (λU=>∃a,U=[.sh<|pt<|ff w k,.sh<|c3 r,a]) T [.sh<|pt<|ff w k,.sh<|c3 r,.no] [] ⟨_,rfl⟩ (by simp;lia) (by
  rintro t ht U ⟨a,rfl⟩;have e:=Z58 (hT t ht) hr hp;generalize pt (ff w k)=P,c3 r=R,hW:gk t=V at*;exact⟨[.sh P,.sh R,.sh V],_,[.sh P,.sh R,.sh V],by simp[hW],rfl,by simp[e],_,rfl⟩)
 rw[bq]at c1;have em:(T.map λt=>PV.bl<|kf t (ff w k) r)=(T.map λt=>kf t (ff w k) r).map .bl:=by rw[Ğ];rfl
 rw[em]at c1;obtain⟨U',lp,a,b,rfl⟩:=tw (g:=gN 4) (mb:=cx) (items:=(å T.length).map λ(i:Nat)=>PV.int (i:Int)) (U:=[.bw<|T.map gk,.sh<|pt<|ff w k,.sh<|c3 r,.ow<|(T.map λt=>kf t (ff w k) r).map .bl,.no,.no])
  (λ_ U=>∃a b,U=[.bw<|T.map gk,.sh<|pt<|ff w k,.sh<|c3 r,.ow<|(T.map λt=>kf t (ff w k) r).map .bl,a,b]) ⟨_,_,rfl⟩ (by
  rintro i p U hi ⟨a,b,rfl⟩;obtain⟨zJ,rfl⟩:i<T.length/\p=.int i:=by
   rw[ŗ]at hi;by_cases z:i<T.length
   ·simp[z]at hi;exact⟨z,hi.symm⟩
   ·simp[z]at hi
  have hx:(T.map gk)[i]?=some (.lst (.str T[i].1::T[i].2.map .int)):=by simp[zJ];rfl
  have hb:((T.map λt=>kf t (ff w k) r).map PV.bl)[i]?=some (.bl<|kf T[i] (ff w k) r):=by simp[zJ]
  have e1:=X5<|hT _<|Ū zJ;have e2:iS [.sh<|pM T[i],.sh<|pt<|ff w k,.sh<|c3 r]=.ret (.sh<|.bl<|kf T[i] (ff w k) r):=Z2H (hT _<|Ū zJ) hr hp;generalize pt (ff w k)=P,c3 r=R,T.map gk=TW,((T.map λt=>kf t (ff w k) r).map PV.bl)=BL,kf T[i] (ff w k) r=b,pM T[i]=TV,T[i].2.map PV.int=XS,T[i].1=N at*;refine⟨_,[.bw TW,.sh P,.sh R,.ow BL,.sh<|.int i,.sh<|.bl b],rfl,?_,_,_,rfl⟩;simp[cx,hx,hb,ZH,e1,e2,kA,neb])
 have zI:(T.map gk).length=T.length:=by simp
 have hl3:(T.map gk).length<=16777216:=by lia
 have rg:Ϛ [.int ((T.map gk).length:Int)]=some ((å T.length).map λ(i:Nat)=>PV.int (i:Int)):=by rw[zI];exact Zt (n:=T.length) (by lia)
 have i1:=Z5a<|T.map λt=>kf t (ff w k) r;have i2:=Z5K<|T.map λt=>kf t (ff w k) r;have i3:=Z5L<|T.map λt=>kf t (ff w k) r;have ix:=X8 T λt=>kf t (ff w k) r;change (yj w T r k).head?=_ at ix;have ds:=XT;have hz:(T.map λt=>kf t (ff w k) r).length<=100:=by simpa using hl
 unfold Zu;dsimp only;rw[ix];generalize pt (ff w k)=P,c3 r=R,T.map gk=TW,(T.map λt=>kf t (ff w k) r)=BB,((å T.length).map λ(i:Nat)=>PV.int (i:Int))=RG at*;cases q:BB.findIdx? id with
 |none=>
  have:BB.any id=false:=by rw[nj];intro x hx;have:=A0.mp q x hx;simpa using this
  rw[this]at i2;generalize BB.map PV.bl=BL at*;simp[ť,cy,Ù,mK,qk,c1,i1,i2,rg,lp,ds]
 |some j=>rw[q]at i3;obtain⟨h1,h2,_⟩:=qO.mp q;have:BB.any id=true:=wf.mpr ⟨_,Ū h1,h2⟩;rw[this]at i2;have st:=Zi (Zm (j:=j)<|by lia);change fY [.int j]=some (sV<|nT j)at st;generalize BB.map PV.bl=BL at*;simp[ť,cy,Ù,mK,qk,c1,i1,i2,i3,rg,lp,st]
def Z5c{w h k:Nat}(p:Nat->Bool)(hw:0<w)(hk:k<w*h):((kR w h p).map sV)[k/w]?=some (sV<|Zo w p<|k/w)/\(Zo w p<|k/w)[k%w]?=some (sg<|p k):=by
 have h1:=nC k hw;have h2:=(LC (k:=k) (h:=h) hw).mpr hk;refine⟨by unfold kR;simp[h2],?_⟩;unfold Zo;have e:k/w*w+k%w=k:=by rw[q_];exact wp k w
 simp[h1,e]
def Z5d{a b:List Nat}(ha:a.length<=10000)(hb:b.length<=10000):ü (sV a) (sV b)=some (.sh<|sV<|a++b):=by
 have l2:(S a).length<=10000:=by rw[ZC];exact ha
 have l3:(S b).length<=10000:=by rw[ZC];exact hb
 unfold sV ü;simp only;rw[if_pos<|by lia];congr 3;exact jj (by simp[Str.cps_append])
def Z5e{j:Nat}(h:j<=100000):zF (nT (j:Int)):=λc hc=>by have:=(ZI<|Zm h).2 c hc;lia
def eqF{F:List Nat}(h:zF F):ŉ (sV F) (.str "-")=some (.bl<|decide<|F=[45]):=by have:=İ h.ok (show ĕ (S [45])=true from zF.ok (by intro c hc;simp at hc;lia));rw[show Æ "-"=S [45] by decide+kernel];show ŉ (.str<|S F) (.str<|S [45])=_;rw[this];congr 2;exact decide_eq_decide.mpr ⟨λe=>by simpa using congrArg (λz:Str=>z.cps.toList) e,λe=>by rw[e]⟩
def X9{F:List Nat}(h:zF F):ϲ (sV F) (sV F)=some (.bl false):=by have:=Fg h.ok h.ok;rw[decide_eq_true rfl]at this;exact this
def Z5f{w h:Nat}(p:Nat->Bool):∀y∈kR w h p,47∉y:=λy hy z=>by obtain⟨q,_,rfl⟩:=Đ.mp hy;obtain⟨x,_,e⟩:=Đ.mp z;unfold sg at e;split at e<;>lia
def Z4x{w h:Nat}(hw:w<=60)(hh:h<=1000)(p:Nat->Bool):(ţ [47] (kR w h p)).length<=61000:=by
 have:=QO (c:=47) (kR w h p) 60 (λy hy=>by obtain⟨q,_,rfl⟩:=Đ.mp hy;rw[QU];exact hw);have l:(kR w h p).length=h:=by unfold kR;simp
 rw[l]at this;lia
def Z5g{j p q:Nat}(hj:j<=1000)(hp:p<=1000)(hq:q<=1000):ě [.sh<|.lst [.str "who",.str "day",.int j,.int p,.int q]]=.ret (.sh<|sV<|QW (wC "day") j p q):=
 UR (ws:=[(.str "who",wC "who"),(.str "day",wC "day"),(.int j,nT j),(.int p,nT p),(.int q,nT q)]) (uH (ZX _)<|uH (ZX _)<|uH (Zi<|Zm<|by lia)<|uH (Zi<|Zm<|by lia)<|uH (Zi<|Zm<|by lia) Ol) (uH QV<|uH QV<|uH (KZ hj)<|uH (KZ hp)<|uH (KZ hq) Ol) (by simp)
theorem Z4y{w k:Nat}{T:List Th}(hl:T.length<=100):∀o,zF<|Zu w T k o
 |none=>λc hc=>by
  have h:(wC "night").all (λc=>decide<|33<=c/\c<256)=true:=by decide+kernel
  have:=bp.mp h c hc;simp at this;lia
 |some r=>by
  unfold Zu;dsimp only;cases q:(yj w T r k).head? with
  |none=>exact λc hc=>by simp at hc;lia
  |some n=>exact Z5e (by have:=XU q;lia)
def Z3G{w k:Nat}{T:List Th}(o:Option P3):decide (Zu w T k o=[45])=!HD w T o k:=by
 cases o with
 |none=>show decide (wC "night"=[45])=false;decide+kernel|some r=>
  have ix:=X8 T λt=>kf t (ff w k) r;change (yj w T r k).head?=_ at ix;show decide ((match(yj w T r k).head? with|none=>[45]|some n=>nT (n:Int))=[45])=!(T.any λt=>kf t (ff w k) r);cases q:(yj w T r k).head? with
  |none=>
   rw[q]at ix;have:(T.any λt=>kf t (ff w k) r)=false:=by rw[nj];intro x hx;have:=A0.mp ix.symm _<|cK hx;simpa using this
   rw[this];rfl
  |some n=>
   rw[q]at ix;obtain⟨h1,h2,_⟩:=qO.mp ix.symm;have:(T.any λt=>kf t (ff w k) r)=true:=by
    have h3:n<T.length:=by simpa using h1
    exact wf.mpr ⟨T[n],Ū h3,by simpa using h2⟩
   rw[this];refine decide_eq_false λe=>?_;change nT (n:Int)=[45]at e;rw[QC]at e;have:=QD (m:=n) (c:=45) (by rw[e];simp);lia
def Z3H(j:Nat):Om (wC "day") j=wC "dark day "++nT (j:Int):=by
 have:wC "dark day "=wC "dark"++[32]++wC "day"++[32]:=by decide+kernel
 rw[this];show wC "dark"++[32]++(wC "day"++[32]++nT (j:Int))=_;simp
def jS(os:List (Option P3)):List Dz:=[(wC "day",1,os)]
def Z5h{w h:Nat}{T:List Th}{os:List (Option P3)}(X:Ds w h T (jS os))(hl:T.length<=100){j:Nat}(hj:j<os.length){q p:Nat}(hq:q<h)(hp:p<w)(w1:w<=20)(h1:h<=20)(s8:Ű):∃a,Ľ [.sh<|Zb<|Zk w h T<|jS os,.bw<|T.map gk,.sh<|.tup [.int w,.int h],.sh<|ak os[j],.sh<|.int j,.ow<|(kR w h (kQ w h T os[j]).testBit).map sV,.sh<|.int q,.sh<|.int p,s8]=.ok .nx [.sh<|Zb<|Zk w h T<|jS os,.bw<|T.map gk,.sh<|.tup [.int w,.int h],.sh<|ak os[j],.sh<|.int j,.ow<|(kR w h (kQ w h T os[j]).testBit).map sV,.sh<|.int q,.sh<|.int p,a]:=by
 obtain⟨k,hk⟩:∃k,k=q*w+p:=⟨_,rfl⟩;have km:k%w=p:=by rw[hk,nB,Nat.add_mul_mod_self_right,Nat.mod_eq_of_lt hp]
 have kd:k/w=q:=by rw[hk,nB,Nat.add_mul_div_right _ _ X.y.w0,Nat.div_eq_of_lt hp];lia
 have OT:k<w*h:=(LC X.y.w0).mp (by rw[kd];exact hq);have hk9:k<1000:=by have:=X.y.wh;lia
 obtain⟨r1,r2⟩:=Z5c (kQ w h T os[j]).testBit X.y.w0 OT;rw[km,kd]at r2;rw[kd]at r1;have hb:(kQ w h T os[j]).testBit k=HD w T os[j] k:=by rw[kQ,ZG];simp[OT]
 rw[hb]at r2;have pl:=QU w (kQ w h T os[j]).testBit q;have hc:cw (Zo w (kQ w h T os[j]).testBit q) (some (p:Int)) (some<|(p:Int)+1)=[sg<|HD w T os[j] k]:=by have:=UW (Zo w (kQ w h T os[j]).testBit q) (a:=p) (b:=p+1) (by lia) (by lia);rw[qF]at this;refine this.trans ?_;rw[show p+1-p=1 by lia,List.take_one,List.head?_drop,r2];rfl
 have os9:os.length<=4:=(X.d (wC "day",1,os)<|by simp[jS]).2;have sw:=Z4u X (i:=0) (j:=j) (k:=k) (by simp[jS]) hj OT;rw[km,kd]at sw;change ŷ [.sh<|Zb<|Zk w h T<|jS os,.sh<|sV<|QW (wC "day") j p q]=.ret (.sh<|sV<|Zu w T k os[j])at sw;have jw:=Z5g (j:=j) (p:=p) (q:=q) (by lia) (by lia) (by lia);have np:=Z4y (w:=w) (k:=k) hl os[j];have eF:=eqF np;rw[Z3G]at eF;have nF:=X9 np;have nG:=X9 (F:=[sg<|HD w T os[j] k]) (λc hc=>by rw[kZ.mp hc];unfold sg;split<;>lia);have ln:=Xl (l:=Zo w (kQ w h T os[j]).testBit q) (by lia);rw[pl]at ln;have sl:Lq (sV<|Zo w (kQ w h T os[j]).testBit q) (some (p:Int)) (some<|(p:Int)+1)=some (.sh<|sV [sg<|HD w T os[j] k]):=by show(if(S<|Zo w (kQ w h T os[j]).testBit q).length<=16777216then some (RV.sh<|.str<|S<|cw (Zo w (kQ w h T os[j]).testBit q) _ _)else none)=_;rw[if_pos (by rw[ZC];lia),hc];rfl
 change aa [sV<|Zo w (kQ w h T os[j]).testBit q]=_ at ln;have On:(Æ "say"=Æ "yard")=False:=eq_false (by decide+kernel);have nt:PV.str (Æ "night")=sV (Zu w T k none):=KY _;refine⟨.sh<|sV<|Zu w T k os[j],?_⟩;have e5:=XM;have e6:=XN;have tn:∀o,os[j]=o->(o=none\/∃r,o=some r/\ť [.bw<|T.map gk,.sh<|.tup [.int p,.int q],.sh<|ak o]=.ret (.sh<|sV<|Zu w T k o)):=λo ho=>by
  cases o with
  |none=>exact .inl rfl|some r=>refine .inr ⟨r,rfl,?_⟩;have tk:Zy (some r):=ho▸(X.d (wC "day",1,os)<|by simp[jS]).1.2.2.2.2.2 _ (Ū hj);have:=Z4w (w:=w) (k:=k) X.y.tg hl (UX tk).1 hk9;unfold ff at this;rw[km,kd]at this;exact this
 unfold Zb at*;generalize hO:os[j]=o at*;generalize (kR w h (kQ w h T o).testBit).map sV=RO,sV (Zo w (kQ w h T o).testBit q)=ROW,Zk w h T (jS os)=Yv,T.map gk=TW,sV (QW (wC "day") j p q)=RH at*;rcases tn o rfl with rfl|⟨r,rfl,fd⟩
 ·change ŉ (sV<|Zu w T k none) _=some (.bl false)at eF;change _=some (RV.sh<|sV [35])at sl;change ϲ (sV [35]) (sV [35])=_ at nG;generalize sV (Zu w T k none)=W at*;simp[Ľ,nt,ak,ur,r1,sl,eF,iG,yU,e5,nG,ln,jw,On,sw,nF]
 ·have hn:ur (ak<|some r)=false:=by simp[ak,c3,ur]
  generalize sV (Zu w T k<|some r)=W,ak (some r)=R at*;generalize HD w T (some r) k=b at*;cases b with
  |true=>change _=some (RV.sh<|sV [35])at sl;change ϲ (sV [35]) (sV [35])=_ at nG;simp[Ľ,hn,fd,r1,sl,eF,iG,yU,e5,nG,ln,jw,On,sw,nF]|false=>change _=some (RV.sh<|sV [46])at sl;change ϲ (sV [46]) (sV [46])=_ at nG;simp[Ľ,hn,fd,r1,sl,eF,iG,yU,e6,nG,ln,jw,On,sw,nF]
def Ya{n i:Nat}{p:PV}(h:((å n).map λ(i:Nat)=>PV.int (i:Int))[i]?=some p):i<n/\p=.int i:=by
 rw[ŗ]at h;by_cases hi:i<n
 ·simp[hi]at h;exact⟨hi,h.symm⟩
 ·simp[hi]at h
def Z5i{w h:Nat}{T:List Th}{os:List (Option P3)}(X:Ds w h T (jS os))(hl:T.length<=100){j:Nat}(hj:j<os.length)(w1:w<=20)(h1:h<=20)(h0:0<h):ϗ [.sh<|Zb<|Zk w h T<|jS os,.bw<|T.map gk,.sh<|.tup [.int w,.int h],.sh<|ak os[j],.sh<|.int j]=.ret (.sh<|.bl true):=by
 have os9:os.length<=4:=(X.d (wC "day",1,os)<|by simp[jS]).2;have sd:=Z3D X (i:=0) (j:=j) (by simp[jS]) hj;change ŷ [.sh<|Zb<|Zk w h T<|jS os,.sh<|sV<|Om (wC "day") j]=.ret (.sh<|sV<|ţ [47] (kR w h (kQ w h T os[j]).testBit))at sd;have st:=Zi (Zm (j:=j)<|by lia);have nl:=(QE (Zm (j:=j)<|by lia).1 (Zm (j:=j)<|by lia).2).2;have ad:ü (.str "dark day ") (aR j)=some (.sh<|sV<|Om (wC "day") j):=by rw[Z3H,KY];exact Z5d (by decide+kernel) (by lia)
 have pl:=Z4x (h:=h) (by lia) (by lia) (kQ w h T os[j]).testBit (w:=w);have pe:kR w h (kQ w h T os[j]).testBit≠[]:=by unfold kR;simp;lia
 have sp:=QP (c:=47) (by lia) XQ (l:=ţ [47] (kR w h (kQ w h T os[j]).testBit)) (by lia);rw[Sp.jG 47 _ pe<|Z5f _]at sp;have inner:∀(q:Nat),q<h->∀s7 s8,∃a b,ĺ (gN 7) Ľ ((å w).map λ(i:Nat)=>PV.int (i:Int)) [.sh<|Zb<|Zk w h T<|jS os,.bw<|T.map gk,.sh<|.tup [.int w,.int h],.sh<|ak os[j],.sh<|.int j,.ow<|(kR w h (kQ w h T os[j]).testBit).map sV,.sh<|.int q,s7,s8]=.ok .nx [.sh<|Zb<|Zk w h T<|jS os,.bw<|T.map gk,.sh<|.tup [.int w,.int h],.sh<|ak os[j],.sh<|.int j,.ow<|(kR w h (kQ w h T os[j]).testBit).map sV,.sh<|.int q,a,b]:=λq hq s7 s8=>by
  obtain⟨U',e,a,b,rfl⟩:=tw (g:=gN 7) (mb:=Ľ) (items:=(å w).map λ(i:Nat)=>PV.int (i:Int)) (λ_ U=>∃a b,U=[.sh<|Zb<|Zk w h T<|jS os,.bw<|T.map gk,.sh<|.tup [.int w,.int h],.sh<|ak os[j],.sh<|.int j,.ow<|(kR w h (kQ w h T os[j]).testBit).map sV,.sh<|.int q,a,b]) ⟨s7,s8,rfl⟩ (by
   rintro i p U hi ⟨a,b,rfl⟩;obtain⟨hp,rfl⟩:=Ya hi;obtain⟨c,e⟩:=Z5h X hl hj hq hp w1 h1 b;exact⟨_,_,rfl,e,_,_,rfl⟩)
  exact⟨a,b,e⟩
 have r1:=Zt (n:=w) (by lia);have r2:=Zt (n:=h) (by lia);obtain⟨U',e,a,b,c,rfl⟩:=tw (g:=gN 6) (mb:=cz) (items:=(å h).map λ(i:Nat)=>PV.int (i:Int)) (U:=[.sh<|Zb<|Zk w h T<|jS os,.bw<|T.map gk,.sh<|.tup [.int w,.int h],.sh<|ak os[j],.sh<|.int j,.ow<|(kR w h (kQ w h T os[j]).testBit).map sV,.no,.no,.no]) (λ_ U=>∃a b c,U=[.sh<|Zb<|Zk w h T<|jS os,.bw<|T.map gk,.sh<|.tup [.int w,.int h],.sh<|ak os[j],.sh<|.int j,.ow<|(kR w h (kQ w h T os[j]).testBit).map sV,a,b,c]) ⟨_,_,_,rfl⟩ (by
  rintro i p U hi ⟨a,b,c,rfl⟩;obtain⟨hp,rfl⟩:=Ya hi;obtain⟨u,v,e⟩:=inner i hp b c;refine⟨_,_,rfl,?_,.sh<|.int i,u,v,rfl⟩;generalize Zb (Zk w h T<|jS os)=DV,T.map gk=TW,ak os[j]=O,(kR w h (kQ w h T os[j]).testBit).map sV=RO,((å w).map λ(i:Nat)=>PV.int (i:Int))=RW at*;simp[cz,r1,e])
 have ln:(((kR w h (kQ w h T os[j]).testBit).map sV).length:Int)=h:=by unfold kR;simp
 have ln2:((kR w h (kQ w h T os[j]).testBit).map sV).length<=16777216:=by unfold kR;simp;lia
 have On:(Æ "say"=Æ "yard")=False:=eq_false (by decide+kernel);unfold Zb at*;change fY [.int j]=some (aR j)at st;generalize Zk w h T (jS os)=Yv,T.map gk=TW,ak os[j]=O,(kR w h (kQ w h T os[j]).testBit).map sV=RO,((å h).map λ(i:Nat)=>PV.int (i:Int))=RW,ţ [47] (kR w h (kQ w h T os[j]).testBit)=JL,sV (Om (wC "day") j)=RD,aR (j:Int)=NV at*;change ŷ _=.ret (.sh<|.str<|S JL)at sd;change fX (.str<|S JL) _=_ at sp;simp[ϗ,gi,Ù,st,ad,On,sd,sp,ln,r2,e]
theorem Yb(ns:List Int)(v:Int):∀(ks:List Nat),(∀k∈ks,k<=100)->∀(acc:List PV) (s1:Ű),acc.length+ks.length<=1000->∃os:List (Option P3),Ģ (gN 2) Ĕ (Ý<|à Ϙ<|Û (Ý<|Ą ü (Ý<|à ŝ<|Í 0<|Û (Ý<|Ą ü (Å 5)<|Â 2) Ú)<|Ê eY (Â 1)<|Å 4) Ú) (ks.map λ(i:Nat)=>PV.int (i:Int)) [.sh<|.lst<|ns.map .int,.sh<|.int v,s1] acc=some (acc++os.map ak)/\os.length=ks.length/\∀o∈os,Zy o
 |[],_,acc,s1,_=>⟨[],by simp[Ģ],rfl,by simp⟩|k::ks,hk,acc,s1,hl=>by
  rw[Ę]at hl;obtain⟨p,e0,_⟩:=QT ns<|5+k;obtain⟨o,e1,e2⟩:=Z3w<|p+v/4;obtain⟨os,q1,q2,q3⟩:=Yb ns v ks (λx hx=>hk x<|ð _ hx) (acc++[ak o]) (.sh<|.int k) (by simp;lia);refine⟨o::os,?_,by simp[q2],?_⟩
  ·have hc:acc.length<16777216:=by lia
   rw[á,Ģ,á];generalize ns.map PV.int=L,ak o=O at*;simp[e0,e1,hc];simpa using q1
  ·intro x hx;rcases ö.mp hx with rfl|hx
   ·exact e2
   ·exact q3 x hx
def ZM{x:Int}(h:sm x):Pl x:=⟨by have:=h.1;lia,by have:=h.2;lia⟩
def Z36{t:Th}(h:QR t):Z0 t.1 t.2=true:=by
 rcases h with⟨x,y,z,rfl,hx,hy,hz⟩|⟨x,y,z,a,b,c,d,e,f,rfl,h1,h2,h3,h4,h5,h6,h7,h8,h9⟩|⟨_,_,hg⟩
 ·exact Z5B (ZM hx) (ZM hy) hz
 ·exact Z50 (ZM h1) (ZM h2) (by lia) (ZM h4) (ZM h5) (by lia) (ZM h7) (ZM h8) (by lia)
 ·exact hg
theorem Yc(ns:List Int){w h:Int}(hw:1<=w/\w<=20)(hh:1<=h/\h<=20)(v:Int):∀(ks:List Nat),(∀k∈ks,k<=100)->∀(acc:List PV) (s1:Ű),acc.length+ks.length<=1000->∃T:List Th,Ģ (gN 3) Ĕ (Ý<|à ϋ<|Û (Ý<|Ą ü (Ý<|à ŝ<|Í 2<|Û (Ý<|Ą ü (Å 2)<|Â 3) Ú)<|Â 0)<|Û (Ê ß (Â 1)<|Å 0)<|Û (Ê ß (Â 1)<|Å 1) Ú) (ks.map λ(i:Nat)=>PV.int (i:Int)) [.sh<|.int v,.sh<|.tup [.int w,.int h],.sh<|.lst<|ns.map .int,s1] acc=some (acc++T.map gk)/\T.length=ks.length/\∀t∈T,Z0 t.1 t.2=true
 |[],_,acc,s1,_=>⟨[],by simp[Ģ],rfl,by simp⟩|k::ks,hk,acc,s1,hl=>by
  rw[Ę]at hl;obtain⟨p,e0,_⟩:=QT ns<|2+k;obtain⟨t,e1,e2⟩:=Z5C (p+v) hw hh;obtain⟨T,q1,q2,q3⟩:=Yc ns hw hh v ks (λx hx=>hk x<|ð _ hx) (acc++[gk t]) (.sh<|.int k) (by simp;lia);refine⟨t::T,?_,by simp[q2],?_⟩
  ·have hc:acc.length<16777216:=by lia
   have ew:PV.lst (.str t.1::t.2.map .int)=gk t:=rfl;rw[á,Ģ,á];generalize ns.map PV.int=L at*;obtain⟨W,hW⟩:∃W,PV.str t.1::t.2.map .int=W:=⟨_,rfl⟩;rw[hW]at e1 ew;generalize T.map gk=TT,gk t=V at*;simp[e0,e1,hc,ew];simpa using q1
  ·intro x hx;rcases ö.mp hx with rfl|hx
   ·exact Z36 e2
   ·exact q3 x hx
def Z3I(ns:List Int)(hn:ns.length<=63):vE [.sh<|.lst<|ns.map .int]=.ret (.sh<|.bl true):=by
 obtain⟨v0,k0,g0⟩:=QT ns 0;obtain⟨v1,k1,g1⟩:=QT ns 1;obtain⟨w,hw⟩:∃w:Nat,1+v0%3=w:=⟨(1+v0%3).toNat,by lia⟩;obtain⟨h,hh⟩:∃h:Nat,1+v0/4%3=h:=⟨(1+v0/4%3).toNat,by lia⟩;obtain⟨n,hnn⟩:∃n:Nat,v1%4=n:=⟨(v1%4).toNat,by lia⟩;obtain⟨m,hm⟩:∃m:Nat,1+v1/4%3=m:=⟨(1+v1/4%3).toNat,by lia⟩;have w1:1<=w/\w<=3:=by lia
 have h1:1<=h/\h<=3:=by lia
 have wh:w*h<=9:=bt w1.2 h1.2;obtain⟨T,t1,t2,t3⟩:=Yc ns (w:=w) (h:=h) (by lia) (by lia) v1 (å n) (λk hk=>by have:=Ϝ.mp hk;lia) [] .no (by simp;lia);obtain⟨os,o1,o2,o3⟩:=Yb ns v1 (å m) (λk hk=>by have:=Ϝ.mp hk;lia) [] .no (by simp;lia);rw[bq]at t1 o1;rw[vV]at t2 o2;have dz:∀d∈jS os,ZE d:=λd hd=>by
  rw[kZ.mp hd];exact⟨⟨show 1<=(wC "day").length by decide+kernel,show(wC "day").length<=8 by decide+kernel,by
   have:(wC "day").all (λc=>decide<|97<=c/\c<=122)=true:=by decide+kernel
   intro c hc;simpa using bp.mp this c hc⟩,show(1:Int)<=1 by decide,show(1:Int)<=1000000000 by decide,by show 1<=os.length;lia,by show os.length<=24;lia,o3⟩
 have X:Ds w h T (jS os):=⟨⟨by lia,by lia,by lia,by lia,by lia,t3⟩,by simp[jS],λd hd=>⟨dz d hd,by rw[kZ.mp hd];show os.length<=4;lia⟩,by simp[jS]⟩;have tx:=Z4r (w:=w) (h:=h) (by lia) (by lia) t3 (by lia) (D:=jS os) dz (by simp[jS]);have rd:=Z4n (w:=w) (h:=h) (by lia) (by lia) t3 (by lia) (D:=jS os) dz (by simp[jS]) X.n;have dk:oW [.sh<|sV<|Dg w h T<|jS os]=.ok ["yard"] [Z3 w h T<|(jS os).map zV]:=by generalize sV (Dg w h T<|jS os)=TX,Z3 w h T ((jS os).map zV)=Yv at*;simp[oW,dH,iI,jV,IR.of,Ù,putN,Aq,rd]
 have dv:((jS os).map zV).map pf=[.tup [.str "day",.int 1,.lst<|os.map ak]]:=by show[PV.tup [.str<|S<|wC "day",.int 1,.lst<|os.map ak]]=_;rw[show S (wC "day")=Æ "day"from LI _]
 rw[dv]at tx;have fc:=ē (g:=gN 4) (mt:=Ĕ) (me:=Ý<|à ϗ<|Í 0<|Í 1<|Í 2<|Û (Ê ß (Â 3)<|Â 4)<|Í 4 Ú) (λ(i:Nat)=>PV.int (i:Int)) (λ_=>.bl true) (λU=>∃a,U=[.sh<|Zb<|Zk w h T<|jS os,.bw<|T.map gk,.sh<|.tup [.int w,.int h],.sh<|.lst<|os.map ak,a]) (å os.length) [.sh<|Zb<|Zk w h T<|jS os,.bw<|T.map gk,.sh<|.tup [.int w,.int h],.sh<|.lst<|os.map ak,.no] [] ⟨_,rfl⟩ (by simp;lia) (by
  rintro j hj U ⟨a,rfl⟩;have hj:=Ϝ.mp hj;have e:=Z5i X (by lia) hj (by lia) (by lia) (by lia);have hx:(os.map ak)[j]?=some (ak os[j]):=by simp[hj]
  generalize Zb (Zk w h T<|jS os)=DV,T.map gk=TW,ak os[j]=O,os.map ak=OS at*;exact⟨[.sh DV,.bw TW,.sh<|.tup [.int w,.int h],.sh<|.lst OS,.sh<|.int j],_,[.sh DV,.bw TW,.sh<|.tup [.int w,.int h],.sh<|.lst OS,.sh<|.int j],rfl,rfl,by simp[hx,e],_,rfl⟩)
 rw[bq]at fc;have em:((å os.length).map λ_=>PV.bl true)=((å os.length).map λ_=>true).map .bl:=by rw[Ğ];rfl
 rw[em]at fc;have al:=ZS<|(å os.length).map λ_=>true;rw[show((å os.length).map λ_=>true).all id=true by simp]at al;have r1:=Zt (n:=n) (by lia);have r2:=Zt (n:=m) (by lia);have ol:(os.map ak).length=os.length:=by simp
 have r3:Ϛ [.int ((os.map ak).length:Int)]=some ((å os.length).map λ(i:Nat)=>PV.int (i:Int)):=by rw[ol];exact Zt (by lia)
 have ol2:(os.map ak).length<=16777216:=by lia
 change oW _=.ok ["yard"] [Zk w h T<|jS os]at dk;unfold Zb at fc;generalize ((å os.length).map λ_=>true).map PV.bl=BL,ns.map PV.int=NS,sV (Dg w h T<|jS os)=TX,Zk w h T (jS os)=Yv,T.map gk=TW,os.map ak=OS,((å n).map λ(i:Nat)=>PV.int (i:Int))=RN,((å m).map λ(i:Nat)=>PV.int (i:Int))=RM,((å os.length).map λ(i:Nat)=>PV.int (i:Int))=RO at*;simp[vE,Fx,Ù,k0,k1,hw,hh,hnn,hm,r1,r2,mK,qk,t1,o1,tx,dk,r3,fc,al]
def Z5j{l:lA}{q:ë}{l_:List Str}{XP:(Str->Option Á)->Ñ->Prop}{YP:â->Ñ->Prop}{d:DefRec}{K:gy->Î}(hn:l.most=some 63)(FZ:d.params.defaults=[])
 (hY:∀(w:â) (h:Ñ),YP w h->(K w.params).In h)
 (F:∀(w:â) (mg:Str→Option Á) (fa:À) (h:Ñ),(K w.params).In h→h.Ns ġ mg→mg d.name=some (.ref fa)→
   ∃fd:ĉ,(∀(s:Ä) (u:Á),fC s fd ⟨[u],[]⟩ [("_law_script",u)])/\∀base:Ñ,(K w.params).In base->base.Ns ġ mg->∃cm,bO l.prog w (K w.params) mg base CN 12 fa fd ["_law_script"] (u_ ⟨K w.params,cm⟩ 1 vE)):
 rZ q l_ XP YP l.row.toRowW d [] (λf vs=>rz f vs):=
 P.EV (k:=12) (x:="_law_script") (CX:=CN) (m:=vE) hn FZ ⟨rfl,by decide,by decide⟩ hY F Z3I (λ_ _ _ _ z=>z)
end
end T
open PySem PySem.W PyProof.Rows
set_option maxRecDepth 100000 in
set_option maxHeartbeats 0 in
theorem PySem.Challenge.cw_shadowpost_k81_whole_dark_by_witnesses_holds : PySem.Challenge.rw_shadowpost_k81_whole_dark_by_witnesses.Holds := by
 refine Tp ?_
 k_fill
 refine T.Z5j (l:=PySem.Challenge.rw_shadowpost_k81_whole_dark_by_witnesses) rfl rfl (λw h Y=>by first|exact PySem.W.kIn_of Y|exact PySem.W.km_in_of Y) ?F
 case F=>
  intro w mg fa h KX G Ou;apply T.okL (V:=⟨_,w,Tp.heap_39 w.params,mg,P.cmK<|Tp.heap_39 w.params⟩)
  any_goals first|exact Ou|apply P.TK KX G|apply P.TL KX G|apply P.TM KX G|apply P.TN KX G|apply P.TQ KX G (by (repeat intro _);rfl)|apply P.TR KX G (by (repeat intro _);rfl)|apply P.TU (by (repeat intro _);rfl)|apply P.TY (by (repeat intro _);rfl)|apply P.Ki|apply P.KS
  any_goals first|kernel_rfl|(unfold P.Na L2.eU;kernel_rfl)
  all_goals skip
