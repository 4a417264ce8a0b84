import PyProof.Rows.All
import Wide.FinOn
import KE.KNestM
import KE.KIsAll
import KE.KxText
import KE.KIntText
import KE.KUnpack
import KE.KItem
import KE.BitLaws
import KE.IntBitsLaws
import PyProof.EqAt
import PyProof.EqKinds
import PyProof.TupleCall
import KE.KLam
import KE.KMinKey
import KE.KRevIter
import PySem.Challenge.RW_shadowpost_k83_whole_more_never_lights
set_option Elab.async false
set_option linter.all false
set_option bootstrap.genMatcherCode false
set_option backward.eqns.nonrecursive false
set_option genSizeOf false
set_option compiler.extract_closed false
set_option maxRecDepth 100000
set_option maxHeartbeats 4000000
set_option autoImplicit true
set_option hygiene false in
local macro_rules|`(command|#where)=>do
 let f(s:String)(l:List Nat):=l.mapM λi=>let x:=Lean.mkIdent ((`PySem.W.Fast).str ("tw"++toString ((`Tp).str (s++toString i)).hash));`(theorem $x:ident :True:=trivial)
 return Lean.mkNullNode ((<-f "o_" (List.range' 43 1117))++(<-f "tree_" [47,63,78,93,115,137,159,174,222,303,380,420,476,556,603,625,647,669,689,739,816,894,975,1029,1089,1159])++(<-f "sts_" [49,64,79,94,116,138,160,175,223,304,381,421,477,557,604,626,648,670,690,740,817,895,976,1032,1090])++(<-f "heap_" [39,46,1160])++(<-f "view_" [39])++(<-f "env_" [41])).toArray
#where
theorem PySem.W.Fast.tw15979151235580452033:True:=trivial
theorem PySem.W.Fast.tw13828434123720972564:True:=trivial
set_option maxHeartbeats 0 in
open_top Tp for PySem.Challenge.rw_shadowpost_k83_whole_more_never_lights
noncomputable section
set_option tactic.hygienic false
set_option hygiene false in
local macro_rules|`(∅)=>`(kk X cm)
def Ζ0(_:True:=by kernel_rfl):True:=trivial
def Ζ:=Ζ0._auto_1
def Η0(_:True:=by rfl):True:=trivial
def Η:=Η0._auto_1
def Θ0(_:True:=by exact ĥ rfl):True:=trivial
def Θ:=Θ0._auto_1
def Ι0(_:True:=by decide):True:=trivial
def Ι:=Ι0._auto_1
def Κ0(_:True:=by decide+kernel):True:=trivial
def Κ:=Κ0._auto_1
def Λ0(_:True:=by assumption):True:=trivial
def Λ:=Λ0._auto_1
def Μ0(_:True:=by first|exact .inl rfl|exact .inr rfl|assumption):True:=trivial
def Μ:=Μ0._auto_1
def Ν0(_:True:=by intro _;rfl):True:=trivial
def Ν:=Ν0._auto_1
def Ξ0(_:True:=by exact I_):True:=trivial
def Ξ:=Ξ0._auto_1
def Ο0(_:True:=by exact lA):True:=trivial
def Ο:=Ο0._auto_1
def Ρ0(_:True:=by exact tY<|by kernel_rfl):True:=trivial
def Ρ:=Ρ0._auto_1
def Τ0(_:True:=by simp[lams]):True:=trivial
def Τ:=Τ0._auto_1
def Υ0(_:True:=by with_unfolding_all rfl):True:=trivial
def Υ:=Υ0._auto_1
def Φ0(_:True:=by first|exact .inl rfl|exact .inr rfl):True:=trivial
def Φ:=Φ0._auto_1
open Option renaming some->Α,none->Β
open Bool renaming true->Δ,false->Ε
open Array renaming length_toList->cX
open Bool renaming and_eq_true->þ,false_ne_true->oC,or_false->wK,false_eq_true->rY,eq_iff_iff->jI,or_eq_true->oE
open Char renaming toNat->cY
open Classical renaming choose->BK,byContradiction->BL
open Eq renaming trans->cE
open False renaming elim->ų
open ForInStep renaming yield->mj
open Function renaming comp_def->rZ
open Int renaming natCast_nonneg->wL,fdiv_eq_ediv_of_nonneg->oG,fmod_eq_emod_of_nonneg->r_,le_ediv_iff_mul_le->BM,le_refl->oH,neg_mul_neg->se,mul_nonneg->ŋ,le_total->ia,mul_nonneg_of_nonpos_of_nonpos->sf,mul_neg_of_neg_of_pos->mq,mul_le_mul_of_nonneg_left->si,mul_pos->wM,eq_ofNat_of_zero_le->oI,natCast_add->wN,natCast_mul->ib
open List renaming range->ú,mem_filter->aM,mem_range->aN,filterMap_cons->sj,mem_cons_self->ŀ,mem_cons_of_mem->ð,mem_cons->ù,mem_append->Ŵ,mem_append_left->jJ,getElem?_eq_some_iff->bz,getElem?_set_self->oJ,getElem?_set_ne->jK,mem_filterMap->wO,mem_append_right->ž,size_toArray->Ł,length_cons->Ė,lookup->eG,map_cons->â,length_map->ģ,append_nil->cZ,nodup_cons->fK,of_mem_zip->oK,replicate->ý,length->aa,length_take->sr,getElem?_append_right->ie,getElem?_replicate->ig,getElem?_append_left->Ϫ,getElem?_map->œ,mem_of_getElem?->BO,length_append->ŭ,all_eq_true->fL,lookup_cons->Š,forIn_cons->oM,map_nil->ſ,nil_append->ϊ,append_assoc->my,mem_iff_getElem->jL,getD_eq_getElem?_getD->cF,getElem?_eq_getElem->Ĩ,getElem_mem->ŵ,length_range->wP,take_of_length_le->BP,eq_nil_of_length_eq_zero->BQ,replicate_succ->BR,foldl_cons->eI,map_map->Ĺ,map_congr_left->su,cons_append->c_,mem_singleton->eJ,reverse_cons->mz,drop_eq_getElem_cons->sv,drop_eq_nil_of_le->wQ,getElem?_eq_none->wR,length_eq_zero_iff->oO,contains_cons->wS,getElem?_cons_succ->sx,not_mem_nil->jM,any_cons->ii,length_reverse->BS,getElem?_reverse->BU,map_append->š,append_inj'->wT,getElem?_of_mem->BV,mem_map->Ĉ,nodup_append->wU,range'->fM,drop_drop->oP,range'_succ->oQ,mem_flatMap->sy,mem_map_of_mem->bA,findSome?_eq_none_iff->BW,exists_of_findSome?_eq_some->BX,length_pos_iff->wV,set_cons_succ->sA,set_cons_zero->sB,length_nil->sC,getElem?_cons_zero->BY,flatMap_cons->mB,forall_mem_cons->BZ,sum_cons->sD,range_eq_range'->B_,mem_of_getLast?->B0,getElem_map->wW,map_reverse->wX,zipWith->wY,zipWith_append->B1,getElem?_zipWith->B2,length_zipWith->B3
open List.Pairwise renaming nil->B4
open MonadExcept renaming tryCatch->mD
open Nat renaming lt_of_lt_of_le->Ţ,lt_irrefl->cG,ne_of_lt->Ĕ,le_trans->ţ,le_of_lt->mE,ne_of_gt->da,le_refl->õ,le_of_eq->sE,lt_succ_self->oR,zero_le->bB,lt_succ_of_lt->oS,mul_le_mul->fN,le_succ->mF,add_comm->wZ,lt_or_gt_of_ne->w_,one_mul->xf,testBit_mul_two_pow->B5,pow_le_pow_right->sG,add_mul->oT,mod_eq_sub_div_mul->B6,mul_comm->xg,testBit_lt_two_pow->xh,toDigits->bC,min_eq_left->sI,mul_le_mul_right->B7
open Ne renaming symm->Ť
open OfNat renaming ofNat->ϋ
open Option renaming isSome_iff_exists->oU,map_eq_some_iff->jN,bind_eq_some_iff->sJ,isNone_iff_eq_none->B8
open Option.some renaming inj->Ň
open Or renaming inl->ac,inr->jO
open Prod.mk renaming injEq->xi
open PyProof.Rows renaming AllBare->fO,callWith_type1->jP,envOfC->ň,IntsAre->mG,recsOf->sK,ext_toList->B9,seqObj->fP,boot_abs->sM,boot_divmod->Ca,boot_str->fQ,boot_all->mH,boot_int->xj,boot_list->eK,boot_tuple->Cb,boot_max->xk,boot_min->xl
open PySem renaming Value->Á,World->ã,Program->ï,Addr->À,Heap->Ô,sysModules->oW,Within->xm,mainGlobals->đ,bootBuiltins->fR,Around->ì,Shared->Ä,Scope->û,Model->bE,wpAny->Ð,Expr->Ç,model->Ú,backTo->ü,starEach->Î,Stmt->æ,wpAny_mono->ό,wpAny_execs_nil->mJ,wpAny_execs_cons->xn,swapsWith->ť,assignEach->ϫ,Operator->oX,PassesOwn->oY,wpAny_passesOwn->jQ,pyNext->ij,letOwnedTupleGo->xp,pyIter->jR,wpAny_pure->ď,wpAny_bind->à,rawInt->fT,foldedSetIterable->de,binaryOp->ŉ,compareOp->Ĵ,CmpOp->df,behindInMarks->ik,sizeLine_eq->cH,wpAny_truthy_bool->eL,standAt->fU,holding->cI,getMethod->il,codeAny->eM,attributeBase->dg,recursionLimit->sN,cLine->ύ,FuncData->ą,BindsTo->fV,bindArgs->im,Keyword->Ϭ,NameKind->dh,cellsFrom->Ŕ,mem_of_lookup->jS,Arguments->fW,wpAny_newFunctionEnv_cells->Cc,wpAny_Call_Name_kw->io,typeIs_str->jT,sliceBounds->jU,backToKw->af,keywordEach->ag,call_meets->oZ,Params->ip,callerA->iq,call->sO,codeAny_mono->jV,DictEntry->ir,PyData->aO,wpAny_standAt->mK,wpAny_pyIter_list->jW,wpAny_call->o_,eval->xq,callWith->fX,ExceptHandler->pb,intItems->iu,numAt->di,nums_intItems->xr,IsEnum->eN,codeAny_builtin->sP,wpAny_field->mL,wpAny_setField_rec->pc,wpAny_letGo->mM,wpAny_pyIter_enum->xt,wpAny_holding->iw,wpAny_seqItems->sQ,wpAny_tryCatch->jX,wpAny_updateSeq->sR,plainId_quiet->pd,wpAny_pyIter_revIter->xu,boot_len->İ,Str->ah,evalEach->pe,intText?->mN
open PySem.Around renaming frames_deeper->Cd,under_plainId->xv
open PySem.Builtin renaming bitAnd->dn,bitOr->pf,bitNot->ai
open PySem.Builtin.Builtins renaming bindParams->Ce
open PySem.Builtin.Int renaming intBits->sS
open PySem.Builtin.List renaming listTooLong->Cf,listItems->Cg,listExtendWith->xw,listSameRef->Cj
open PySem.Builtin.Str renaming strSliceIndices->sT,strKind->mO,occurrences->mQ
open PySem.Calls renaming Constant_str->xy,Name_function_global->Ck,spliced_nil->xz,spliced_cons->sU,callWith_builtin->Cm,evalArgs_plain->Cn
open PySem.Data renaming cell->sW
open PySem.F renaming slot_list_append->Ϙ,slot_list_extend->xA,called_enumerate->xB,slot_enumerate_next->sX,entry_enumerate_next->Co,args_enumerate_next_1->Cr,entry_min_loop->xC,plain_min_loop->jY,plainAttrs_list->ώ,type_list_append->ϭ,slot_str_split->fY,entry_str_split->xD,args_str_split_2->xE,plainAttrs_str->ŕ,slot_str_join->bF,type_str_join->bG,slot_str_startswith->Cs,type_str_startswith->Ct,type_str_split->mR,type_list_extend->Cu
open PySem.Heap renaming lt_size->ö,SameBut->iy,get?_push_of_some->Ć,get?_push_size->ĵ,size_push->eO,get?_update_other->Cw
open PySem.Heap.SameBut renaming update->xF
open PySem.NameKind renaming free->dq,cell->jZ
open PySem.Obj renaming mapSeq->fZ
open PySem.PassesOwn renaming leaving->Ķ
open PySem.PyData renaming eqv->ł,strOk->ė,canLay0->xG,canLayAll0->j_,eqvAll->ph
open PySem.Sem renaming wp->ĺ
open PySem.Str renaming empty->iz,length->f_,ofString->È,ext'->iA,cps_append->sY
open PySem.StrLaws renaming subAt_eq->sZ
open PySem.Txt renaming replace->pi
open PySem.Value renaming isStrOf->gc,int->pj,str->mS,bool->bI,bytes->xH,float->xI,ref->Ϯ,type->s_
open PySem.Value.type renaming inj->tq
open PySem.W renaming instObj->ka,Frag->Ï,tabIn->Ů,CodeHd->xJ,lookIn->tu,plainGet->pk,hasDictIn->tw,findIn->Ϗ,handedIn->Cy,plainGet_of->xK,isFn->pq,plainOver->xL,takerIn->xM,makesIn->xN,emptyDict->iB,keepIn->bJ,cellsFrom_some->xO,fnOf->ϯ,codeIn->kb,codeRec_of->Cz,OpenLaw->mV,WalkO->tz,noTabs->tD,kla_obj->pw,envX->xP,kla_fn->xQ,callWith_K->kc,methodCall_KW->xR,nsIn->aP,mg_of->pA
open PySem.W.KIN renaming val_back->CA
open PySem.Walks renaming list->pB
open Sum renaming inl->ke,inr->kf
open ToString renaming toString->ϙ
namespace L2
open PySem PySem.Spec PyProof.Rows
abbrev Key:=Sum Int Str
noncomputable def JO:Key->Á->Bool
 |.inl k,v=>Value.isInt k v|.inr x,v=>gc x v
noncomputable def Uu(w:ã):Key->Int
 |.inl k=>hashInt k|.inr x=>hashStr w x
theorem Ϛ:∀{k:Key}{v:Á},JO k v=Δ->(∃i t,k=ke i/\v=pj i t)\/(∃x t,k=kf x/\v=mS x t)
 |.inl i,v,h=>by obtain⟨t,e⟩:=Value.isInt_shape h;exact .inl ⟨i,t,rfl,e⟩|.inr x,v,h=>by obtain⟨t,e⟩:=Value.isStrOf_shape h;exact .inr ⟨x,t,rfl,e⟩
def KS(a b:Int):decide ((ke a:Key)=ke b)=(a==b):=by
 by_cases e:a=b
 ·subst e;simp
 ·have h:¬(ke a:Key)=ke b:=λq=>e<|Sum.inl.inj q;rw[decide_eq_false h];exact(beq_eq_false_iff_ne.mpr e).symm
def KU(a b:Str):decide ((kf a:Key)=kf b)=decide (a=b):=by
 by_cases e:a=b
 ·subst e;simp
 ·have h:¬(kf a:Key)=kf b:=λq=>e<|Sum.inr.inj q;rw[decide_eq_false h,decide_eq_false e]
def KW(a:Int)(b:Str):decide ((ke a:Key)=kf b)=Ε:=decide_eq_false<|λq=>nomatch q
def KY(a:Str)(b:Int):decide ((kf a:Key)=ke b)=Ε:=decide_eq_false<|λq=>nomatch q
def xS(prog:ï)(w:ã):PySem.KeyKind prog w Key where
 is:=JO
 hash:=Uu w
 inj:=λv a b ha hb=>by
  rcases Ϛ ha with⟨i,t,rfl,rfl⟩|⟨x,t,rfl,rfl⟩
  ·rcases Ϛ hb with⟨j,u,rfl,e⟩|⟨y,u,rfl,e⟩
   ·injection e with m _;rw[m]
   ·exact nomatch e
  ·rcases Ϛ hb with⟨j,u,rfl,e⟩|⟨y,u,rfl,e⟩
   ·exact nomatch e
   ·injection e with m _;rw[m]
 byValue:=λk v h=>by rcases Ϛ h with⟨i,t,rfl,rfl⟩|⟨x,t,rfl,rfl⟩<;>rfl
 pyHash:=λhv h=>by
  rcases Ϛ hv with⟨i,t,rfl,rfl⟩|⟨x,t,rfl,rfl⟩
  ·exact wpAny_pyHash_int h
  ·exact wpAny_pyHash_str h
 eqBool:=λhu hv h=>by
  rcases Ϛ hu with⟨i,t,rfl,rfl⟩|⟨x,t,rfl,rfl⟩
  ·rcases Ϛ hv with⟨j,u,rfl,rfl⟩|⟨y,u,rfl,rfl⟩
   ·rw[KS]at h;exact wpAny_eqBool_int h
   ·rw[KW]at h;exact SeqAt.EqAt.int_str i t y u _ _ _ _ h
  ·rcases Ϛ hv with⟨j,u,rfl,rfl⟩|⟨y,u,rfl,rfl⟩
   ·rw[KY]at h;exact SeqAt.EqAt.str_int x t j u _ _ _ _ h
   ·rw[KU]at h;exact wpAny_eqBool_str h
 «strs» :=fun k x t v h=>by
   rcases Ϛ h with⟨i,u,rfl,e⟩|⟨y,u,rfl,e⟩
   ·exact nomatch e
   ·injection e with m _
    subst m;cases v<;>rfl
inductive V where
 |non|bl (b:Bool)|int (i:Int)|str (x:Str)|HI (b:Array UInt8)|flt (b:UInt64)|ref (a:À)|ty (n:String)
 deriving DecidableEq
def RelV:V->Á->Prop
 |.non,u=>u=Value.none|.bl b,u=>u=bI b|.int i,u=>∃t,u=pj i t|.str x,u=>∃t,u=mS x t|.HI b,u=>∃t,u=xH b t|.flt b,u=>∃t,u=xI b t|.ref a,u=>u=Ϯ a|.ty n,u=>u=s_ n
abbrev Ő:List V->List Á->Prop:=Paired RelV
theorem Ő.length(r:Ő xs a):xs.length=a.length:=Paired.length r
theorem Ő.get:∀{xs:List V}{a:List Á}{i:Nat}{x:V},Ő xs a->xs[i]?=Α x->∃u,a[i]?=Α u/\RelV x u
 |_,_,_,_,.nil,e=>by simp at e|_,_,0,_,.cons r _,e=>by simp at e;subst e;exact⟨_,rfl,r⟩|_,_,i+1,x,.cons _ t,e=>by obtain⟨u,c,b⟩:=Ő.get t (by simpa using e);exact⟨u,by simpa using c,b⟩
theorem Ő.append:∀{xs ys:List V}{a ws:List Á},Ő xs a->Ő ys ws->Ő (xs++ys) (a++ws)
 |_,_,_,_,.nil,s=>s|_,_,_,_,.cons r t,s=>.cons r<|Ő.append t s
theorem Ő.take:∀{xs:List V}{a:List Á} (n:Nat),Ő xs a->Ő (xs.take n) (a.take n)
 |_,_,0,_=>.nil|_,_,_+1,.nil=>.nil|_,_,n+1,.cons r t=>.cons r<|Ő.take n t
theorem Ő.drop:∀{xs:List V}{a:List Á} (n:Nat),Ő xs a->Ő (xs.drop n) (a.drop n)
 |_,_,0,r=>r|_,_,_+1,.nil=>.nil|_,_,n+1,.cons _ t=>Ő.drop n t
def vh:Option V->Option Á->Prop
 |some v,Α u=>RelV v u|none,Β=>True|_,_=>False
def KV{a:Type}:List (a×V)->List (a×Á)->Prop:=Paired λ(p:a×V) (q:a×Á)=>p.1=q.1/\RelV p.2 q.2
noncomputable def kV:Key->V
 |.inl i=>.int i|.inr x=>.str x
inductive HO where
 |lst (xs:List V)
 |tup (xs:List V)
 |dK (bv:List (Key×V))|dT (bv:List (List Key×V))
 |set (S:Int->Bool) (n:Nat)
 |ins (C dx:À) (fs:List (Str×V))
 |own (x:À)
 |xd (fs:List (Str×V))
 |met (f x:À)
 |rng (lo hi:Int)
 |ge (o:Obj) (u:HO)
 |ϸ (q:Str)
 |DO (q:Str)
 |ext (φ:Ô->Prop)
abbrev Hp:=À->Option HO
noncomputable def upd(H:Hp)(a:À)(o:HO):Hp:=λb=>if b=a then Α o else H b
def ā:upd H a o a=Α o:=by unfold upd;rw[if_pos rfl]
def ñ(h:b≠a):upd H a o b=H b:=by unfold upd;rw[if_neg h]
def Ċ{H:Hp}(h:H a=Α o)(h':H b=Β):a≠b:=by intro e;subst e;rw[h]at h';cases h'
section
variable(P:ï)(w:ã)
def fC(H:Hp)(h:Ô)(a:À):HO->Prop
 |.lst d=>d.length<=sizeLine/\∃(m:List Á) (n:Nat),Ő d m/\h.get? a=Α {cls:=.type "list",data:=.seq m.toArray n}|.tup d=>d.length<=sizeLine/\∃m:List Á,Ő d m/\IsTup h a m.toArray|.dK y=>y.length<=sizeLine/\(a==oW)=Ε/\∃I,KV y I/\h.DictOf (xS P w) a I|.dT y=>y.length≤sizeLine∧(a==oW)=Ε∧∃d:List (List Key×À×Á),
     Paired (λ(p:List Key×V) (q:List Key×À×Á)=>p.1=q.1/\H q.2.1=Α (.tup<|p.1.map kV)/\RelV p.2 q.2.2) y d/\
     ∃o L R,h.get? a=Α o/\o.ExactDict/\o.data=.dict L R/\L.toList=d.map (entryOfKey<|tupleKind<|xS P w)/\(d.map (·.1)).Nodup
 |.set S n=>h.SetOf (intKind P w) a S n|.ins C z fs=>H z=Α (.own a)∧fs.length≤1000∧z≠a∧h.get? a=Α (ka C z)∧
     ∃l,h.Ns1 z l/\(∀f,vh (fs.lookup f)<|l f)/\xm l (fs.map (·.1))
 |.own _=>∃o,h.get? a=Α o|.xd fs=>∃l,h.Ns1 a l/\∀f,vh (fs.lookup f)<|l f|.rng O Q=>∃t u v,h.get? a=Α {cls:=.type "range",data:=.fields #[.int O t,.int Q u,.int 1 v]}|.ge o u=>h.get? a=Α o/\fC H h a u|.ϸ q=>∃B:Array Á,h.get? a=Α {cls:=.none,data:=.fields B}/\TriplesOk B.toList/\∀pos N,codeAmong pos B.toList=Α N->∃c,N=.ref c/\H c=Α (.DO q)|.DO q=>h.CodeRec (.ref a) q|.met f x=>h.get? a=Α (PySem.W.methodObj (.ref f)<|.ref x)|.ext A=>A h/\(∃o,h.get? a=Α o)/\∀K J:Ô,A K->(∀o,K.get? a=Α o->J.get? a=Α o)->A J
def oB(H:Hp)(h:Ô):Prop:=∀a o,H a=Α o->fC P w H h a o
end
section
variable{P:ï}{w:ã}{H H':Hp}{h h':Ô}{a:À}{o:HO}
theorem fC.lt(x:fC P w H h a o):a<h.objs.size:=by
 cases o with
 |lst b=>obtain⟨_,_,_,_,e⟩:=x;exact ö e|tup b=>obtain⟨_,_,_,p⟩:=x;exact p.lt|dK i=>obtain⟨_,_,_,_,o,_,_,e,_⟩:=x;exact ö e|dT i=>obtain⟨_,_,_,_,o,_,_,e,_⟩:=x;exact ö e|set S n=>obtain⟨o,_,_,_,e,_⟩:=x;exact ö e|ins C dx fs=>obtain⟨_,_,_,e,_⟩:=x;exact ö e|own y=>obtain⟨_,e⟩:=x;exact ö e|xd fs=>obtain⟨_,⟨_,_,_,e,_⟩,_⟩:=x;exact ö e|rng lo hi=>obtain⟨_,_,_,e⟩:=x;exact ö e|ge ob u=>obtain⟨e,_⟩:=x;exact ö e|ϸ q=>obtain⟨_,e,_⟩:=x;exact ö e|DO q=>obtain⟨c,o,_,_,z,e,_⟩:=x;cases z;exact ö e|met f y=>exact ö<|show h.get? a=Α _ from x|ext φ=>obtain⟨_,⟨_,e⟩,_⟩:=x;exact ö e
theorem Paired.KZ{g e:Type}{F G:g->e->Prop}:∀{d:List g}{c:List e},Paired F d c->(∀a b,F a b->G a b)->Paired G d c
 |_,_,.nil,_=>.nil|_,_,.cons r t,f=>.cons (f _ _ r)<|Paired.KZ t f
def fC.stay(x:fC P w H h a o)(k:∀b u,(b=a\/H b=Α (.own a))->h.get? b=Α u->h'.get? b=Α u)
 (W:∀b,H b=Α (.own a)->H' b=Α (.own a))(U:∀b xs,H b=Α (.tup xs)->H' b=Α (.tup xs))(X:∀b q,H b=Α (.DO q)->H' b=Α (.DO q):=by exact λl l z=>z):fC P w H' h' a o:=by
 induction o with
 |lst xs=>obtain⟨z,m,n,r,e⟩:=x;exact⟨z,m,n,r,k _ _ (.inl rfl) e⟩|tup xs=>obtain⟨z,m,r,g,e,c⟩:=x;exact⟨z,m,r,g,k _ _ (.inl rfl) e,c⟩|dK bv=>obtain⟨z,y,s,r,g,i,j,e,c⟩:=x;exact⟨z,y,s,r,g,i,j,k _ _ (.inl rfl) e,c⟩|dT bv=>obtain⟨z,y,xs,r,g,i,j,e,c⟩:=x;exact⟨z,y,xs,Paired.KZ r λp q z=>⟨z.1,U _ _ z.2.1,z.2.2⟩,g,i,j,k _ _ (.inl rfl) e,c⟩
 |set S n=>obtain⟨g,i,j,t,e,c⟩:=x;exact⟨g,i,j,t,k _ _ (.inl rfl) e,c⟩|ins C dx fs=>obtain⟨d,z,O,e,B,⟨A,i,j,Y,c⟩,r⟩:=x;exact⟨W _ d,z,O,k _ _ (.inl rfl) e,B,⟨A,i,j,k _ _ (.inr d) Y,c⟩,r⟩|own y=>obtain⟨g,e⟩:=x;exact⟨g,k _ _ (.inl rfl) e⟩|xd fs=>obtain⟨B,⟨A,i,j,e,c⟩,r⟩:=x;exact⟨B,⟨A,i,j,k _ _ (.inl rfl) e,c⟩,r⟩|rng lo hi=>obtain⟨t,u,v,e⟩:=x;exact⟨t,u,v,k _ _ (.inl rfl) e⟩|ge g u R=>obtain⟨e,q⟩:=x;exact⟨k _ _ (.inl rfl) e,R q⟩|ϸ q=>obtain⟨N,e,t,r⟩:=x;exact⟨N,k a _ (.inl rfl) e,t,λpos Z z=>let ⟨c,K,J⟩:=r pos Z z;⟨c,K,X c q J⟩⟩
 |DO q=>obtain⟨c,o,s,t,z,e,r⟩:=x;cases z;exact⟨a,o,s,t,rfl,k a _ (.inl rfl) e,r⟩|met f y=>have e:=x;exact k a _ (.inl rfl) e|ext φ=>obtain⟨p,⟨o,e⟩,D⟩:=x;exact⟨D _ _ p λo q=>k _ _ (.inl rfl) q,⟨o,k _ _ (.inl rfl) e⟩,D⟩
theorem oB.lt(x:oB P w H h)(e:H a=Α o):a<h.objs.size:=(x a o e).lt
def oB.fresh(x:oB P w H h)(e:h.objs.size<=a):H a=Β:=by
 cases q:H a with
 |none=>rfl|some u=>exact absurd (Ţ (x.lt q) e)<|cG _
def oB.kept(x:oB P w H h)(k:∀b u,h.get? b=Α u->h'.get? b=Α u):oB P w H h':=λa o e=>
 (x a o e).stay (λb u y q=>k b u q) (λy q=>q) λy y q=>q
def oB.laid(x:oB P w H h)(k:∀b u,h.get? b=Α u->h'.get? b=Α u)(n:h.objs.size<=a)(g:fC P w (upd H a o) h' a o):oB P w (upd H a o) h':=λb u e=>by
 have i:=x.fresh n;by_cases j:b=a
 ·subst j;rw[ā]at e;cases e;exact g
 ·rw[ñ j]at e;exact(x b u e).stay (λc v y q=>k c v q) (λc q=>by rw[ñ<|Ċ q i];exact q) (λc m q=>by rw[ñ<|Ċ q i];exact q) λc m q=>by rw[ñ<|Ċ q i];exact q
end
def Rd(H:Hp)(a:À)(u:HO):Prop:=H a=Α u\/∃o,H a=Α (.ge o u)
def Rd.ok(r:Rd H a u)(x:oB P w H h):fC P w H h a u:=by
 rcases r with r|⟨o,r⟩
 ·exact x a u r
 ·obtain⟨_,q⟩:=x a _ r;exact q
def RU:Option HO->Prop
 |some (.lst _)=>True|some (.dK _)=>True|some (.dT _)=>True|some (.set _ _)=>True|some (.ins _ _ _)=>True|some (.ext _)=>True|some (.xd _)=>True|_=>False
section
variable{P:ï}{w:ã}{H:Hp}{h h':Ô}{x e:À}{o':HO}
def oB.write(ok:oB P w H h)(g:RU (H x))(he:e=x\/H e=Α (.own x))(k:∀b u,b≠e->h.get? b=Α u->h'.get? b=Α u)(C:∃u,h'.get? e=Α u)
 (n:fC P w (upd H x o') h' x o'):oB P w (upd H x o') h':=λb u q=>by
 have p:∀c y,H c=Α (.own y)->c≠x:=λc y r z=>by subst z;rw[r]at g;exact g
 have B:∀c f,H c=Α (.tup f)->c≠x:=λc f r z=>by subst z;rw[r]at g;exact g
 have A:∀c q,H c=Α (.DO q)->c≠x:=λc f r z=>by subst z;rw[r]at g;exact g
 by_cases l:b=x
 ·subst l;rw[ā]at q;cases q;exact n
 ·rw[ñ l]at q;by_cases i:b=e
  ·have o:H b=Α (.own x):=by
    rcases he with z|z
    ·exact absurd (i.trans z) l
    ·rw[i];exact z
   rw[q]at o;cases o;obtain⟨v,t⟩:=C;exact⟨v,by rw[i];exact t⟩
  ·refine(ok b u q).stay (λc v j r=>k c v ?_ r) (λc r=>by rw[ñ<|p c b r];exact r) (λc f r=>by rw[ñ<|B c f r];exact r) λc f r=>by rw[ñ<|A c f r];exact r
   rcases j with rfl|j
   ·exact i
   ·rintro rfl;rcases he with z|z
    ·exact p c b j z
    ·rw[j]at z;cases z;exact l rfl
end
structure Un(fs ex:List À)(H H':Hp)(h h':Ô):Prop where
 keep:∀b o,h.get? b=Α o->H b=Β->b∉fs->b∉ex->h'.get? b=Α o
 slot:∀b o,h.get? b=Α o->H b=Β->b∈fs->b∉ex->∃sl,h'.get? b=Α {o with slots:=sl}
 free:∀b o,h.get? b=Α o->H b=Β->b∉ex->H' b=Β
 there:∀b o,h.get? b=Α o->b∉ex->∃o',h'.get? b=Α o'
 tups:∀b xs,H b=Α (.tup xs)->H' b=Α (.tup xs)
 vi:∀b o u,H b=Α (.ge o u)->H' b=Α (.ge o u)
 rM:∀b q,H b=Α (.ϸ q)->H' b=Α (.ϸ q)
section
variable{fs ex:List À}{H H1:Hp}{h h1 h':Ô}{a x e:À}{o:HO}
def Un.any(u:Un fs ex H H1 h h1){b:À}{ob:Obj}(q:h.get? b=Α ob)(n:H b=Β)(hx:b∉ex):∃sl,h1.get? b=Α {ob with slots:=sl}:=by
 by_cases hb:b∈fs
 ·exact u.slot b ob q n hb hx
 ·exact⟨ob.slots,u.keep b ob q n hb hx⟩
def Un.kept(k:∀b u,h.get? b=Α u->h'.get? b=Α u):Un fs ex H H h h':=
 ⟨λb d q x x x=>k b d q,λb d q x x x=>⟨d.slots,k b d q⟩,λx x x n x=>n,λb d q x=>⟨d,k b d q⟩,λx x q=>q,λx x x q=>q,λx x q=>q⟩
def Un.refl:Un fs ex H H h h:=Un.kept λx x q=>q
def Un.laid(k:∀b u,h.get? b=Α u->h'.get? b=Α u)(j:h.objs.size<=a)(f:H a=Β):Un fs ex H (upd H a o) h h' where
 keep:=λb u q x x x=>k b u q
 slot:=λb u q x x x=>⟨u.slots,k b u q⟩
 free:=λb u q n x=>by rw[ñ<|Ĕ<|Ţ (ö q) j];exact n
 there:=λb u q x=>⟨u,k b u q⟩
 tups:=λb i q=>by rw[ñ<|Ċ q f];exact q
 vi:=λb u i q=>by rw[ñ<|Ċ q f];exact q
 rM:=λb ps q=>by rw[ñ<|Ċ q f];exact q
def Un.write(g:RU (H x))(he:e=x\/H e=Α (.own x))(k:∀b u,b≠e->h.get? b=Α u->h'.get? b=Α u)(s:∃u,h'.get? e=Α u):Un fs ex H (upd H x o) h h':=by
 have l:∀b,H b=Β->b≠x:=λb n z=>by subst z;rw[n]at g;exact g
 have m:∀b,H b=Β->b≠e:=λb n z=>by
  subst z;rcases he with r|r
  ·exact l b n r
  ·rw[n]at r;cases r
 have i:∀b u,H b=Α u->¬RU (Α u)->b≠x:=λb u q nm z=>by subst z;rw[q]at g;exact nm g
 refine⟨λb u q n y y=>k b u (m b n) q,λb u q n y y=>⟨u.slots,k b u (m b n) q⟩,λb u q n y=>by rw[ñ<|l b n];exact n,λb u q y=>?_,
  λb p q=>by rw[ñ<|i b _ q λz=>z];exact q,λb u p q=>by rw[ñ<|i b _ q λz=>z];exact q,λb ps q=>by rw[ñ<|i b _ q λz=>z];exact q⟩
 by_cases j:b=e
 ·subst j;exact s
 ·exact⟨u,k b u j q⟩
end
noncomputable def RW(h:Ô)(H:Hp):List À:=(ú h.objs.size).filter λa=>(H a).isSome
def vj(h:Ô)(H:Hp):Ô:=PySem.W.hideAll h<|RW h H
def DP(h:Ô)(H:Hp):(vj h H).objs.size=h.objs.size:=PySem.W.hideAll_size _ _
def ET(e:h.get? b=Α o)(n:H b=Β):(vj h H).get? b=Α o:=
 PySem.W.hideAll_get _ e λhm=>by have q:=(aM.mp hm).2;rw[n]at q;simp at q
def HJ(e:(vj h H).get? b=Α o):h.get? b=Α o/\H b=Β:=by
 have c:=PySem.W.of_hideAll (RW h H) e;refine⟨c,?_⟩;cases q:H b with
 |none=>rfl|some x=>have d:b∈RW h H:=aM.mpr ⟨aN.mpr<|ö c,by simp[q]⟩;have z:(vj h H).get? b=Β:=PySem.W.hideAll_none (RW h H) d;rw[z]at e;cases e
noncomputable def HK(g h:Ô)(L:À):List (À×Obj):=(ú h.objs.size).filterMap λa=>if a=L\/(g.get? a).isSome=Δ then Β else(h.get? a).map λo=>(a,o)
def rest(g h:Ô)(L d:À):List (À×Obj):=(HK g h L).filter λp=>decide<|p.1≠d
structure Mod(K:Ï)(mg:Str->Option Á)(base:Ô):Prop where
 EU:K.In base
 glob:base.Ns đ mg
 blt:∃mb,base.Ns builtinsNs mb/\∀x:Str,x≠"__name__" ->mb x=fR x
 nolimit:base.NoLimit
noncomputable def lams:List Str:=["best_step"]
noncomputable abbrev gE(x:Str):Str:=(x++".<locals>.")++"<lambda>"
def y_(K:Ï)(mg:Str->Option Á)(base:Ô)(H:Hp):Prop:=∀x c P,x∈lams->Ů K x=Α (c,P)->xJ base c P/\H P=Α (.ϸ<|gE x)/\base.BuiltinsAt mg P
set_option genInjectivity false in
structure Cx where
 prog:ï
 w:ã
 K:Ï
 mg:Str->Option Á
 base:Ô
 A:ì
 N:List Str
 s₀:Ä
 H₀:Hp
 env:Env
 outer:List Env
 stack:List Env
 ex:List À
 fn:Str->Bool
 calm:Bool
 pn:List (À×Obj)
 xe:Á->Ä->Prop
noncomputable def Hd(l:List Env):List À:=l.filterMap (·.frame)
abbrev Cx.fs(X:Cx):List À:=Hd X.outer
def K_(sc:û)(x:Str):Prop:=sc.names.lookup x=Α .local\/sc.names.lookup x=Α .cell\/sc.names.lookup x=Α .free
def Loc(sc:û)(x:Str):Prop:=sc.names.lookup x=Α .local\/sc.names.lookup x=Α .cell
noncomputable def K0(sc:û)(x:Str):Bool:=(sc.names.lookup x).any λk=>decide<|k=.local\/k=.cell\/k=.free
def K1(h:K0 sc x=Δ):K_ sc x:=by
 unfold K0 at h;unfold K_;cases e:sc.names.lookup x with
 |none=>rw[e]at h;cases h|some k=>rw[e]at h;rcases of_decide_eq_true h with rfl|rfl|rfl<;>simp
noncomputable def Oy(sc:û)(x:Str):Bool:=(sc.names.lookup x).any λk=>decide<|k=.local\/k=.cell
def tY(h:Oy sc x=Δ):Loc sc x:=by
 unfold Oy at h;unfold Loc;cases e:sc.names.lookup x with
 |none=>rw[e]at h;cases h|some k=>rw[e]at h;rcases of_decide_eq_true h with rfl|rfl<;>simp
def Look(env:Env)(h:Ô)(m:Str->Option Á)(x:Str)(u:Á):Prop:=
 (env.kindOf x=Α .local/\m x=Α u)\/((env.kindOf x=Α .cell\/env.kindOf x=Α .free)/\∃c,env.cells.lookup x=Α c/\h.IsCell c (Α u))
structure Cx.Ok(X:Cx):Prop where
 mod:Mod X.K X.mg X.base
 kind:X.env.scope.kind=.function
 glob:X.env.globals=đ
 blt:X.env.builtins=builtinsNs
 above:X.s₀.heap.objs.size<=X.env.locals
 inj:∀x y c,X.env.cells.lookup x=Α c->X.env.cells.lookup y=Α c->x=y
 has:∀x,(X.env.kindOf x=Α .cell\/X.env.kindOf x=Α .free)->∃c,X.env.cells.lookup x=Α c
 cab:∀x c,X.fn x=Δ->X.env.cells.lookup x=Α c->X.s₀.heap.objs.size<=c
 hd:X.calm=Δ->X.A.handled=Β
 frames:X.A.frames=Α X.stack
 stk:X.stack=X.outer\/(X.stack=X.env::X.outer/\X.env.frame=Α X.env.locals)
 RX:∀b∈X.ex,b≠X.env.locals/\∀x c,X.env.cells.lookup x=Α c->c≠b
 bs:∀b o,X.base.get? b=Α o->X.s₀.heap.get? b=Α o/\X.H₀ b=Β
 EJ:X.base.objs.size<=X.s₀.heap.objs.size
 zo:∀b o,X.base.get? b=Α o->b∉X.ex
 DQ:∀b∈X.ex,b∉X.fs
 pC:X.s₀.heap.FunFrames X.base X.outer
 HM:∀b∈X.fs,X.H₀ b=Β
 tb:y_ X.K X.mg X.base X.H₀
structure Inv(X:Cx)(Å:List (À×Obj))(σ:List (Option V))(H:Hp)(s:Ä):Prop where
 ok:X.Ok
 os:s.os=X.s₀.os
 bare:fO s.gens
 base:Un X.fs X.ex X.H₀ H X.s₀.heap s.heap
 loc:∃m,s.heap.Ns X.env.locals m/\∀(i:Nat) (x:Str) (v:V),X.N[i]?=Α x->σ[i]?=Α (Α v)->K_ X.env.scope x->∃u,RelV v u/\Look X.env s.heap m x u
 cell:∀x c,X.env.cells.lookup x=Α c->∃v,s.heap.IsCell c v
 free:H X.env.locals=Β
 jc:∀x c,X.env.cells.lookup x=Α c->H c=Β
 pin:∀p∈X.pn++Å,s.heap.get? p.1=Α p.2/\H p.1=Β/\p.1≠X.env.locals/\p.1∉X.fs/\∀v,p.2.data≠.cell v
 hok:oB X.prog X.w H s.heap
 len:σ.length=X.N.length
section
variable{X:Cx}{Å:List (À×Obj)}{σ:List (Option V)}{H H':Hp}{s:Ä}{h':Ô}
def Cx.Ok.Ux(ok:X.Ok)(e:X.base.get? b=Α o):b∉X.fs:=λhb=>by have:=(ok.pC.mem hb).1;rw[e]at this;cases this
theorem Inv.bs(I:Inv X Å σ H s):∀b o,X.base.get? b=Α o->s.heap.get? b=Α o/\H b=Β:=λb o e=>
 ⟨I.base.keep b o (I.ok.bs b o e).1 (I.ok.bs b o e).2 (I.ok.Ux e) (I.ok.zo b o e),I.base.free b o (I.ok.bs b o e).1 (I.ok.bs b o e).2 (I.ok.zo b o e)⟩
def Inv.bk(I:Inv X Å σ H s):∀b o,X.base.get? b=Α o->s.heap.get? b=Α o:=λb o e=>(I.bs b o e).1
theorem Inv.tb(I:Inv X Å σ H s):y_ X.K X.mg X.base H:=λx c P a e=>⟨(I.ok.tb x c P a e).1,I.base.rM _ _ (I.ok.tb x c P a e).2.1,(I.ok.tb x c P a e).2.2⟩
theorem Inv.mod(I:Inv X Å σ H s):Mod X.K X.mg X.base:=I.ok.mod
def Inv.vk(I:Inv X Å σ H s):X.K.In s.heap:=I.ok.mod.EU.keeps I.bk
theorem Inv.nolimit(I:Inv X Å σ H s):s.heap.NoLimit:=I.ok.mod.nolimit.keeps I.bk
theorem Inv.lt(I:Inv X Å σ H s):X.env.locals<s.heap.objs.size:=let ⟨_,a,_⟩:=I.loc;a.lt
def Inv.sz(I:Inv X Å σ H s):X.s₀.heap.objs.size<=s.heap.objs.size:=ţ I.ok.above<|mE I.lt
def Inv.Uy(I:Inv X Å σ H s){a:À}(h:s.heap.objs.size<=a):a∉X.fs:=λhb=>by obtain⟨_,o,d,_⟩:=I.ok.pC.mem hb;exact absurd (Ţ (ö d)<|ţ I.sz h)<|cG _
def Inv.K2(I:Inv X Å σ H s):∀x c,X.env.cells.lookup x=Α c->c≠X.env.locals:=λx c e z=>by obtain⟨v,o,a,hd⟩:=I.cell x c e;obtain⟨m,⟨o',es,ep,f,d,_⟩,_⟩:=I.loc;rw[z,f]at a;cases a;rw[d]at hd;cases hd
theorem Inv.pC(I:Inv X Å σ H s):s.heap.FunFrames X.base X.outer:=by
 have all:∀l,(∀b∈Hd l,b∈X.fs)->X.s₀.heap.FunFrames X.base l->s.heap.FunFrames X.base l:=by
  intro l
  induction l with
  |nil=>intro _ _;trivial|cons t r j=>intro f p;obtain⟨q,⟨L,o,a,n,m,hd⟩,k⟩:=p;have d:=f L (by unfold Hd;rw[sj,a];exact ŀ);obtain⟨sl,e⟩:=I.base.slot L o m (I.ok.HM L d) d λz=>I.ok.DQ L z d;exact⟨q,⟨L,_,a,n,e,hd⟩,j (λb c=>f b (by unfold Hd;rw[sj,a];exact ð _ c)) k⟩
 exact all X.outer (λx c=>c) I.ok.pC
theorem Inv.stack(I:Inv X Å σ H s):s.heap.FunFrames X.base X.stack:=by
 rcases I.ok.stk with e|⟨e,c⟩
 ·rw[e];exact I.pC
 ·rw[e];obtain⟨m,b,_⟩:=I.loc;refine .cons (by rw[I.ok.kind];decide) c b ?_ I.pC;exact Heap.get?_none_of_le<|ţ I.ok.EJ I.ok.above
def Inv.xT(I:Inv X Å σ H s):∀b∈Hd X.stack,b∈X.env.locals::X.fs:=λb a=>by
 rcases I.ok.stk with e|⟨e,d⟩
 ·rw[e]at a;exact ð _ a
 ·rw[e]at a;unfold Hd at a;rw[sj,d]at a;exact a
def Inv.xU(I:Inv X Å σ H s):∀b∈Hd X.stack,H b=Β:=λb a=>by
 rcases ù.mp (I.xT b a)with e|a
 ·rw[e];exact I.free
 ·obtain⟨_,o,f,_⟩:=I.ok.pC.mem a;exact I.base.free b o f (I.ok.HM b a) λz=>I.ok.DQ b z a
def Inv.step{ch:List À}(I:Inv X Å σ H s)
 (D:∀b∈ch,(b∈X.ex\/X.s₀.heap.objs.size<=b)/\b≠X.env.locals/\(∀x c,X.env.cells.lookup x=Α c->c≠b)/\∀p∈X.pn++Å,p.1≠b)
 (keep:∀b o,b≠X.env.locals->b∉X.fs->b∉ch->s.heap.get? b=Α o->H b=Β->h'.get? b=Α o)
 (slot:∀b o,b≠X.env.locals->b∈X.fs->b∉ch->s.heap.get? b=Α o->H b=Β->∃sl,h'.get? b=Α {o with slots:=sl})(free:∀b o,b∉ch->s.heap.get? b=Α o->H b=Β->H' b=Β)
 (h:∀b o,b∉ch->s.heap.get? b=Α o->∃B,h'.get? b=Α B)
 (A:∀b xs,H b=Α (.tup xs)->H' b=Α (.tup xs))(vi:∀b o u,H b=Α (.ge o u)->H' b=Α (.ge o u))(rM:∀b q,H b=Α (.ϸ q)->H' b=Α (.ϸ q))
 (ns:∀m,s.heap.Ns X.env.locals m->h'.Ns X.env.locals m)(N:oB X.prog X.w H' h')(hg:fO g'):
 Inv X Å σ H' {s with heap:=h',gens:=g',drawn:=d',toks:=t'}:=by
 have Y4:∀b o,X.s₀.heap.get? b=Α o->b≠X.env.locals:=λb o e=>Ĕ<|Ţ (ö e) I.ok.above;have G:∀b o,X.s₀.heap.get? b=Α o->b∉X.ex->b∉ch:=λb o e f j=>by
  rcases(D b j).1 with z|z
  ·exact f z
  ·exact absurd (Ţ (ö e) z)<|cG _
 have KA:∀x c,X.env.cells.lookup x=Α c->∀v,s.heap.IsCell c v->h'.IsCell c v:=by
  rintro x c e v ⟨o,w,hd⟩;have C:=λz=>(D c z).2.2.1 x c e rfl;by_cases hc:c∈X.fs
  ·obtain⟨sl,q⟩:=slot c o (I.K2 x c e) hc C w<|I.jc x c e;exact⟨_,q,hd⟩
  ·exact⟨o,keep c o (I.K2 x c e) hc C w<|I.jc x c e,hd⟩
 refine⟨I.ok,I.os,hg,⟨λb o e n j f=>?_,λb o e n j f=>?_,λb o e n f=>?_,λb o e f=>?_,λb xs e=>A b xs<|I.base.tups b xs e,λb o xs e=>vi b o xs<|I.base.vi b o xs e,λb U e=>?_⟩,?_,λx c e=>?_,?_,λx c e=>?_,λp Z=>?_,N,I.len⟩
 ·exact keep b o (Y4 b o e) j (G b o e f) (I.base.keep b o e n j f)<|I.base.free b o e n f
 ·obtain⟨sl,t⟩:=I.base.slot b o e n j f;obtain⟨L,O⟩:=slot b _ (Y4 b o e) j (G b o e f) t<|I.base.free b o e n f;exact⟨L,O⟩
 ·obtain⟨B,t⟩:=I.base.there b o e f;exact free b B (G b o e f) t<|I.base.free b o e n f
 ·obtain⟨B,t⟩:=I.base.there b o e f;exact h b B (G b o e f) t
 ·exact rM b U<|I.base.rM b U e
 ·obtain⟨m,hn,hl⟩:=I.loc;refine⟨m,ns m hn,λi x v t O e3=>?_⟩;obtain⟨u,r,l⟩:=hl i x v t O e3;refine⟨u,r,?_⟩;rcases l with l|⟨k,c,e,z⟩
  ·exact .inl l
  ·exact .inr ⟨k,c,e,KA x c e _ z⟩
 ·obtain⟨v,z⟩:=I.cell x c e;exact⟨v,KA x c e v z⟩
 ·obtain⟨m,⟨o,_,_,w,_⟩,_⟩:=I.loc;exact free _ o (λz=>(D _ z).2.1 rfl) w I.free
 ·obtain⟨v,o,w,hd⟩:=I.cell x c e;exact free c o (λz=>(D c z).2.2.1 x c e rfl) w<|I.jc x c e
 ·obtain⟨e,n,Y,W,d⟩:=I.pin p Z;have C:=λz=>(D p.1 z).2.2.2 p Z rfl;exact⟨keep p.1 p.2 Y W C e n,free p.1 p.2 C e n,Y,W,d⟩
def Inv.un(I:Inv X Å σ H s)(u:Un X.fs [] H H' s.heap h')(c:oB X.prog X.w H' h'):Inv X Å σ H' {s with heap:=h',toks:=t'}:=by refine BL λZ=>?_;obtain⟨m,⟨o,es,ep,h,r⟩,_⟩:=id I.loc;obtain⟨sl,q⟩:=u.any h I.free (by simp);refine Z ?_;exact I.step (ch:=[]) (λx z=>nomatch z) (λb o x d x e n=>u.keep b o e n d<|by simp) (λb o x d x e n=>u.slot b o e n d<|by simp) (λb o x e n=>u.free b o e n<|by simp) (λb o x e=>u.there b o e<|by simp) u.tups u.vi u.rM (λm' p=>by obtain⟨o',v,t,j,l⟩:=p;rw[h]at j;cases j;exact⟨_,v,t,q,l⟩) c I.bare
def Inv.call{g':Array GenState}{t':Nat}{d':Drawn}{ch:List À}(I:Inv X Å σ H s)(u:Un (Hd X.stack) ch H H' s.heap h')(hok:oB X.prog X.w H' h')(hg:fO g')
 (ES:∀b∈ch,(b∈X.ex\/X.s₀.heap.objs.size<=b)/\b≠X.env.locals/\(∀x c,X.env.cells.lookup x=Α c->c≠b)/\∀p∈X.pn++Å,p.1≠b):
 Inv X Å σ H' {s with heap:=h',gens:=g',drawn:=d',toks:=t'}:=by
 obtain⟨m,⟨o,es,ep,ho,r⟩,_⟩:=id I.loc;obtain⟨sl,hL⟩:=u.any ho I.free λz=>(ES _ z).2.1 rfl;exact I.step ES (λb o hL hb hc e n=>u.keep b o e n (λz=>(ù.mp<|I.xT b z).elim hL hb) hc) (λb o y y hc e n=>u.any e n hc) (λb o hc e n=>u.free b o e n hc) (λb o hc e=>u.there b o e hc) u.tups u.vi u.rM (λm' hm=>by obtain⟨o',X1,X2,BE,r'⟩:=hm;rw[ho]at BE;cases BE;exact⟨_,X1,X2,hL,r'⟩) hok hg
def Inv.turned(I:Inv X Å σ H s)(k:∀b o,b≠it->s.heap.get? b=Α o->h'.get? b=Α o)(y:H it=Β)(j:it≠X.env.locals)
 (E:it∈X.ex\/X.s₀.heap.objs.size<=it)(D:∀x c,X.env.cells.lookup x=Α c->c≠it)(C:∀p∈X.pn++Å,p.1≠it):Inv X Å σ H {s with heap:=h',toks:=t'}:=by
 have l:∀b u,H b=Α u->b≠it:=λb u e z=>by rw[z,y]at e;cases e
 refine I.step (ch:=[it]) (λb B=>?_) (λb o a a f e a=>k b o (λz=>f<|by simp[z]) e) (λb o a a f e a=>⟨o.slots,k b o (λz=>f<|by simp[z]) e⟩) (λa a a a n=>n)
  (λb o f e=>⟨o,k b o (λz=>f<|by simp[z]) e⟩) (λa a e=>e) (λa a a e=>e) (λa a e=>e) (λm A=>?_) (λb u e=>?_) I.bare
 ·have e:=by simpa using B
  subst e;exact⟨E,j,D,C⟩
 ·obtain⟨o,G,J,w,r⟩:=A;exact⟨o,G,J,k _ o (Ť j) w,r⟩
 ·refine(I.hok b u e).stay (λc v f q=>k c v ?_ q) (λa q=>q) λa a q=>q;rcases f with z|z
  ·rw[z];exact l b u e
  ·exact l c _ z
def Inv.tok(I:Inv X Å σ H s)(t:Nat):Inv X Å σ H {s with toks:=t}:=I.un Un.refl I.hok
theorem Inv.kept(I:Inv X Å σ H s)(k:∀b u,s.heap.get? b=Α u->h'.get? b=Α u):Inv X Å σ H {s with heap:=h',toks:=t'}:=I.un (Un.kept k)<|I.hok.kept k
theorem Inv.laid(I:Inv X Å σ H s)(k:∀b u,s.heap.get? b=Α u->h'.get? b=Α u)(d:s.heap.objs.size<=a)(c:fC X.prog X.w (upd H a o) h' a o):
 Inv X Å σ (upd H a o) {s with heap:=h',toks:=t'}:=I.un (Un.laid k d<|I.hok.fresh d)<|I.hok.laid k d c
theorem Inv.write(I:Inv X Å σ H s)(d:RU (H x))(he:e=x\/H e=Α (.own x))(k:∀b u,b≠e->s.heap.get? b=Α u->h'.get? b=Α u)(g:∃u,h'.get? e=Α u)
 (a:fC X.prog X.w (upd H x o) h' x o):Inv X Å σ (upd H x o) {s with heap:=h',toks:=t'}:=I.un (Un.write d he k g)<|I.hok.write d he k g a
def Inv.CB(I:Inv X Å σ H s)(h:∀p∈c,s.heap.get? p.1=Α p.2/\H p.1=Β/\p.1≠X.env.locals/\p.1∉X.fs/\∀v,p.2.data≠.cell v):Inv X c σ H s:=
 ⟨I.ok,I.os,I.bare,I.base,I.loc,I.cell,I.free,I.jc,λp d=>(Ŵ.mp d).elim (λz=>I.pin p<|jJ _ z) (h p),I.hok,I.len⟩
def zp{N:List Str}(c:N.Nodup){i j:Nat}(a:N[i]?=Α x)(b:N[j]?=Α x):i=j:=by obtain⟨h1,e⟩:=bz.mp a;obtain⟨h2,d⟩:=bz.mp b;exact(List.getElem_inj c).mp (e.trans d.symm)
def vE{M:bE}{A:ì}{E:Á->Ä->Prop}{i:Nat}{x:Str}{v:V}{u:Á}{Q:Unit->Ä->Prop}(I:Inv X Å σ H s)(hN:X.N.Nodup)(U:X.N[i]?=Α x)(C:Loc X.env.scope x)(r:RelV v u)
 (h:∀s',Inv X Å (σ.set i<|some v) H s'->(∃a,iy a s.heap s'.heap/\(a=X.env.locals\/X.env.cells.lookup x=Α a))->Q () s')(hf:autoParam (X.fn x=Δ\/X.env.scope.names.lookup x=Α .local) Μ):Ð M A (storeName X.env x u) Q E s:=by
 obtain⟨m,hn,hl⟩:=id I.loc;have X3:(X.env.scope.kind==.class||(X.env.scope.kind==.module&&X.env.locals !=X.env.globals))=Ε:=by rw[I.ok.kind];rfl
 have Y5:i<σ.length:=by rw[I.len];exact(bz.mp U).1
 have K2:=I.K2;have DK:∀{a:À}{h':Ô},(∃o,s.heap.get? a=Α o/\H a=Β)->iy a s.heap h'->oB X.prog X.w H h':=fun{a h'} ha f b ob e=>by
  obtain⟨_,_,G⟩:=ha;refine(I.hok b ob e).stay (λc W B q=>(f.2 c ?_).trans q) (λg q=>q) λg g q=>q;rintro rfl;rcases B with rfl|B
  ·rw[G]at e;cases e
  ·rw[G]at B;cases B
 rcases C with K|K
 ·refine wpAny_storeName_local K hn (λh' hn' f=>?_) X3;refine BL λL=>?_;obtain⟨oL,_,_,hoL,_⟩:=id hn;refine L ?_;refine h _ ⟨I.ok,I.os,I.bare,⟨λb o e n O C=>?_,λb o e n O C=>?_,I.base.free,λb o e C=>?_,I.base.tups,I.base.vi,I.base.rM⟩,⟨_,hn',λj y v' w J e3=>?_⟩,λy c e=>?_,I.free,I.jc,λp hp=>?_,DK ⟨oL,hoL,I.free⟩ f,by simpa using I.len⟩ ⟨_,f,.inl rfl⟩
  ·exact(f.2 b<|Ĕ<|Ţ (ö e) I.ok.above).trans (I.base.keep b o e n O C)
  ·obtain⟨sl,w⟩:=I.base.slot b o e n O C;exact⟨sl,(f.2 b<|Ĕ<|Ţ (ö e) I.ok.above).trans w⟩
  ·obtain⟨o',w⟩:=I.base.there b o e C;exact⟨o',(f.2 b<|Ĕ<|Ţ (ö e) I.ok.above).trans w⟩
  ·by_cases N:j=i
   ·subst N;rw[U]at w;cases w;rw[oJ Y5]at J;cases J;exact⟨u,r,.inl ⟨K,by simp⟩⟩
   ·rw[jK<|Ť N]at J;obtain⟨u',r',q⟩:=hl j y v' w J e3;refine⟨u',r',?_⟩;rcases q with⟨k,e⟩|⟨k,c,e,z⟩
    ·refine .inl ⟨k,?_⟩;have:y≠x:=λe=>N<|zp hN w<|e▸U;simp[this,e]
    ·exact .inr ⟨k,c,e,z.sameBut f<|K2 y c e⟩
  ·obtain⟨W,z⟩:=I.cell y c e;exact⟨W,z.sameBut f<|K2 y c e⟩
  ·obtain⟨e,n,Y,nf,d⟩:=I.pin p hp;exact⟨(f.2 p.1 Y).trans e,n,Y,nf,d⟩
 ·have X4:X.fn x=Δ:=by
   rcases hf with z|z
   ·exact z
   ·rw[z]at K;cases K
  obtain⟨c,B⟩:=I.ok.has x<|.inl K;obtain⟨W,z⟩:=I.cell x c B;refine wpAny_storeName_cell I.ok.kind K B z<|λh' AF f=>?_;obtain⟨oc,NH,Uz⟩:=id z;refine h {s with heap:=h'} ⟨I.ok,I.os,I.bare,⟨λb o e n O C=>?_,λb o e n O C=>?_,I.base.free,λb o e C=>?_,I.base.tups,I.base.vi,I.base.rM⟩,⟨m,hn.sameBut f<|Ť<|K2 x c B,λj y v' w J e3=>?_⟩,λy Z e=>?_,I.free,I.jc,λp hp=>?_,DK ⟨oc,NH,I.jc x c B⟩ f,by simpa using I.len⟩ ⟨c,f,.inr B⟩
  ·exact(f.2 b<|Ĕ<|Ţ (ö e)<|I.ok.cab x c X4 B).trans (I.base.keep b o e n O C)
  ·obtain⟨sl,w⟩:=I.base.slot b o e n O C;exact⟨sl,(f.2 b<|Ĕ<|Ţ (ö e)<|I.ok.cab x c X4 B).trans w⟩
  ·obtain⟨o',w⟩:=I.base.there b o e C;exact⟨o',(f.2 b<|Ĕ<|Ţ (ö e)<|I.ok.cab x c X4 B).trans w⟩
  ·by_cases N:j=i
   ·subst N;rw[U]at w;cases w;rw[oJ Y5]at J;cases J;exact⟨u,r,.inr ⟨.inl K,c,B,AF⟩⟩
   ·rw[jK<|Ť N]at J;obtain⟨u',r',q⟩:=hl j y v' w J e3;refine⟨u',r',?_⟩;rcases q with q|⟨k,Z,e,z'⟩
    ·exact .inl q
    ·refine .inr ⟨k,Z,e,z'.sameBut f ?_⟩;rintro rfl;exact N<|zp hN w<|I.ok.inj _ _ _ e B▸U
  ·by_cases Ug:Z=c
   ·subst Ug;exact⟨_,AF⟩
   ·obtain⟨w2,z2⟩:=I.cell y Z e;exact⟨w2,z2.sameBut f Ug⟩
  ·obtain⟨e,n,Y,nf,d⟩:=I.pin p hp;refine⟨(f.2 p.1 ?_).trans e,n,Y,nf,d⟩;intro q;rw[q,NH]at e;have q':=Ň e;exact d W (by rw[<-q'];exact Uz)
def tZ{M:bE}{A:ì}{E:Á->Ä->Prop}{i:Nat}{x:Str}{v:V}{u:Á}{Q:Unit->Ä->Prop}(I:Inv X Å σ H s)(f:X.N.Nodup)(d:X.N[i]?=Α x)(c:Loc X.env.scope x)(r:RelV v u)
 (h:∀s',Inv X Å (σ.set i<|some v) H s'->Q () s')(e:autoParam (X.fn x=Δ\/X.env.scope.names.lookup x=Α .local) Μ):Ð M A (storeName X.env x u) Q E s:=
 vE I f d c r (λs' g y=>h s' g) e
def Inv.call'(I:Inv X Å σ H s)(d:s'.os=s.os)(u:Un (Hd X.stack) ch H H' s.heap s'.heap)(a:oB X.prog X.w H' s'.heap)(f:fO s'.gens)
 (g:∀b∈ch,(b∈X.ex\/X.s₀.heap.objs.size<=b)/\b≠X.env.locals/\(∀x c,X.env.cells.lookup x=Α c->c≠b)/\∀p∈X.pn++Å,p.1≠b):Inv X Å σ H' s':=by
 obtain⟨h',g',d',t',o'⟩:=s';have e:=d;subst e;exact I.call u a f g
end
abbrev XK:=Á->Option À->Hp->Prop
abbrev St:=List<|Option V
abbrev ă:=St
abbrev VK:=V->Hp->Prop
abbrev TE:=St->Hp->VK->Prop
abbrev TT:=St->Hp->(Bool->Hp->Prop)->Prop
abbrev TA:=St->Hp->(List V->Hp->Prop)->Prop
set_option genInjectivity false in
structure Ends where
 nx:St->Hp->Prop
 rt:VK
 bk:St->Hp->Prop:=λx x=>False
 ct:St->Hp->Prop:=λx x=>False
abbrev TS:=Ends->St->Hp->Prop
def EP(X:Cx)(c:List (À×Obj))(a:St)(Q:VK)(u:Á)(s':Ä):Prop:=∃v b,Inv X c a b s'/\RelV v u/\Q v b
def TP(X:Cx)(e:List (À×Obj))(a:St)(Q:Bool->Hp->Prop)(b:Bool)(s':Ä):Prop:=∃d,Inv X e a d s'/\Q b d
def AP(X:Cx)(d:List (À×Obj))(a:St)(Q:List V->Hp->Prop)(e:List Á)(s':Ä):Prop:=∃b c,Inv X d a c s'/\Ő b e/\Q b c
def SP(X:Cx)(c:List (À×Obj))(D:Ends)(f:Flow)(s':Ä):Prop:=
 match f with
 |.next=>∃a b,Inv X c a b s'/\D.nx a b|.brk=>∃a b,Inv X c a b s'/\D.bk a b|.cont=>∃a b,Inv X c a b s'/\D.ct a b|.ret u=>∃v a b,Inv X c a b s'/\RelV v u/\D.rt v b
def PE(X:Cx)(e:Ç)(t:TE):Prop:=
 ∀(b:List (À×Obj)) (s:Ä) (a:St) (H:Hp) (Q:VK),Inv X b a H s->t a H Q->Ð (Ú X.prog X.w) X.A (eval e X.env) (EP X b a Q) X.xe s
def PT(X:Cx)(e:Ç)(t:TT):Prop:=
 ∀(c:List (À×Obj)) (s:Ä) (a:St) (H:Hp) (Q:Bool->Hp->Prop),Inv X c a H s->t a H Q->Ð (Ú X.prog X.w) X.A (isTrue e X.env<|eval e X.env) (TP X c a Q) X.xe s
def PW(X:Cx)(e:Ç)(t:TT):Prop:=
 ∀(b:Sem Á) (d:List (À×Obj)) (s:Ä) (a:St) (H:Hp) (Q:Bool->Hp->Prop),Inv X d a H s->t a H Q->Ð (Ú X.prog X.w) X.A (isTrue e X.env b) (TP X d a Q) X.xe s
def PW.pt(h:PW X e t):PT X e t:=h _
def PA(X:Cx)(d:List Ç)(t:TA):Prop:=
 ∀(pos:Pos) (c:List (À×Obj)) (s:Ä) (a:St) (H:Hp) (Q:List V->Hp->Prop),Inv X c a H s->t a H Q->Ð (Ú X.prog X.w) X.A (spliced<|ü pos<|Î d X.env) (AP X c a Q) X.xe s
def PS(X:Cx)(st:æ)(t:TS):Prop:=
 ∀(b:List (À×Obj)) (s:Ä) (a:St) (H:Hp) (D:Ends),Inv X b a H s->t D a H->Ð (Ú X.prog X.w) X.A (exec st X.env) (SP X b D) X.xe s
def b_(X:Cx)(st:List æ)(t:TS):Prop:=
 ∀(c:List (À×Obj)) (s:Ä) (a:St) (H:Hp) (D:Ends),Inv X c a H s->t D a H->Ð (Ú X.prog X.w) X.A (execs st X.env) (SP X c D) X.xe s
def Ż{b:Type}{t:Sem b}{Q c:b->Ä->Prop}(h:Ð M A t Q E s)(e:∀a s,Q a s->c a s):Ð M A t c E s:=ό h e λy y x=>x
section
variable{X:Cx}
def dR(i:Nat):TE:=λa H Q=>∃v,a[i]?=Α (Α v)/\Q v H
def tC(v:V):TE:=λx H Q=>Q v H
def K3{i:Nat}{x:Str}{pos:Pos}(A:X.N[i]?=Α x)(t:K_ X.env.scope x)(hd:autoParam ((x==("__debug__":Str))=Ε) Ζ)(q:autoParam ((x==("__classdict__":Str))=Ε) Ζ):PE X (.Name x pos) (dR i):=by
 intro p s a H Q I h;refine BL λZ=>?_;obtain⟨v,e,h⟩:=h;obtain⟨m,w,z⟩:=I.loc;obtain⟨u,r,l⟩:=z i x v A e t;refine Z ?_;have n:EP X p a Q u s:=⟨v,H,I,r,h⟩;rcases l with⟨k,y⟩|⟨k,c,o,j⟩
 ·exact wpAny_Name (wpAny_loadName_local I.ok.kind k w y n) hd
 ·rcases k with k|k
  ·exact wpAny_Name (wpAny_loadName_cell I.ok.kind k o j n) hd
  ·exact wpAny_Name (wpAny_loadName_free I.ok.kind k o j n q) hd
def EK(X:Cx)(i:Nat)(x:Str):Bool:=decide (X.N[i]?=Α x)&&(K0 X.env.scope x&&(!(x==("__debug__":Str))&&!(x==("__classdict__":Str))))
def pE(h:EK X i x=Δ):PE X (.Name x pos) (dR i):=by unfold EK at h;rw[þ,þ,þ,Bool.not_eq_true',Bool.not_eq_true',decide_eq_true_eq]at h;exact K3 h.1 (K1 h.2.1) h.2.2.1 h.2.2.2
def xV{i j pos}:PE X (.Constant (.int i) j pos) (tC<|.int i):=λx x x H x I h=>wpAny_Constant_int ⟨.int i,H,I.tok _,⟨_,rfl⟩,h⟩
def OC{b j pos}:PE X (.Constant (.bool b) j pos) (tC<|.bl b):=λx x x H x I h=>Constant_bool ⟨.bl b,H,I,rfl,h⟩
def K4{j pos}:PE X (.Constant .none j pos) (tC .non):=λx x x H x I h=>Constant_none ⟨.non,H,I,rfl,h⟩
def K5{x j pos}:PE X (.Constant (.str x) j pos) (tC<|.str x):=λy y y H y I h=>xy ⟨.str x,H,I.tok _,⟨_,rfl⟩,h⟩
abbrev Gl(X:Cx)(x:Str):Prop:=X.env.kindOf x=Α .globalImplicit
def pF{E:Á->Ä->Prop}{d:List (À×Obj)}{s:Ä}{a:St}{H:Hp}{x:Str}{u:Á}{pos:Pos}{Q:Á->Ä->Prop}(I:Inv X d a H s)(f:Gl X x)(e:X.mg x=Α u)(h:Q u s)
 (hd:autoParam ((x==("__debug__":Str))=Ε) Ζ):Ð (Ú X.prog X.w) X.A (eval (.Name x pos) X.env) Q E s:=
 Ck I.ok.kind f (Calls.loadGlobal_global (by rw[I.ok.glob];exact I.mod.glob.keeps I.bk) e h) hd
def iX{E:Á->Ä->Prop}{d:List (À×Obj)}{s:Ä}{a:St}{H:Hp}{x:Str}{u:Á}{pos:Pos}{Q:Á->Ä->Prop}(I:Inv X d a H s)(i:Gl X x)(g:X.mg x=Β)(e:fR x=Α u)(h:Q u s)
 (f:autoParam (x≠"__name__") Ι)(hd:autoParam ((x==("__debug__":Str))=Ε) Ζ):Ð (Ú X.prog X.w) X.A (eval (.Name x pos) X.env) Q E s:=by
 obtain⟨mb,k,j⟩:=I.mod.blt;exact Ck I.ok.kind i (Calls.loadGlobal_builtin (by rw[I.ok.glob];exact I.mod.glob.keeps I.bk) g (by rw[I.ok.blt];exact k.keeps I.bk) ((j x f).trans e) h) hd
def tE{x:Str}{v:V}{u:Á}{pos:Pos}(c:Gl X x)(b:X.mg x=Α u)(r:RelV v u)(hd:autoParam ((x==("__debug__":Str))=Ε) Ζ):PE X (.Name x pos) (tC v):=
 λy y y H y I h=>pF I c b ⟨v,H,I,r,h⟩ hd
variable{a b:Ç}{ta tb:TE}{pos:Pos}
variable{tA OD:TT}{rest:List Ç}
def UA(t u:TT):TT:=λd H Q=>t d H λc e=>if c=Δ then u d e Q else Q Ε e
def tOr(t u:TT):TT:=λd H Q=>t d H λc e=>if c=Δ then Q Δ e else u d e Q
def UB(t:TT):TT:=λd H Q=>t d H λc g=>Q (!c) g
def CC(k:PT X a tA):PW X (.BoolOp .And [a] pos) tA:=by
 intro wh j s d H Q I h;refine isTrue_and<|Ż (k j s d H Q I h) λc s1 e=>?_;cases c with
 |true=>exact isTrue_and_nil e|false=>exact e
def EV(k:PT X a tA):PW X (.BoolOp .Or [a] pos) tA:=by
 intro wh j s d H Q I h;refine isTrue_or<|Ż (k j s d H Q I h) λc s1 e=>?_;cases c with
 |false=>exact isTrue_or_nil e|true=>exact e
def EW(o:PT X a tA)(n:PW X (.BoolOp .And (b::rest) pos) OD):PW X (.BoolOp .And (a::b::rest) pos) (UA tA OD):=by
 intro m f s d H Q I h;refine isTrue_and<|Ż (o f s d H _ I h) λc s1 l=>?_;obtain⟨j,i,g⟩:=l;cases c with
 |true=>exact n m f s1 d j Q i g|false=>exact⟨j,i,g⟩
def JP(o:PT X a tA)(n:PW X (.BoolOp .Or (b::rest) pos) OD):PW X (.BoolOp .Or (a::b::rest) pos) (tOr tA OD):=by
 intro m f s d H Q I h;refine isTrue_or<|Ż (o f s d H _ I h) λc s1 l=>?_;obtain⟨j,i,g⟩:=l;cases c with
 |true=>exact⟨j,i,g⟩|false=>exact n m f s1 d j Q i g
def EX(i:PT X a tA):PT X (.UnaryOp .Not a pos) (UB tA):=λÅ s d H Q I h=>isTrue_not<|i Å s d H (λc j=>Q (!c) j) I h
def K6{f}(h:PE X a t):PE X (.BoolOp f [a] pos) t:=λÅ s c H Q I g=>BoolOp_one<|h Å s c H Q I g
def tIf(t:TT)(ta tb:TE):TE:=λd H Q=>t d H λc e=>if c=Δ then ta d e Q else tb d e Q
def EY(n:PT X c tA)(p:PE X a ta)(o:PE X b tb):PE X (.IfExp c a b pos) (tIf tA ta tb):=by
 intro g s e H Q I h;refine wpAny_IfExp<|Ż (n g s e H _ I h) λd s1 m=>?_;obtain⟨k,j,i⟩:=m;cases d with
 |true=>exact p g s1 e k Q j i|false=>exact o g s1 e k Q j i
end
def ż(K:Ï)(H:Hp)(a:À)(xs:List V):Prop:=
 Rd H a (.lst xs)\/
  ∃(o:Obj) (c:Array Á) (n:Nat),K.lookup a=Α o/\o.cls=.type "list"/\o.dict=Β/\o.data=.seq c n/\c.size<=sizeLine/\Ő xs c.toList
def jH(K:Ï)(H:Hp)(a:À)(xs:List V):Prop:=
 Rd H a (.tup xs)\/
  ∃(o:Obj) (c:Array Á) (n:Nat),K.lookup a=Α o/\o.cls=.type "tuple"/\o.data=.seq c n/\c.size<=sizeLine/\Ő xs c.toList
noncomputable def UC:Á->Option V
 |.none=>Α .non|.bool b=>Α<|.bl b|.int i _=>Α<|.int i|.str x _=>Α<|.str x|.bytes b _=>Α<|.HI b|.float b _=>Α<|.flt b|.ref a=>Α<|.ref a|.type n=>Α<|.ty n|_=>Β
def RelV.abs(r:RelV x u):UC u=Α x:=by
 cases x with
 |non=>cases r;rfl|bl _=>cases r;rfl|int _=>obtain⟨t,rfl⟩:=r;rfl|str _=>obtain⟨t,rfl⟩:=r;rfl|HI _=>obtain⟨t,rfl⟩:=r;rfl|flt _=>obtain⟨t,rfl⟩:=r;rfl|ref _=>cases r;rfl|ty _=>cases r;rfl
def RelV.inj(r:RelV x u)(q:RelV y u):x=y:=Ň<|r.abs.symm.trans q.abs
theorem Ő.inj:∀{xs ys:List V}{b:List Á},Ő xs b->Ő ys b->xs=ys:=by
 intro xs ys b h g
 induction h generalizing ys with
 |nil=>cases g;rfl|cons r t e=>
  cases g with
  |cons d c=>rw[r.inj d,e c]
section
variable{X:Cx}{Å:List (À×Obj)}{σ:St}{H:Hp}{s:Ä}{a:À}{xs ys:List V}
def ż.of{K:Ï}(h:H a=Α (.lst xs)):ż K H a xs:=.inl<|.inl h
def jH.of{K:Ï}(h:H a=Α (.tup xs)):jH K H a xs:=.inl<|.inl h
def Inv.list(I:Inv X Å σ H s)(h:ż X.K H a xs):∃b:List Á,Ő xs b/\PlainL s.heap a b.toArray/\xs.length<=sizeLine:=by
 rcases h with h|⟨o,b,n,g,i,hd,f,hz,r⟩
 ·obtain⟨z,b,n,r,e⟩:=h.ok I.hok;exact⟨b,r,⟨_,n,e,rfl,rfl,rfl⟩,z⟩
 ·refine⟨b.toList,r,⟨o,n,I.vk a o g,i,hd,by simpa using f⟩,?_⟩;have e:=r.length;simp only[cX]at e;lia
def Inv.tuple(I:Inv X Å σ H s)(h:jH X.K H a xs):∃b:List Á,Ő xs b/\IsTup s.heap a b.toArray/\xs.length<=sizeLine:=by
 rcases h with h|⟨o,b,n,g,i,f,hz,r⟩
 ·obtain⟨z,b,r,p⟩:=h.ok I.hok;exact⟨b,r,p,z⟩
 ·refine⟨b.toList,r,⟨o,I.vk a o g,i,n,by simpa using f⟩,?_⟩;have e:=r.length;simp only[cX]at e;lia
def Inv.lj(I:Inv X Å σ H s)(h:ż X.K H a xs)(h':ż X.K H a ys):xs=ys:=by
 obtain⟨ę,r,⟨o,n,e,_,_,d⟩,_⟩:=I.list h;obtain⟨f,j,⟨o',n',g,_,_,i⟩,_⟩:=I.list h';rw[e]at g;cases g;rw[d]at i;injection i with k _
 have:=by simpa using congrArg Array.toList k
 subst this;exact r.inj j
def Inv.DR(I:Inv X Å σ H s)(h:jH X.K H a xs)(h':jH X.K H a ys):xs=ys:=by
 obtain⟨ę,r,⟨o,e,_,n,d⟩,_⟩:=I.tuple h;obtain⟨f,j,⟨o',g,_,n',i⟩,_⟩:=I.tuple h';rw[e]at g;cases g;rw[d]at i;injection i with k _
 have:=by simpa using congrArg Array.toList k
 subst this;exact r.inj j
end
noncomputable abbrev Cx.wish(X:Cx)(E:Á->Ä->Prop):Cx:={X with xe:=E}
abbrev Cx.ar(X:Cx):Cx:=X.wish λx x=>False
theorem Cx.Ok.wish{X:Cx}(ok:X.Ok)(E:Á->Ä->Prop):(X.wish E).Ok:=
 ⟨ok.mod,ok.kind,ok.glob,ok.blt,ok.above,ok.inj,ok.has,ok.cab,ok.hd,ok.frames,ok.stk,ok.RX,ok.bs,ok.EJ,ok.zo,ok.DQ,ok.pC,ok.HM,ok.tb⟩
def Cx.Ok.kg{X:Cx}(ok:(X.wish E).Ok):X.Ok:=
 ⟨ok.mod,ok.kind,ok.glob,ok.blt,ok.above,ok.inj,ok.has,ok.cab,ok.hd,ok.frames,ok.stk,ok.RX,ok.bs,ok.EJ,ok.zo,ok.DQ,ok.pC,ok.HM,ok.tb⟩
section
variable{X:Cx}{Å:List (À×Obj)}{σ:St}{H:Hp}{s:Ä}{E:Á->Ä->Prop}
theorem Inv.wish(I:Inv X Å σ H s)(E:Á->Ä->Prop):Inv (X.wish E) Å σ H s:=⟨I.ok.wish E,I.os,I.bare,I.base,I.loc,I.cell,I.free,I.jc,I.pin,I.hok,I.len⟩
theorem Inv.kg(I:Inv (X.wish E) Å σ H s):Inv X Å σ H s:=⟨I.ok.kg,I.os,I.bare,I.base,I.loc,I.cell,I.free,I.jc,I.pin,I.hok,I.len⟩
theorem SP.kg(h:SP (X.wish E) Å D f s'):SP X Å D f s':=by
 cases f with
 |next=>obtain⟨a,b,I,q⟩:=h;exact⟨a,b,I.kg,q⟩|brk=>obtain⟨a,b,I,q⟩:=h;exact⟨a,b,I.kg,q⟩|cont=>obtain⟨a,b,I,q⟩:=h;exact⟨a,b,I.kg,q⟩|ret u=>obtain⟨v,a,b,I,r,q⟩:=h;exact⟨v,a,b,I.kg,r,q⟩
theorem PE.ar(h:PE X.ar e t):PE X e t:=λÅ s σ H Q I c=>
 ό (h Å s σ H Q (I.wish _) c) (by rintro _ _ ⟨v,f,d,r,q⟩;exact ⟨v,f,d.kg,r,q⟩) λx x z=>ų z
end
section
variable{X:Cx}{st:æ}{rest:List æ}{t u:TS}{e:Ç}{te:TE}{pos:Pos}
def OE:TS:=λD a H=>D.nx a H
def UD(t u:TS):TS:=λD a H=>t {D with nx:=u D} a H
def CD:b_ X [] OE:=λx x a H x I h=>mJ ⟨a,H,I,h⟩
def gF(k:PS X st t)(j:b_ X rest u):b_ X (st::rest) (UD t u):=by
 intro c s b H D I h;refine xn<|Ż (k c s b H {D with nx:=u D} I h) λf s1 q=>?_;cases f with
 |next=>obtain⟨a,n,m,q⟩:=q;exact j c s1 a n D m q|ret v=>exact q|brk=>exact q|cont=>exact q
def kh(h1:PS X st t):b_ X [st] t:=by
 intro Å s a H D I h;refine xn<|Ż (h1 Å s a H D I h) λf s1 q=>?_;cases f with
 |next=>exact mJ q|ret v=>exact q|brk=>exact q|cont=>exact q
def Inv.quiet(I:Inv X Å a H s):interactive X.env=Ε:=by simp[interactive,I.ok.kind]
def t_(te:TE):TS:=λD a H=>te a H λx d=>D.nx a d
def Ŧ(he:PE X e te)(hs:autoParam (ť e Β pos.line X.env=pure Ε) Ζ):PS X (.Expr e pos) (t_ te):=λÅ s a H D I h=>wpAny_Expr_any (Ż (he Å s a H _ I h)<|by rintro v s1 ⟨x,H1,I1,r1,q1⟩;exact ⟨a,H1,I1,q1⟩) I.quiet hs
def UE(te:TE):TS:=λD a H=>te a H D.rt
def EZ(he:PE X e te):PS X (.Return (Α e) pos) (UE te):=λÅ s a H D I h=>wpAny_Return_some<|Ż (he Å s a H _ I h)<|by rintro v s1 ⟨x,j,i,f,g⟩;exact ⟨x,a,j,i,f,g⟩
def UF(c:TT)(t u:TS):TS:=λD a H=>c a H λb d=>if b=Δ then t D a d else u D a d
def CG(p:PT X c o)(r:b_ X a t)(q:b_ X b u):PS X (.If c a b pos) (UF o t u):=by
 intro i s f H D I h;refine wpAny_If<|Ż (p i s f H _ I h) λd s1 n=>?_;obtain⟨l,k,j⟩:=n;cases d with
 |true=>exact r i s1 f l D k j|false=>exact q i s1 f l D k j
def K7:TS:=λx x x=>False
def E_:PS X st K7:=λx x x x x x h=>h.elim
end
abbrev TG:=V->St->Hp->(St->Hp->Prop)->Prop
abbrev E0:=List V->St->Hp->(St->Hp->Prop)->Prop
def PG(X:Cx)(c:Ç)(t:TG):Prop:=
 ∀(e:List (À×Obj)) (s:Ä) (b:St) (H:Hp) (v:V) (u:Á) (Q:St->Hp->Prop),Inv X e b H s->RelV v u->t v b H Q->
  Ð (Ú X.prog X.w) X.A (assign c X.env u) (λx h=>∃a f,Inv X e a f h/\Q a f) X.xe s
def Ay(X:Cx)(i:List Ç)(t:E0):Prop:=
 ∀(d:List (À×Obj)) (s:Ä) (b:St) (H:Hp) (e:List V) (f:List Á) (Q:St->Hp->Prop),Inv X d b H s->Ő e f->t e b H Q->
  Ð (Ú X.prog X.w) X.A (assignInOrder ((ϫ i X.env).map (·.2)) f) (λx j=>∃a g,Inv X d a g j/\Q a g) X.xe s
abbrev RZ:=V->V->Hp->VK->Prop
def Y6(X:Cx)(d:oX)(t:RZ):Prop:=
 ∀(c:List (À×Obj)) (s:Ä) (a:St) (H:Hp) (x y:V) (v u:Á) (Q:VK),Inv X c a H s->RelV x v->RelV y u->t x y H Q->
  Ð (Ú X.prog X.w) X.A (inplaceOp d v u) (EP X c a Q) X.xe s
section
variable{X:Cx}{pos:Pos}
def ua(i:Nat):TG:=λv a H Q=>Q (a.set i<|some v) H
def mW{i:Nat}{x:Str}(hN:X.N.Nodup)(hi:X.N[i]?=Α x)(hx:Loc X.env.scope x)(hf:autoParam (X.fn x=Δ\/X.env.scope.names.lookup x=Α .local) Μ):PG X (.Name x pos) (ua i):=λÅ s a H v u Q I r h=>wpAny_assign_Name<|tZ I hN hi hx r (λs' I'=>⟨_,H,I',h⟩) hf
def OF:E0:=λvs a H Q=>vs=[]/\Q a H
def E1(t:TG)(u:E0):E0:=λvs b H Q=>∃v r,vs=v::r/\t v b H λa e=>u r a e Q
def xW:Ay X [] OF:=by intro Å s a H vs us Q I r h;obtain⟨e,h⟩:=h;exact assignInOrder_nil ⟨a,H,I,h⟩
def jd{e:Ç}{d:List Ç}{t:TG}{u:E0}(o:PG X e t)(n:Ay X d u)
 (m:autoParam ((ϫ (e::d) X.env).map (·.2)=assign e X.env::(ϫ d X.env).map (·.2)) Η):Ay X (e::d) (E1 t u):=by
 intro g s b H vs us Q I r h;obtain⟨v,vr,p,h⟩:=h;subst p;cases r with
 |cons r k=>rw[m];refine assignInOrder_cons<|Ż (o g s b H _ _ _ I r h) λx s1 j=>?_;refine BL λZ=>?_;obtain⟨a,w,q,l⟩:=j;refine Z ?_;exact n g s1 a w _ _ Q q k l
def OG(K:Ï)(n:Nat)(t:E0):TG:=λv b H Q=>∃a c,v=.ref a/\jH K H a c/\c.length=n/\t c b H Q
def xX{f:List Ç}{k:Nat}{t:E0}{n:Nat}(A:X.calm=Δ)(h:Ay X f t)
 (y:autoParam ((ϫ f X.env).length=n) Η)(fJ:autoParam ((ϫ f X.env).findIdx? (·.1)=Β) Η):PG X (.Tuple f k pos) (OG X.K n t):=by
 intro m s c H v u Q I r g;refine BL λZ=>?_;obtain⟨a,p,B,x,z,g⟩:=g;subst B;cases r;obtain⟨ę,j,w,hz⟩:=I.tuple x;refine Z ?_;refine assign_Tuple_tuple (I.ok.hd A) w (by simp[y,<-z,j.length]) fJ λh' q=>?_;have C:=I.kept (t':=s.toks) λb o e=>q b o (Ĕ<|ö e) e;exact h m _ c H p _ Q C (by simpa using j) g
def HN(d:TE)(g:TG):TS:=λD a H=>d a H λx e=>g x a e D.nx
def K8{f e:Ç}{l:TE}{g:TG}(he:PE X e l)(w:PG X f g)(u:autoParam (swapsWithSole [f] e pos.line X.env=pure Ε) Η)(t:autoParam (swappedStores [f] e X.env=pure Β) Η)
 (y:autoParam ((ϫ [f] X.env).map (·.2)=[assign f X.env]) Η):PS X (.Assign [f] e pos) (HN l g):=by
 intro k s a H D I h;refine wpAny_Assign_stores (Ż (he k s a H _ I h) λv s1 o=>?_) u t;refine BL λZ=>?_;obtain⟨x,A,z,p,r⟩:=o;refine Z ?_;rw[y];exact Ż (w k s1 a A x v _ z p r) λb s2 q=>q
def ub{i:Nat}{x:Str}{e:Ç}{d:TE}{g:Pos}(t:X.N.Nodup)(q:X.N[i]?=Α x)(o:Loc X.env.scope x)(he:PE X e d)(p:autoParam (ť e (Α<|.Name x g) pos.line X.env=pure Ε) Ζ)(r:autoParam (X.fn x=Δ\/X.env.scope.names.lookup x=Α .local) Μ):
 PS X (.Assign [.Name x g] e pos) (HN d<|ua i):=by
 intro k s a H D I h;refine wpAny_Assign_Name (Ż (he k s a H _ I h) λv s1 l=>?_) p;obtain⟨y,z,w,m,n⟩:=l;exact tZ w t q o m (λs2 v=>⟨_,z,v,n⟩) r
def UG(i:Nat)(f:TE)(e:RZ):TS:=λD a H=>∃x,a[i]?=Α (Α x)/\f a H λy h=>e x y h λz g=>D.nx (a.set i<|some z) g
def K9{i:Nat}{x:Str}{e:Ç}{K:TE}{C:oX}{J:RZ}{aY:Pos}(hN:X.N.Nodup)(L:X.N[i]?=Α x)(E:Loc X.env.scope x)(he:PE X e K)(ho:Y6 X C J)(hf:autoParam (X.fn x=Δ\/X.env.scope.names.lookup x=Α .local) Μ):
 PS X (.AugAssign (.Name x aY) C e pos) (UG i K J):=by
 intro z s a H D I h;refine BL λV=>?_;obtain⟨v,e1,h⟩:=h;obtain⟨m,hn,hl⟩:=I.loc;refine V ?_;have B:K_ X.env.scope x:=by rcases E with k|k;exact .inl k;exact .inr<|.inl k
 obtain⟨u,r,l⟩:=hl i x v L e1 B;refine wpAny_AugAssign_Name ?_;have N:Ð (Ú X.prog X.w) X.A (eval e X.env) (λw q=>Ð (Ú X.prog X.w) X.A (inplaceOp C u w) (λr p=>Ð (Ú X.prog X.w) X.A (storeName X.env x r) (λb=>SP X z D .next) X.xe p) X.xe q) X.xe s:=by refine Ż (he z s a H _ I h) λw s1 A=>?_;obtain⟨y,H1,I1,Y,q1⟩:=A;refine Ż (ho z s1 a H1 v y u w _ I1 r Y q1) λz s2 A=>?_;obtain⟨zv,H2,I2,W,Z⟩:=A;exact tZ I2 hN L E W (λs3 I3=>⟨_,H2,I3,Z⟩) hf
 rcases l with⟨g,hm⟩|⟨g,c,hc,o⟩
 ·exact wpAny_loadName_local I.ok.kind g hn hm N
 ·rcases g with g|g
  ·exact wpAny_loadName_cell I.ok.kind g hc o N
  ·rcases E with k|k
   ·have:X.env.scope.names.lookup x=Α .free:=g;rw[k]at this;cases this
   ·have:X.env.scope.names.lookup x=Α .free:=g;rw[k]at this;cases this
def ipI(f:Int->Int->Int):RZ:=λx y H Q=>∃i j,x=.int i/\y=.int j/\Q (.int<|f i j) H
end
section
variable{X:Cx}{pos:Pos}
def La(c:TT)(tb:TS):TS:=λD a H=>∃W:Nat->St->Hp->Prop,(∃m,W m a H)/\∀m a H,W m a H->
 c a H λb f=>if b=Δ then ∃N:St->Hp->Prop,(∀d g,N d g->∃e,e<m/\W e d g)/\tb {D with nx:=N,ct:=N,bk:=D.nx} a f else D.nx a f
def E2(y:oY (Ú X.prog X.w) X.A X.env X.xe)(hc:PT X c U)(hb:b_ X l tb):PS X (.While c l [] pos) (La U tb):=by
 intro q s g H D I h;obtain⟨W,⟨m0,R⟩,k⟩:=h;refine wpAny_While<|codeAny_whileLoop (λn Y=>∃e G,Inv X q e G Y/\W n e G) ?_ m0 ⟨g,H,I,R⟩;rintro n s1 ⟨d,E,I1,Q⟩;refine jQ y<|Ż (hc q s1 d E _ I1<|k n d E Q) λb s2 O=>?_;obtain⟨C,B,p⟩:=O;cases b with
 |true=>
  refine BL λZ=>?_;obtain⟨N,z,p⟩:=p;refine Z ?_;refine jQ y<|Ż (hb q s2 d C _ B p) λf s3 o=>?_;cases f with
  |next=>obtain⟨a,m,x,t⟩:=o;obtain⟨u,w,r⟩:=z a m t;exact⟨u,w,a,m,x,r⟩|cont=>obtain⟨a,m,x,t⟩:=o;obtain⟨u,w,r⟩:=z a m t;exact⟨u,w,a,m,x,r⟩|brk=>exact o|ret v=>exact o
 |false=>exact mJ ⟨d,C,B,p⟩
end
structure It where
 go:Nat->Hp->Prop
 OH:Nat->Hp->V->Hp->Prop
 stop:Nat->Hp->Prop
def fq(X:Cx)(a:List (À×Obj))(H:Hp)(b:À):Prop:=
 H b=Β/\b≠X.env.locals/\b∉X.fs/\(b∈X.ex\/X.s₀.heap.objs.size<=b)/\(∀x c,X.env.cells.lookup x=Α c->c≠b)/\∀p∈X.pn++a,p.1≠b
def Inv.rN(I:Inv X i a H s)(f:s.heap.objs.size<=b)(k:l b=Β):fq X i l b:=by
 refine⟨k,da<|Ţ I.lt f,I.Uy f,.inr<|ţ I.sz f,λx c e z=>?_,λp j z=>?_⟩
 ·obtain⟨v,q⟩:=I.cell x c e;exact absurd (Ţ q.lt (by rw[z];exact f))<|cG _
 ·exact absurd (Ţ (ö (I.pin p j).1) (by rw[z];exact f))<|cG _
structure Au(P:ï)(w:ã)(K:Ï)(tg:Ç)(J:It)(fp:List À)(it:À)(tn:Nat->Ô->Prop):Prop where
 mem:it∈fp
 obj:∀i h,tn i h->∀b∈fp,∃o,h.get? b=Α o/\∀v,o.data≠.cell v
 keep:∀i h h',tn i h->(∀b∈fp,∀o,h.get? b=Α o->h'.get? b=Α o)->tn i h'
 item:∀(X:Cx),X.prog=P->X.w=w->X.K=K->X.calm=Δ->∀(i:Nat) (Å:List (À×Obj)) (s:Ä) (σ:St) (H:Hp) (E:Á->Ä->Prop),Inv X Å σ H s->(∀b∈fp,fq X Å H b)->tn i s.heap->J.go i H->
  Ð (Ú P w) X.A (ij<|.ref it) (λr s1=>∃u,r=Α u/\
   Ð (Ú P w) X.A (xp tg (.ref it) u) (λy s2=>∃x H',Inv X Å σ H' s2/\RelV x u/\J.OH i H x H'/\tn (i+1) s2.heap/\∀b∈fp,H' b=Β) E s1) E s
 done:∀(X:Cx),X.prog=P->X.w=w->X.K=K->X.calm=Δ->∀(i:Nat) (Å:List (À×Obj)) (s:Ä) (σ:St) (H:Hp) (E:Á->Ä->Prop),Inv X Å σ H s->(∀b∈fp,fq X Å H b)->tn i s.heap->J.stop i H->
  Ð (Ú P w) X.A (ij<|.ref it) (λr s1=>r=Β/\Inv X Å σ H s1) E s
 self:∀(A:ì) (i:Nat) (s:Ä) (Q:Á->Ä->Prop) (E:Á->Ä->Prop),tn i s.heap->Q (.ref it) s->Ð (Ú P w) A (jR<|.ref it) Q E s
abbrev TI:=St->Hp->(It->Hp->Prop)->Prop
def Uh(X:Cx)(d:List (À×Obj))(a:St)(f:Ç)(R:It->Hp->Prop)(g:Á)(s2:Ä):Prop:=
 ∃(it:À) (e:List À) (tn:Nat->Ô->Prop) (J:It) (c:Hp),g=.ref it/\Inv X d a c s2/\Au X.prog X.w X.K f J e it tn/\tn 0 s2.heap/\(∀b∈e,fq X d c b)/\R J c
def PI(X:Cx)(tg iter:Ç)(wi:TI):Prop:=
 ∀(Å:List (À×Obj)) (s:Ä) (a:St) (H:Hp) (R:It->Hp->Prop),Inv X Å a H s->wi a H R->
  Ð (Ú X.prog X.w) X.A (eval iter X.env) (λv s1=>Ð (Ú X.prog X.w) X.A (jR v) (Uh X Å a tg R) X.xe s1) X.xe s
def zq(f:s.heap.get? it=Α o)(i:o.cls=.type n)(hd:o.data=.fields vs)
 (g:["enumerate","zip","dict_itemiterator","dict_reverseitemiterator","odict_iterator","itertools.zip_longest","itertools.pairwise"].contains n=Ε)(c:Q () s):Ð M A (xp e (.ref it) u) Q E s:=by
 cases e<;>first
  |exact ď c
  |(cases u<;>first
     |exact ď c
     |(refine à<|wpAny_load f ?_
       rw[i,hd];show Ð M A (if(["enumerate","zip","dict_itemiterator","dict_reverseitemiterator","odict_iterator","itertools.zip_longest","itertools.pairwise"].contains n&&vs[0]?==Α (fT _))=Δ then _ else _) Q E s;rw[if_neg (by intro h;rw[g,Bool.false_and]at h;cases h)];exact ď c))
noncomputable def HP(K:Ï)(a:À):It:=
 ⟨λi H=>∃b x,ż K H a b/\b[i]?=Α x,λi H x d=>d=H/\∀b,ż K H a b->b[i]?=Α x,λi H=>∃b,ż K H a b/\b.length<=i⟩
noncomputable def Y7(K:Ï)(a:À):It:=
 ⟨λi H=>∃b x,jH K H a b/\b[i]?=Α x,λi H x d=>d=H/\∀b,jH K H a b->b[i]?=Α x,λi H=>∃b,jH K H a b/\b.length<=i⟩
noncomputable def R_(b:Int)(n:Nat):It:=⟨λi y=>i<n,λi H x c=>c=H/\x=.int (b+i),λi y=>n<=i⟩
def DT{K:Ï}(a it:À):Au P w K tg (HP K a) [it] it (λi h=>h.IsListIter it a i) where
 mem:=by simp
 obj:=λi h m b n=>by
  have e:=by simpa using n
  subst e;obtain⟨o,e,c,d⟩:=m;exact⟨o,e,λv z=>by rw[d]at z;cases z⟩
 keep:=λi h h' m k=>m.at λo e=>k it (by simp) o e
 item:=by intro X G C J Z i Å s f H E I y m D;subst G C J;refine BL λY=>?_;obtain⟨xs,x,v,B⟩:=D;obtain⟨ę,A,p,hz⟩:=I.list v;obtain⟨u,hu,ru⟩:=A.get B;obtain⟨R,Q,f2,O,N,L⟩:=y it (by simp);refine Y ?_;refine wpAny_pyNext_list_item m p.isList (by simpa using hu) λh' BF sb=>?_;have I1:=I.turned (t':=s.toks) (λb o n e=>(sb.2 b n).trans e) R Q O N L;obtain⟨o,e,c,d⟩:=id BF;exact⟨u,rfl,zq e c d (by decide) ⟨x,H,I1,ru,⟨rfl,λys hy=>by rw[I.lj hy v];exact B⟩,BF,λb n=>(y b n).1⟩⟩
 done:=by intro X G C J Z i Å s f H E I y m D;subst G C J;refine BL λW=>?_;obtain⟨xs,v,B⟩:=D;obtain⟨ę,A,p,hz⟩:=I.list v;obtain⟨R,Q,f2,O,N,L⟩:=y it (by simp);refine W ?_;have hl:=A.length;exact wpAny_pyNext_list_end (I.ok.hd Z) m p.isList (by simp;lia) λh' eb=>⟨rfl,I.turned (λb o n e=>eb b o n e) R Q O N L⟩
 self:=λg g g g g m h=>wpAny_pyIter_listiter m h
def AJ{K:Ï}(a it:À):Au P w K tg (Y7 K a) [it] it (λi h=>h.IsTupleIter it a i) where
 mem:=by simp
 obj:=λi h m b n=>by
  have e:=by simpa using n
  subst e;obtain⟨o,e,c,d⟩:=m;exact⟨o,e,λv z=>by rw[d]at z;cases z⟩
 keep:=λi h h' m k=>m.at λo e=>k it (by simp) o e
 item:=by intro X J D L hc i Å s f H E I y m G;subst J D L;refine BL λZ=>?_;obtain⟨xs,x,v,C⟩:=G;obtain⟨A,B,p,hz⟩:=I.tuple v;obtain⟨u,hu,ru⟩:=B.get C;obtain⟨U,R,f2,Q,O,N⟩:=y it (by simp);refine Z ?_;refine wpAny_pyNext_tuple_item m (show s.heap.IsTuple a A.toArray from p) (by simpa using hu) λh' BF sb=>?_;have I1:=I.turned (t':=s.toks) (λb o n e=>(sb.2 b n).trans e) U R Q O N;obtain⟨o,e,c,d⟩:=id BF;exact⟨u,rfl,zq e c d (by decide) ⟨x,H,I1,ru,⟨rfl,λys hy=>by rw[I.DR hy v];exact C⟩,BF,λb n=>(y b n).1⟩⟩
 done:=by intro X J D L hc i Å s f H E I y m G;subst J D L;refine BL λY=>?_;obtain⟨xs,v,C⟩:=G;obtain⟨A,B,p,hz⟩:=I.tuple v;obtain⟨U,R,f2,Q,O,N⟩:=y it (by simp);refine Y ?_;have hl:=B.length;exact wpAny_pyNext_tuple_end (I.ok.hd hc) m (show s.heap.IsTuple a A.toArray from p) (by simp;lia) λh' eb=>⟨rfl,I.turned (λb o n e=>eb b o n e) U R Q O N⟩
 self:=λg g g g g m h=>wpAny_pyIter_tupleiter m h
def AL{K:Ï}(it:À)(p:Int)(n:Nat):Au P w K tg (R_ p n) [it] it (λi h=>IsRangeIter h it (p+(i:Nat)*1) ((n:Int)-(i:Nat)) 1) where
 mem:=by simp
 obj:=λi h f b j=>by
  have e:=by simpa using j
  subst e;exact⟨_,f,λv z=>by have z':=z;cases z'⟩
 keep:=λi h h' f k=>k it (by simp) _ f
 item:=by intro X hP hw hK v i J s a H E I q f u;subst hP hw hK;refine BL λZ=>?_;obtain⟨C,B,f2,A,y,x⟩:=q it (by simp);refine Z ?_;have W:=Walks.range (prog:=X.prog) (w:=X.w) (I.ok.hd v) it p 1 n;refine W.item i s _ _ u f λv h' tk hv BF kk=>?_;obtain⟨t,rfl⟩:=hv;have I1:Inv X J a H {s with heap:=h',toks:=tk}:=I.turned (λb o j e=>kk b o (by simpa using j) e) C B A y x;refine⟨_,rfl,zq BF rfl rfl (by decide) ⟨.int<|p+i,H,I1,⟨t,?_⟩,⟨rfl,rfl⟩,BF,λb j=>(q b j).1⟩⟩;rw[Int.mul_one]
 done:=by intro X hP hw hK v i J s a H E I q f u;refine BL λY=>?_;obtain⟨C,B,f2,A,y,x⟩:=q it (by simp);refine Y ?_;exact wpAny_pyNext_range_end (I.ok.hd v) f (by have:n<=i:=u;lia) λh' eb=>⟨rfl,I.turned (λb o j e=>eb b o j e) C B A y x⟩
 self:=λc c c c c f h=>wpAny_pyIter_rangeiter f h
section
variable{X:Cx}{tg:Ç}
def E3{d h:Int}(I:Inv X Å a H s)(h1: -(2^62)<=d)(h2:d<2^62)(h3: -(2^62)<=h)(h4:h<2^62)
 (q:R (R_ d (h-d).toNat) H):Ð (Ú X.prog X.w) X.A (jR<|.ref s.heap.objs.size) (Uh X Å a tg R) E {s with heap:=s.heap.push {cls:=.type "range",data:=.fields #[.int d t,.int h u,.int 1 v]},toks:=tk}:=by
 refine wpAny_pyIter_range (IsRange.new ..) (small_one h1 h2 h3 h4) ?_;have I1:Inv X Å a H {s with heap:=s.heap.push {cls:=.type "range",data:=.fields #[.int d t,.int h u,.int 1 v]},toks:=tk}:=I.kept λb o e=>Ć _ e;refine⟨(s.heap.push {cls:=.type "range",data:=.fields #[.int d t,.int h u,.int 1 v]}).objs.size,[(s.heap.push {cls:=.type "range",data:=.fields #[.int d t,.int h u,.int 1 v]}).objs.size],_,_,H,rfl,
  I1.kept λb o e=>Ć _ e,AL _ d (h-d).toNat,?_,λb hb=>?_,q⟩
 ·have e1:d+((0:Nat):Int)*1=d:=by simp
  have e2:(((h-d).toNat:Nat):Int)-((0:Nat):Int)=Builtin.Range.rangeSize d h 1:=by rw[rangeSize_one];split<;>lia
  rw[e1,e2];exact ĵ _ rfl
 ·have e:b=(s.heap.push {cls:=.type "range",data:=.fields #[.int d t,.int h u,.int 1 v]}).objs.size:=by simpa using hb
  subst e;exact I1.rN (õ _)<|I1.hok.fresh<|õ _
def OI(d:TA):TI:=λa H R=>d a H λvs e=>∃j:Int,vs=[.int j]/\ -(2^62)<=j/\j<2^62/\R (R_ 0 j.toNat) e
def DU{a:Ç}{k:TA}{p pos:Pos}(y:Gl X "range")(x:X.mg "range"=Β)(z:PA X [a] k)(w:autoParam (Î [a] X.env=[(Ε,eval a X.env)]) Η):PI X tg (.Call (.Name "range" p) [a] [] pos) (OI k):=by
 intro m s b H R I h;refine Call_<|iX I y x boot_range<|jP (Ż (z pos m s b H _ I h) λus s1 n=>?_) w rfl;obtain⟨vs,H1,B,u,f⟩:=n;obtain⟨j,e,f,v,q⟩:=f;subst e;cases u with
 |cons r o=>cases o;obtain⟨t,rfl⟩:=r;exact call_range_1 (E3 B (by lia) (by lia) f v<|by simpa using q)
def UH(k:TI)(g:TG)(tb:TS):TS:=λD a H=>k a H λJ n=>∃W:Nat->Nat->St->Hp->Prop,(∃m,W 0 m a n)/\∀i m a H,W i m a H->
 (J.stop i H/\D.nx a H)\/(J.go i H/\∃N:St->Hp->Prop,(∀b d,N b d->∃e,e<m/\W (i+1) e b d)/\∀x d,J.OH i H x d->g x a d λc l=>tb {D with nx:=N,ct:=N,bk:=D.nx} c l)
noncomputable def uc(fp:List À)(h:Ô):List (À×Obj):=fp.filterMap λb=>(h.get? b).map λo=>(b,o)
def dY(a:b∈fp)(e:h.get? b=Α o):(b,o)∈uc fp h:=wO.mpr ⟨b,a,by rw[e];rfl⟩
def DW(a:p∈uc fp h):p.1∈fp/\h.get? p.1=Α p.2:=by
 obtain⟨b,c,e⟩:=wO.mp a;cases q:h.get? b with
 |none=>rw[q]at e;cases e|some o=>rw[q]at e;have d:=Ň e;subst d;exact⟨c,q⟩
def Inv.pinned(I:Inv X c a H s)(j:∀b∈fp,fq X c H b)(i:∀b∈fp,∃o,s.heap.get? b=Α o/\∀v,o.data≠.cell v):Inv X (c++uc fp s.heap) a H s:=
 I.CB fun p h=>(Ŵ.mp h).elim (fun z=>I.pin p<|ž _ z) fun z=>by obtain⟨f,e⟩:=DW z;refine BL λZ=>?_;obtain⟨m,l,k,_⟩:=j p.1 f;obtain⟨o,g,d⟩:=i p.1 f;refine Z ?_;rw[e]at g;cases g;exact⟨e,m,l,k,d⟩
def Inv.lm(I:Inv X (c++pl) a H s):Inv X c a H s:=I.CB λp d=>I.pin p<|ž _<|jJ _ d
def E4{r:Ç}{C:List æ}{wi:TI}{g:TG}{tb:TS}{pos:Pos}(U:oY (Ú X.prog X.w) X.A X.env X.xe)(hc:X.calm=Δ)(hi:PI X tg r wi)(hg:PG X tg g)(t:b_ X C tb)
 (hs:autoParam (∀x,de r X.env x=pure x) Ν):PS X (.For tg r C [] pos) (UH wi g tb):=by
 intro E s l H D I h;refine wpAny_For (Ż (hi E s l H _ I h) λv s1 h1=>Ż h1 λX5 s2 h2=>?_) hs;refine BL λV=>?_;obtain⟨it,Y,tn,J,H2,e,I2,T,HC,f2,W,⟨m0,w0⟩,L⟩:=h2;refine V ?_;subst e;have q:∀{A:Hp},(∀b∈Y,A b=Β)->∀b∈Y,fq X E A b:=λhn b t=>⟨hn b t,(f2 b t).2⟩;refine codeAny_forLoop_any (λn s'=>∃i c A,Inv X E c A s'/\tn i s'.heap/\(∀b∈Y,A b=Β)/\W i n c A) ?_ m0 ⟨0,l,H2,I2,HC,λb t=>(f2 b t).1,w0⟩;rintro n s3 ⟨i,j,Z,I3,Q,Y8,w3⟩;rcases L i n j Z w3 with⟨O,qn⟩|⟨go,N,hN,step⟩
 ·refine jQ U<|Ż (T.done X rfl rfl rfl hc i E s3 j Z X.xe I3 (q Y8) Q O) ?_;rintro r s4 ⟨hr,I4⟩;subst hr;exact mJ ⟨j,Z,I4,qn⟩
 ·refine jQ U<|Ż (T.item X rfl rfl rfl hc i E s3 j Z X.xe I3 (q Y8) Q go) ?_;rintro r s4 ⟨u,hr,h4⟩;subst hr;refine jQ U<|Ż h4 λp s5 zz=>?_;refine BL λV=>?_;obtain⟨x,H5,I5,r5,y5,N6,R0⟩:=zz;refine V ?_;have I5':=I5.pinned (q R0)<|T.obj _ _ N6;refine jQ U<|Ż (hg _ s5 j H5 x u _ I5' r5<|step x H5 y5) λp s6 zz=>?_;refine BL λV=>?_;obtain⟨k,H6,I6,q6⟩:=zz;refine V ?_;refine jQ U<|Ż (t _ s6 k H6 _ I6 q6) λf s7 B=>?_;have w:∀{a:St}{z:Hp},Inv X (E++uc Y s5.heap) a z s7->N a z->∃m,m<n/\∃i c A,Inv X E c A s7/\tn i s7.heap/\(∀b∈Y,A b=Β)/\W i m c A:=fun{a z} y R=>by
   obtain⟨m',hm,w7⟩:=hN a z R;refine⟨m',hm,i+1,a,z,y.lm,T.keep _ _ _ N6 λb t o e=>(y.pin (b,o)<|ž _<|ž _<|dY t e).1,λb t=>?_,w7⟩;obtain⟨o,e,d⟩:=T.obj _ _ N6 b t;exact(y.pin (b,o)<|ž _<|ž _<|dY t e).2.1
  cases f with
  |next=>obtain⟨a,z,y,R⟩:=B;exact w y R|cont=>obtain⟨a,z,y,R⟩:=B;exact w y R|brk=>obtain⟨a,z,y,B⟩:=B;exact⟨a,z,y.lm,B⟩|ret v=>obtain⟨x7,a,z,y,r7,B⟩:=B;exact⟨x7,a,z,y.lm,r7,B⟩
end
abbrev R2:=V->V->Hp->VK->Prop
def aQ(X:Cx)(f:Á->Á->Sem Á)(r:R2):Prop:=
 ∀(b:List (À×Obj)) (s:Ä) (a:St) (H:Hp) (x y:V) (v u:Á) (Q:VK),Inv X b a H s->RelV x v->RelV y u->r x y H Q->
  Ð (Ú X.prog X.w) X.A (f v u) (EP X b a Q) X.xe s
def Hq(X:Cx)(f:Á->Sem Á)(r:V->Hp->VK->Prop):Prop:=
 ∀(b:List (À×Obj)) (s:Ä) (a:St) (H:Hp) (x:V) (v:Á) (Q:VK),Inv X b a H s->RelV x v->r x H Q->
  Ð (Ú X.prog X.w) X.A (f v) (EP X b a Q) X.xe s
def Ŝ(X:Cx)(f:Á)(r:List V->Hp->VK->Prop):Prop:=
 ∀(b:List (À×Obj)) (s:Ä) (a:St) (H:Hp) (c:List V) (d:List Á) (Q:VK),Inv X b a H s->Ő c d->r c H Q->
  Ð (Ú X.prog X.w) X.A (call f d) (EP X b a Q) X.xe s
def UI(X:Cx)(r:V->Hp->(Bool->Hp->Prop)->Prop):Prop:=
 ∀(d:List (À×Obj)) (s:Ä) (a:St) (H:Hp) (x:V) (v:Á) (Q:Bool->Hp->Prop),Inv X d a H s->RelV x v->r x H Q->
  Ð (Ú X.prog X.w) X.A (truthy v) (TP X d a Q) X.xe s
def HQ(r:R2)(e tb:TE):TE:=λa H Q=>e a H λx g=>tb a g λy f=>r x y f Q
def Y9(r:V->Hp->VK->Prop)(d:TE):TE:=λa H Q=>d a H λx e=>r x e Q
def rI(C:Int->Int->Prop)(g:Int->Int->V):R2:=λx y H Q=>∃i j,x=.int i/\y=.int j/\C i j/\Q (g i j) H
def HS(g:Int->Int->V):R2:=λx y H Q=>∃i j,x=.int i/\y=.int j/\Q (g i j) H
def rU(g:Int->V):V->Hp->VK->Prop:=λx H Q=>∃i,x=.int i/\Q (g i) H
section
variable{X:Cx}{a b:Ç}{ta tb:TE}{pos:Pos}
def Lb(B:PE X a ta)(A:PE X b tb){R:V->V->Hp->Prop}(I:Inv X l c H s)
 (h:ta c H λx n=>tb c n λy d=>R x y d){f:Á->Á->Sem Á}
 (z:∀v u s2 x y d,Inv X l c d s2->RelV x v->RelV y u->R x y d->Ð (Ú X.prog X.w) X.A (f v u) Q X.xe s2):
 Ð (Ú X.prog X.w) X.A (eval a X.env) (λv g=>Ð (Ú X.prog X.w) X.A (eval b X.env) (λu e=>Ð (Ú X.prog X.w) X.A (f v u) Q X.xe e) X.xe g) X.xe s:=by
 refine Ż (B l s c H _ I h) λv s1 m=>?_;obtain⟨x,n,E,r,w⟩:=m;refine Ż (A l s1 c n _ E w) λu s2 m=>?_;obtain⟨y,d,D,q,t⟩:=m;exact z v u s2 x y d D r q t
def JQ(k:aQ X (ŉ j) r)(m:PE X a ta)(l:PE X b tb):PE X (.BinOp a j b pos) (HQ r ta tb):=λÅ s c H Q I h=>wpAny_BinOp<|Lb m l I h λv u s2 x y o n i g q=>k Å s2 c o x y v u Q n i g q
def JR(m:Hq X (unaryOp l) r)(n:PE X a ta):PE X (.UnaryOp l a pos) (Y9 r ta):=λÅ s c H Q I h=>UnaryOp_<|Ż (n Å s c H _ I h)<|by rintro v s1 ⟨x,p,o,j,k⟩;exact m Å s1 c p x v Q o j k
def CH{g:Int->Int->Int}
 (d:∀(i j:Int) (t u:Tok) (s:Ä) (Q:Á->Ä->Prop) (E:Á->Ä->Prop),C i j->Q (.int (g i j) s.toks) {s with toks:=s.toks+1}->Ð (Ú X.prog X.w) X.A (f (.int i t)<|.int j u) Q E s):
 aQ X f (rI C λi j=>.int<|g i j):=by
 intro Å s c H x y v u Q I n m h;obtain⟨i,j,rfl,rfl,o,q⟩:=h;obtain⟨t,rfl⟩:=n;obtain⟨l,rfl⟩:=m;exact d i j t l s _ _ o ⟨.int<|g i j,H,I.tok _,⟨_,rfl⟩,q⟩
def zr{g:Int->Int->Int}
 (d:∀(i j:Int) (t u:Tok) (s:Ä) (Q:Á->Ä->Prop) (E:Á->Ä->Prop),Q (.int (g i j) s.toks) {s with toks:=s.toks+1}->Ð (Ú X.prog X.w) X.A (f (.int i t)<|.int j u) Q E s):
 aQ X f (HS λi j=>.int<|g i j):=by
 intro Å s c H x y v u Q I n m h;obtain⟨i,j,rfl,rfl,q⟩:=h;obtain⟨t,rfl⟩:=n;obtain⟨l,rfl⟩:=m;exact d i j t l s _ _ ⟨.int<|g i j,H,I.tok _,⟨_,rfl⟩,q⟩
def Lc{g:Int->Int->Bool}
 (d:∀(i j:Int) (t u:Tok) (s:Ä) (Q:Á->Ä->Prop) (E:Á->Ä->Prop),Q (.bool<|g i j) s->Ð (Ú X.prog X.w) X.A (f (.int i t)<|.int j u) Q E s):
 aQ X f (HS λi j=>.bl<|g i j):=by
 intro Å s c H x y v u Q I n m h;obtain⟨i,j,rfl,rfl,q⟩:=h;obtain⟨t,rfl⟩:=n;obtain⟨l,rfl⟩:=m;exact d i j t l s _ _ ⟨.bl<|g i j,H,I,rfl,q⟩
def OJ(i j:Int):Prop:=0<j/\j<1073741824
def DX(i j:Int):Prop:=0<=j/\j<=1000000/\i.natAbs<2^64
def Ld(i j:Int):Prop:=(-(2^64)<i/\i<2^64)\/(-(2^64)<j/\j<2^64)
def Ld.ok(h:Ld i j):IntMulOk i j:=by
 rcases h with⟨f,e⟩|⟨f,e⟩
 ·exact .of_left<|intBits_le_64 f e
 ·exact .of_right<|intBits_le_64 f e
def AM(k:Nat):(0:Int)<=2^k:=by rw[two_pow_cast];exact wL _
def Le:aQ X (ŉ .Add) (HS λi j=>.int<|i+j):=zr λx x x x x x x q=>add_int q
def Lf:aQ X (ŉ .Sub) (HS λi j=>.int<|i-j):=zr λx x x x x x x q=>sub_int q
def HU:aQ X (ŉ .Mod) (rI (λx j=>j≠0) λi j=>.int<|i.fmod j):=CH λx x x x x x x f q=>mod_int' f q
def Lg:aQ X (ŉ .Pow) (rI DX λi j=>.int<|i^j.toNat):=CH λx x x x x x x d q=>pow_int_small d.1 d.2.1 d.2.2 q
def Li:aQ X (ŉ .LShift) (rI DX λi j=>.int<|i*2^j.toNat):=CH λx x x x x x x d q=>lshift_int_small d.1 d.2.1 d.2.2 q
def Lj:aQ X (ŉ .RShift) (rI (λx j=>0<=j) λi j=>.int<|i/2^j.toNat):=CH λi j x x x x x f q=>
 rshift_int f (by rw[oG i<|AM _];exact q)
def Lk:aQ X (ŉ .BitAnd) (HS λi j=>.int<|dn i j):=zr λx x x x x x x q=>and_int q
def unI{g:Int->Int}
 (d:∀(i:Int) (t:Tok) (s:Ä) (Q:Á->Ä->Prop) (E:Á->Ä->Prop),Q (.int (g i) s.toks) {s with toks:=s.toks+1}->Ð (Ú X.prog X.w) X.A (f<|.int i t) Q E s):
 Hq X f (rU λi=>.int<|g i):=by
 intro Å s c H x v Q I k h;obtain⟨i,rfl,q⟩:=h;obtain⟨t,rfl⟩:=k;exact d i t s _ _ ⟨.int<|g i,H,I.tok _,⟨_,rfl⟩,q⟩
def E5:Hq X (unaryOp .USub) (rU λi=>.int<|-i):=unI λx x x x x q=>neg_int q
end
section
variable{X:Cx}{a b:Ç}{ta tb:TE}{pos:Pos}
def E6(I:Inv X d c H s)(q:Q (.bl k) H)(e:k=f):EP X d c Q (.bool f) s:=by subst e;exact⟨.bl k,H,I,rfl,q⟩
def OK:aQ X (Ĵ .Lt) (HS λi j=>.bl<|decide<|i<j):=Lc λx x x x x x x q=>lt_int q
def OL:aQ X (Ĵ .LtE) (HS λi j=>.bl<|decide<|i<=j):=Lc λx x x x x x x q=>le_int q
def OM:aQ X (Ĵ .Gt) (HS λi j=>.bl<|decide<|j<i):=Lc λx x x x x x x q=>gt_int q
def lq:aQ X (Ĵ .Is) (λx y H Q=>y=.non/\Q (.bl<|decide<|x=.non) H):=by
 intro Å s c H x y v u Q I e g h;obtain⟨rfl,q⟩:=h;cases g;refine is_none_gen<|E6 I q ?_;cases x<;>first
  |(cases e;rfl)
  |(obtain⟨t,rfl⟩:=e;rfl)
def CI:aQ X (Ĵ .IsNot) (λx y H Q=>y=.non/\Q (.bl<|!decide (x=.non)) H):=by
 intro Å s c H x y v u Q I e g h;obtain⟨rfl,q⟩:=h;cases g;refine isnot_none_gen<|E6 I q ?_;cases x<;>first
  |(cases e;rfl)
  |(obtain⟨t,rfl⟩:=e;rfl)
def aQ.or(h:aQ X f r)(h':aQ X f j):aQ X f (λx y H Q=>r x y H Q\/j x y H Q):=by
 intro d s c H x y v u Q I g e q;rcases q with q|q
 ·exact h d s c H x y v u Q I g e q
 ·exact h' d s c H x y v u Q I g e q
def Ġ(b:Ç){d:df}(h:autoParam (d≠.In) Ι)(f:autoParam (d≠.NotIn) Ι):ik d b=Ε:=by
 have i:(d==CmpOp.In)=Ε:=by cases d<;>first|rfl|exact absurd rfl h
 have g:(d==CmpOp.NotIn)=Ε:=by cases d<;>first|rfl|exact absurd rfl f
 cases b<;>first|rfl|(unfold ik;dsimp only;simp[i,g])
def CJ(k:aQ X (Ĵ f) r)(n:PE X a ta)(m:PE X b tb)(l:ik f b=Ε):PE X (.Compare a [f] [b] pos) (HQ r ta tb):=λÅ s c H Q I h=>wpAny_Compare1 (Lb n m I h λv u s2 x y p o j i q=>k Å s2 c p x y v u Q o j i q) l
def Ll(K:Ï)(x:V)(H:Hp)(k:Bool):Prop:=
 match x with
 |.non=>k=Ε|.bl b=>k=b|.int i=>k=(i !=0)|.str y=>y.length<=sizeLine/\k=((y.length:Int) !=0)|.HI y=>y.size<=sizeLine/\k=((y.size:Int) !=0)|.ref p=>(∃d,ż K H p d/\k=!d.isEmpty)\/(∃d,jH K H p d/\k=!d.isEmpty)\/∃e,H p=Α (.dK e)/\k=!e.isEmpty|_=>False
def AN{c:Type}{d:List (c×V)}{vs:List (c×Á)}(r:KV d vs):(!vs.isEmpty)=!d.isEmpty:=by cases r<;>rfl
def ud(r:Ő xs c):(!c.toArray.isEmpty)=!xs.isEmpty:=by cases r<;>simp
def xY:(sizeLine:Nat)<2^63:=by rw[cH];decide
def Lm:UI X (λx H Q=>∃k,Ll X.K x H k/\Q k H):=by
 intro Å s c H x v Q I rx h;obtain⟨k,e,q⟩:=h;have hl:=xY;have hs:sizeLine=16777216:=cH;cases x with
 |non=>cases rx;have f:k=Ε:=e;subst f;exact truthy_none ⟨H,I,q⟩|bl b=>cases rx;have f:k=b:=e;subst f;exact eL ⟨H,I,q⟩|int i=>obtain⟨t,rfl⟩:=rx;have f:k=(i !=0):=e;subst f;exact PySem.P.truthy_int ⟨H,I,q⟩|str y=>obtain⟨t,rfl⟩:=rx;obtain⟨hy,f⟩:y.length<=sizeLine/\k=((y.length:Int) !=0):=e;subst f;exact PySem.P.truthy_str (by lia) ⟨H,I.tok _,q⟩|HI y=>obtain⟨t,rfl⟩:=rx;obtain⟨hy,f⟩:y.size<=sizeLine/\k=((y.size:Int) !=0):=e;subst f;exact PySem.W.truthy_bytes (by lia) ⟨H,I.tok _,q⟩|ref p=>
  cases rx;have f:(∃xs,ż X.K H p xs/\k=!xs.isEmpty)\/(∃xs,jH X.K H p xs/\k=!xs.isEmpty)\/∃bv,H p=Α (.dK bv)/\k=!bv.isEmpty:=e;rcases f with⟨xs,hx,f⟩|⟨xs,hx,f⟩|⟨bv,hx,f⟩
  ·subst f;obtain⟨ę,r,pl,hz⟩:=I.list hx;have hlen:=r.length;exact wpAny_truthy_list pl.isList (by simp only[Ł];lia) ⟨H,I.tok _,by rw[ud r];exact q⟩
  ·subst f;obtain⟨ę,r,pl,hz⟩:=I.tuple hx;have hlen:=r.length;exact truthy_tuple pl (by simp only[Ł];lia) ⟨H,I.tok _,by rw[ud r];exact q⟩
  ·subst f;obtain⟨hz,hS,vs,r,m⟩:bv.length<=sizeLine/\(p==oW)=Ε/\∃vs,KV bv vs/\s.heap.DictOf (xS X.prog X.w) p vs:=I.hok p _ hx;have hlen:bv.length=vs.length:=Paired.length r;exact wpAny_truthy_dict hS m (by lia) ⟨H,I.tok _,by rw[AN r];exact q⟩
 |_=>exact(show False from e).elim
def zt(q:PE X a ta)(he:∀d,isTrue a X.env d=(do let v<-d;fU a.pos;cI [v] (truthy v))):
 PT X a (λc H Q=>ta c H λx j=>∃k,Ll X.K x j k/\Q k j):=by
 intro i s c H Q I h;exact isTrue_plain (Ż (q i s c H _ I h)<|by rintro v s1 ⟨x,t,r,o,p⟩;exact Lm i s1 c t x v Q r o p)<|he _
def AO:aQ X (ŉ .Add) (λx y H Q=>∃i j,x=.str i/\y=.str j/\i.length+j.length<=sizeLine/\Q (.str<|i++j) H):=by intro Å s c H x y v u Q I l k h;obtain⟨i,j,rfl,rfl,m,q⟩:=h;obtain⟨t,rfl⟩:=l;obtain⟨t',rfl⟩:=k;exact add_str (λt' tk=>⟨.str<|i++j,H,I.tok _,⟨_,rfl⟩,q⟩) m
def vals1(r:Ő [x] c):∃u,c=[u]/\RelV x u:=by
 cases r with
 |cons e d=>cases d;exact⟨_,rfl,e⟩
def vals2(r:Ő [x,y] d):∃u c,d=[u,c]/\RelV x u/\RelV y c:=by
 cases r with
 |cons h g=>
  cases g with
  |cons f e=>cases e;exact⟨_,_,rfl,h,f⟩
def E7:Ŝ X (.builtin "abs") (λxs H Q=>∃i,xs=[.int i]/\Q (.int<|if i<0then -i else i) H):=by intro Å s c H xs us Q I r h;obtain⟨i,rfl,q⟩:=h;obtain⟨u,rfl,t,rfl⟩:=vals1 r;exact call_abs_int λu tk=>⟨.int<|if i<0then -i else i,H,I.tok _,⟨_,rfl⟩,q⟩
def DZ(o:X.calm=Δ):Ŝ X (.builtin "max") (λxs H Q=>∃i j,xs=[.int i,.int j]/\Q (.int<|if j>i then j else i) H):=by
 intro Å s c H xs us Q I r h;obtain⟨i,j,rfl,q⟩:=h;obtain⟨u,w',rfl,⟨t,rfl⟩,⟨t',rfl⟩⟩:=vals2 r;refine max_two_ints (I.ok.hd o) λh' tk k=>⟨_,H,I.kept k,?_,q⟩;by_cases l:j>i
 ·rw[if_pos l,if_pos l];exact⟨_,rfl⟩
 ·rw[if_neg l,if_neg l];exact⟨_,rfl⟩
def D_(o:X.calm=Δ):Ŝ X (.builtin "min") (λxs H Q=>∃i j,xs=[.int i,.int j]/\Q (.int<|if j<i then j else i) H):=by
 intro Å s c H xs us Q I r h;obtain⟨i,j,rfl,q⟩:=h;obtain⟨u,w',rfl,⟨t,rfl⟩,⟨t',rfl⟩⟩:=vals2 r;refine min_two_ints (I.ok.hd o) λh' tk k=>⟨_,H,I.kept k,?_,q⟩;by_cases l:j<i
 ·rw[if_pos l,if_pos l];exact⟨_,rfl⟩
 ·rw[if_neg l,if_neg l];exact⟨_,rfl⟩
def D0:Ŝ X (.type "int") (λxs H Q=>(∃i,xs=[.int i]/\Q (.int i) H)\/∃k,xs=[.bl k]/\Q (.int<|if k then 1 else 0) H):=by
 intro Å s c H xs us Q I r h;rcases h with⟨i,rfl,q⟩|⟨k,rfl,q⟩
 ·obtain⟨u,rfl,t,rfl⟩:=vals1 r;exact call_int_int ⟨.int i,H,I,⟨_,rfl⟩,q⟩
 ·obtain⟨u,rfl,g⟩:=vals1 r;cases g;exact call_int_bool ⟨.int<|if k then 1 else 0,H,I.tok _,⟨_,rfl⟩,q⟩
def xZ:Ŝ X (.type "str") (λxs H Q=>∃i,xs=[.int i]/\i.natAbs.log2<1920/\Q (.str<|ϙ i) H):=by intro Å s c H xs us Q I r h;obtain⟨i,rfl,f,q⟩:=h;obtain⟨u,rfl,t,rfl⟩:=vals1 r;exact PySem.P.str_of_int f ⟨.str _,H,I.tok _,⟨_,rfl⟩,q⟩
def UJ(K:Ï)(x:V)(H:Hp)(n:Nat):Prop:=
 match x with
 |.str y=>y.length<=sizeLine/\n=y.length|.HI y=>y.size<=sizeLine/\n=y.size|.ref p=>(∃d,ż K H p d/\n=d.length)\/∃d,jH K H p d/\n=d.length|_=>False
def E8:Ŝ X (.builtin "len") (λxs H Q=>∃x n,xs=[x]/\UJ X.K x H n/\Q (.int n) H):=by
 intro Å s c H xs us Q I r h;obtain⟨x,n,rfl,e,q⟩:=h;obtain⟨u,rfl,j⟩:=vals1 r;have hs:=cH;cases x with
 |str y=>obtain⟨t,rfl⟩:=j;obtain⟨C,f⟩:=e;subst f;exact len_str (by lia) ⟨.int _,H,I.tok _,⟨_,rfl⟩,q⟩|HI y=>obtain⟨t,rfl⟩:=j;obtain⟨C,f⟩:=e;subst f;exact PySem.W.len_bytes (by lia) ⟨.int _,H,I.tok _,⟨_,rfl⟩,q⟩|ref p=>
  cases j;have f:=e;rcases f with⟨xs,m,f⟩|⟨xs,m,f⟩
  ·subst f;obtain⟨z,k,l,B⟩:=I.list m;have d:=k.length;exact Calls.call_len_list l.isList (by simp only[Ł];lia) ⟨.int xs.length,H,I.tok _,⟨_,by simp only[Ł];rw[d]⟩,q⟩
  ·subst f;obtain⟨z,k,l,B⟩:=I.tuple m;have d:=k.length;exact len_tuple l (by simp only[Ł];lia) ⟨.int xs.length,H,I.tok _,⟨_,by simp only[Ł];rw[d]⟩,q⟩
 |_=>exact(show False from e).elim
def zu:Ŝ X (.builtin "divmod") (λxs H Q=>∃i j,xs=[.int i,.int j]/\OJ i j/\∀p,H p=Β->Q (.ref p) (upd H p<|.tup [.int<|i/j,.int<|i%j])):=by intro Å s c H xs us Q I r h;refine BL λZ=>?_;obtain⟨i,j,rfl,⟨h1,h2⟩,q⟩:=h;obtain⟨u,w',rfl,⟨t,rfl⟩,⟨t',rfl⟩⟩:=vals2 r;refine Z ?_;refine divmod_int (by lia) ?_ (.inl<|PyProof.noPylong_small<|by lia);rw[oG i (by lia),r_ i<|by lia];have l:=I.hok.fresh<|õ _;refine⟨.ref s.heap.objs.size,_,?_,rfl,q _ l⟩;refine I.laid (λb o e=>Ć _ e) (õ _) ⟨by simp only[Ė];decide,[.int (i/j) s.toks,.int (i%j)<|s.toks+1],.cons ⟨_,rfl⟩<|.cons ⟨_,rfl⟩ .nil,?_⟩;exact⟨_,ĵ s.heap rfl,rfl,0,rfl⟩
end
structure AQ(h:Ô)(x dx C:À)(mA:Str->Option Á):Prop where
 obj:h.get? x=Α (ka C dx)
 ns:h.Ns1 dx mA
 ne:dx≠x
set_option tactic.hygienic true in
def D3{h:Ô}(n:h.Ns1 w p):∃l,h.get? w=Α l/\∀name,tu name l=Α (p name):=by
 obtain⟨o,m,ep,s,hd,v,_,u⟩:=n;refine⟨o,s,λname=>?_⟩;have e:=u name;unfold nsFind findBy at e;rw[<-Array.find?_toList]at e;unfold tu;rw[hd];dsimp only;split
 ·rename_i y q;rw[q]at e;exact congrArg Α e
 ·rename_i q;rw[q]at e;have a:m.toList.any (·.refKey)=Ε:=by
   rw[List.any_eq_false];intro y r;obtain⟨z,t,A⟩:=v y<|Array.mem_toList_iff.mp r;simp[DictEntry.refKey,A]
  have x:¬m.toList.any (·.refKey)=Δ:=by rw[a];exact oC
  rw[if_neg x];exact congrArg Α e
def AQ.look(I:AQ h x g C d):∃b,PySem.W.InstAt h x (ka C g) C (Α b)/\∀a,tu a b=Α (d a):=
 let ⟨b,e,f⟩:=D3 I.ns
 ⟨b,⟨I.obj,rfl,rfl,e⟩,f⟩
section
variable{prog:ï}{w:ã}{A:ì}{E:Á->Ä->Prop}{s:Ä}{K:Ï}{x dx C f:À}{mA:Str->Option Á}{name:Str}{v:Á}
def JJ(X:K.In s.heap)(I:AQ s.heap x dx C mA)(i:pk K C name=Δ)(g:tw K C=Δ)
 (j:Ϗ K (.ref C) name=Α Β)(d:mA name=Α v)(k:Cy v=Δ)(h:Q v {s with toks:=s.toks+1}):
 Ð (Ú prog w) A (getAttr (.ref x) name X7) Q E s:=by
 obtain⟨od,J,e⟩:=I.look;exact PySem.W.get_value X J (xK i).1 (PySem.W.findObj_own g j rfl<|by rw[e,d]) k h
def E9(X:K.In s.heap)(I:AQ s.heap x dx C mA)(c:pk K C name=Δ)
 (j:Ϗ K (.ref C) name=Α (Α<|.ref f))(g:pq K (.ref f)=Δ)(e:mA name=Β)(h:Q (.ref f,[.ref x]) s):
 Ð (Ú prog w) A (il (.ref x) name pl) Q E s:=by
 obtain⟨d,J,i⟩:=I.look;exact PySem.W.method_fn X J (xK c).1 (xK c).2 j (beq_iff_eq.mp g) (by show(tu name d).map (·.isSome)=Α Ε;rw[i,e];rfl) h
def HV(X:K.In s.heap)(I:AQ s.heap x dx C mA)
 (D:Ϗ K (.ref C) "__setattr__"=Α (Α<|.builtin "object.__setattr__"))(G:xL K C=Δ)(B:xM K C name=Α Β)(H:tw K C=Δ)
 (z:xm mA ns)(lh:ns.length<=sizeLine)
 (h:∀h',AQ h' x dx C (λy=>if y=name then Α v else mA y)->iy dx s.heap h'->Q () {s with heap:=h',toks:=s.toks+2}):
 Ð (Ú prog w) A (setAttr (.ref x) name v) Q E s:=by
 obtain⟨od,J,hl⟩:=I.look;refine PySem.W.set_plain X J D<|PySem.W.osa_open X J G B λb=>?_;refine BL λY=>?_;obtain⟨cd,L,R⟩:=PySem.W.any_some H;refine Y ?_;have u:=I.obj;refine à<|ď<|à<|à<|wpAny_loadPart u<|à<|PySem.W.Looks.here (PySem.W.looks_clsIn X L) ?_;rw[R];refine ď<|à<|ď<|à ?_;refine wpAny_nsSet1 I.ns λh' q n=>?_;refine BL λZ=>?_;obtain⟨oD,N,O,j,k,l⟩:=q.count<|PySem.Within.cons name v z;refine Z ?_;refine à (wpAny_lookBehind j (by rw[k];exact pastItsLine_dict<|ţ l (by rw[Ė];omega)) ?_);exact ď<|h _ ⟨(n.2 _<|Ť I.ne).trans I.obj,q,I.ne⟩ n
def Fa(X:K.In s.heap)(g:xN K C=Δ)
 (i:Ϗ K (.ref C) "__init__"=Α (Α<|.ref f))(j:PySem.W.typeIn K (.ref f)=Α (.type "function"))
 (h:eM (Ú prog w) (A.under<|.builtin "type.__call__" ⟨.ref C::vs,d⟩) (.call (.ref f) ⟨.ref (s.heap.objs.size+1)::vs,d⟩) (PySem.W.InitBack (s.heap.objs.size+1) R)
   {s with heap:=(s.heap.push iB).push (ka C s.heap.objs.size)}):
 eM (Ú prog w) A (.call (.ref C) ⟨vs,d⟩) R s:=by
 exact PySem.W.make_core (PySem.W.makes_of X g) (PySem.W.looks_findIn X i) (λself=>PySem.W.bind_fn X self j) (.inl rfl) h
end
noncomputable def ki(f:Str)(v:V):List (Str×V)->List (Str×V)
 |[]=>[(f,v)]|(g,x)::r=>if g=f then(g,v)::r else(g,x)::ki f v r
theorem qZ(f g:Str)(v:V):∀fs:List (Str×V),(ki f v fs).lookup g=if g=f then Α v else fs.lookup g
 |[]=>by
   show eG g [(f,v)]=_;by_cases h:g=f
   ·have j:=beq_iff_eq.mpr h;simp only[eG,j,if_pos h]
   ·have j:=beq_eq_false_iff_ne.mpr h;simp only[eG,j,if_neg h]
 |(k,x)::r=>by
  have n:=qZ f g v r;rw[show ki f v ((k,x)::r)=(if k=f then(k,v)::r else(k,x)::ki f v r)from rfl];by_cases l:k=f
  ·rw[if_pos l];by_cases h:g=k
   ·have j:=beq_iff_eq.mpr h;simp only[eG,j,if_pos<|h.trans l]
   ·have j:=beq_eq_false_iff_ne.mpr h;simp only[eG,j,if_neg (λe:g=f=>h<|e.trans l.symm)]
  ·rw[if_neg l];by_cases h:g=k
   ·have j:=beq_iff_eq.mpr h;simp only[eG,j,if_neg (λe:g=f=>l<|h.symm.trans e)]
   ·have j:=beq_eq_false_iff_ne.mpr h;simp only[eG,j];exact n
theorem qF(f:Str)(v:V):∀fs:List (Str×V),f∈(ki f v fs).map (·.1)/\∀g,g∈fs.map (·.1)->g∈(ki f v fs).map (·.1)
 |[]=>⟨by dsimp only[ki];simp[],λg h=>by simp at h⟩
 |(k,x)::r=>by
  obtain⟨l,j⟩:=qF f v r;rw[show ki f v ((k,x)::r)=(if k=f then(k,v)::r else(k,x)::ki f v r)from rfl];by_cases i:k=f
  ·rw[if_pos i];subst i;exact⟨by simp,λg h=>by simpa using h⟩
  ·rw[if_neg i];refine⟨?_,λg h=>?_⟩
   ·rw[â];exact ð _ l
   ·rw[â]at h⊢;rcases ù.mp h with e|e
    ·exact ù.mpr<|.inl e
    ·exact ð _<|j g e
theorem q_(f:Str)(v:V):∀fs:List (Str×V),(ki f v fs).length<=fs.length+1
 |[]=>by dsimp only[ki];simp[]|(k,x)::r=>by
  have ih:=q_ f v r;rw[show ki f v ((k,x)::r)=(if k=f then(k,v)::r else(k,x)::ki f v r)from rfl];by_cases d:k=f
  ·rw[if_pos d,Ė,Ė];lia
  ·rw[if_neg d,Ė,Ė];lia
def vh.some_of(r:vh (Α v) o):∃u,o=Α u/\RelV v u:=by
 cases o with
 |none=>exact(show False from r).elim|some u=>exact⟨u,rfl,r⟩
def vh.none_of(r:vh Β o):o=Β:=by
 cases o with
 |none=>rfl|some u=>exact(show False from r).elim
def D4(r:RelV v u):Cy u=Δ:=by
 cases v with
 |non=>cases(show u=Value.none from r);rfl|bl b=>cases(show u=bI b from r);rfl|int i=>obtain⟨t,e⟩:=(show ∃t,u=pj i t from r);cases e;rfl|str x=>obtain⟨t,e⟩:=(show ∃t,u=mS x t from r);cases e;rfl|HI b=>obtain⟨t,e⟩:=(show ∃t,u=xH b t from r);cases e;rfl|flt b=>obtain⟨t,e⟩:=(show ∃t,u=xI b t from r);cases e;rfl|ref a=>cases(show u=Ϯ a from r);rfl|ty n=>cases(show u=s_ n from r);rfl
section
variable{P:ï}{w:ã}{H:Hp}{h:Ô}{a C dx:À}{fs:List (Str×V)}
def x_(c:oB P w H h)(e:H a=Α (.ins C dx fs)):∃b,AQ h a dx C b/\(∀f,vh (fs.lookup f)<|b f)/\xm b (fs.map (·.1))/\fs.length<=1000/\H dx=Α (.own a):=by refine BL λZ=>?_;obtain⟨d,z,i,g,b,n,r,q⟩:=(show fC P w H h a (.ins C dx fs)from c a _ e);refine Z ?_;exact⟨b,⟨g,n,i⟩,r,q,z,d⟩
end
structure zn(K:Ï)(C:À):Prop where
 pg:pk K C iz=Δ
 hd:tw K C=Δ
 po:xL K C=Δ
 sa:Ϗ K (.ref C) "__setattr__"=Α (Α<|.builtin "object.__setattr__")
def zn.get{K:Ï}(c:zn K C)(f:Str):pk K C f=Δ:=c.pg
def fu(K:Ï)(C:À)(f:Str):Prop:=Ϗ K (.ref C) f=Α Β
def fu.taker{K:Ï}(n:fu K C f):xM K C f=Α Β:=by unfold xM;rw[show Ϗ K (.ref C) f=Α Β from n];rfl
structure uZ(K:Ï)(C:À)(m:Str)(f:À):Prop where
 at_:Ϗ K (.ref C) m=Α (Α<|.ref f)
 fn:pq K (.ref f)=Δ
 kp:bJ K (.ref f)=Δ
section
variable{X:Cx}{Å:List (À×Obj)}{σ:St}{H:Hp}{s:Ä}{a C dx:À}{fs:List (Str×V)}{f:Str}{v:V}{A:ì}{E:Á->Ä->Prop}
def AR(I:Inv X Å σ H s)(e:H a=Α (.ins C dx fs))(c:zn X.K C)(n:fu X.K C f)(l:fs.lookup f=Α v)
 (h:∀u s',Inv X Å σ H s'->RelV v u->Q u s'):Ð (Ú X.prog X.w) A (getAttr (.ref a) f b) Q E s:=by
 refine BL λZ=>?_;obtain⟨mA,O,r,_,_,_⟩:=x_ I.hok e;obtain⟨u,i,g⟩:=vh.some_of (by rw[<-l];exact r f);refine Z ?_;exact JJ I.vk O (c.get f) c.hd n i (D4 g)<|h u _ (I.tok _) g
def nW(I:Inv X Å σ H s)(e:H a=Α (.ins C dx fs))(c:zn X.K C)(k:uZ X.K C m g)(l:fs.lookup m=Β)
 (h:Q (.ref g,[.ref a]) s):Ð (Ú X.prog X.w) A (il (.ref a) m pl) Q E s:=by
 obtain⟨mA,O,r,_,_,_⟩:=x_ I.hok e;have b:=vh.none_of (by rw[<-l];exact r m);exact E9 I.vk O (c.get m) k.at_ k.fn b h
def AS(I:Inv X Å σ H s)(e:H a=Α (.ins C dx fs))(c:zn X.K C)(n:fu X.K C f)(hl:fs.length<1000)(K:RelV y u)
 (h:∀s',Inv X Å σ (upd H a<|.ins C dx<|ki f y fs) s'->Q () s'):Ð (Ú X.prog X.w) A (setAttr (.ref a) f u) Q E s:=by
 obtain⟨x,O,r,w,_,B⟩:=x_ I.hok e;have L:(fs.map (·.1)).length<=sizeLine:=by rw[ģ,cH];lia
 refine HV I.vk O c.sa c.po n.taker c.hd w L λh' p J=>h _ ?_;have hd:∃o,h'.get? dx=Α o:=let ⟨o,_,_,U,_⟩:=p.ns;⟨o,U⟩;refine I.write (by rw[e];exact True.intro) (.inr B) (λb q R z=>(J.2 b R).trans z) hd ?_;refine⟨by rw[ñ O.ne];exact B,?_,O.ne,p.obj,_,p.ns,λg=>?_,λg N=>?_⟩
 ·have:=q_ f y fs;lia
 ·show vh ((ki f y fs).lookup g) (if g=f then Α u else x g);rw[qZ];by_cases q:g=f
  ·rw[if_pos q,if_pos q];exact K
  ·rw[if_neg q,if_neg q];exact r g
 ·by_cases q:g=f
  ·rw[q];exact(qF f y fs).1
  ·refine(qF f y fs).2 g (w g λz=>N ?_);show(if g=f then Α u else x g)=Β;rw[if_neg q];exact z
def Inv.made(I:Inv X Å σ H s):Inv X Å σ (upd (upd H s.heap.objs.size<|.own<|s.heap.objs.size+1) (s.heap.objs.size+1)<|.ins C s.heap.objs.size [])
 {s with heap:=(s.heap.push iB).push (ka C s.heap.objs.size)}:=by
 have h:(s.heap.push iB).get? s.heap.objs.size=Α iB:=ĵ s.heap rfl;have t:=by
  have:=ĵ (s.heap.push iB) (o:=ka C s.heap.objs.size) rfl
  rwa [eO]at this
 have r:(s.heap.push iB).Ns s.heap.objs.size (λx=>Β):=⟨iB,#[],_,h,rfl,(λe p=>absurd p<|by simp),λx=>rfl⟩;have w:=I.laid (o:=.own<|s.heap.objs.size+1) (t':=s.toks) (λb u q=>Ć _ q) (õ _) ⟨_,h⟩;refine w.laid (λb u q=>Ć _ q) (sE<|eO _ _) ?_;have e:s.heap.objs.size≠s.heap.objs.size+1:=Ĕ<|oR _;refine⟨by rw[ñ e,ā],bB _,e,t,λx=>Β,(Heap.Ns1.of_empty r).at λo q=>Ć _ q,λx=>True.intro,λy n=>absurd rfl n⟩
def HW(k:dg e f env (eval e env)=eval e env)
 (h:Ð (Ú prog w) A (eval e env) (λo g=>Ð (Ú prog w) A (getAttr o f Δ) Q E g) E s):Ð (Ú prog w) A (eval (.Attribute e f pos) env) Q E s:=
 Attribute_any_ h (by rw[arm_eval_Attribute,k])
end
def UK(K:Ï)(g:TE)(f:Str):TE:=λb H Q=>g b H λx c=>∃a C h fs v,x=.ref a/\c a=Α (.ins C h fs)/\zn K C/\fu K C f/\fs.lookup f=Α v/\Q v c
def UL(K:Ï)(j i:TE)(f:Str):TS:=λD b H=>i b H λy k=>j b k λx d=>∃a C c fs,x=.ref a/\d a=Α (.ins C c fs)/\zn K C/\fu K C f/\fs.length<1000/\
 D.nx b (upd d a<|.ins C c<|ki f y fs)
section
variable{X:Cx}{o e value:Ç}{f:Str}{pos aY:Pos}{ta tv:TE}
def Lo(he:PE X e ta)(hb:dg e f X.env (eval e X.env)=eval e X.env):PE X (.Attribute e f pos) (UK X.K ta f):=by intro Å s b H Q I h;refine HW hb<|Ż (he Å s b H _ I h) λu s1 zz=>?_;refine BL λZ=>?_;obtain⟨x,H1,I1,rx,a,C,dx,fs,v,ex,ea,c,n,l,q⟩:=zz;subst ex;obtain rfl:=rx;refine Z ?_;exact AR I1 ea c n l λu' s2 I2 ru=>⟨v,H1,I2,ru,q⟩
def Lp(z:PE X o ta)(v:PE X value tv)(w:ť value (Α<|.Attribute o f aY) pos.line X.env=pure Ε):PS X (.Assign [.Attribute o f aY] value pos) (UL X.K ta tv f):=by intro j s b H D I h;refine plainObj_wpAny_Assign_Attribute (Ż (v j s b H _ I h) λu s1 ⟨y,K,J,r,q⟩=>Ż (z j s1 b K _ J q) λov s2 p=>?_) w;refine BL λZ=>?_;obtain⟨x,H2,G,t,a,C,dx,fs,A,B,c,n,l,u⟩:=p;subst A;obtain rfl:=t;refine Z ?_;exact AS G B c n l r λs3 E=>⟨b,_,E,u⟩
end
structure Ń(k:Nat)(A:ì):Prop where
 hd:A.handled=Β
 dp:A.depth+3*k+5<sN
 un:A.units+16*k+200<ύ
def Ń.mono(r:Ń k A)(h:j<=k):Ń j A:=⟨r.hd,by have:=r.dp;lia,by have:=r.un;lia⟩
theorem Ń.deeper(r:Ń (k+1) A)(env:Env):Ń k (A.deeper env):=
 ⟨r.hd,by have:=r.dp;show A.depth+1+3*k+5<_;lia,by have:=r.un;show A.units+3+16*k+200<_;lia⟩
theorem Ń.in1(r:Ń (k+1) A):Ń k A.in1:=
 ⟨r.hd,by have:=r.dp;lia,by have:=r.un;lia⟩
def AT{A:ì}:(A.under<|.builtin "type.__call__" ⟨.ref C::us,kw⟩).depth=A.depth+1:=by first|rfl|simp[]
def AU{A:ì}:(A.under<|.builtin "type.__call__" ⟨.ref C::us,kw⟩).units=A.units+1:=by first|rfl|simp[]
def Ń.make(r:Ń (k+1) A)(C:À)(a:List Á)(b:List (Str×Á)):Ń k (A.under<|.builtin "type.__call__" ⟨.ref C::a,b⟩):=
 ⟨r.hd,by have:=r.dp;rw[AT];lia,by have:=r.un;rw[AU];lia⟩
theorem Ń.depth(r:Ń k A):A.depth<sN:=by have:=r.dp;lia
theorem Ń.units(r:Ń k A):A.units+64<ύ:=by have:=r.un;lia
def D5:TA:=λx H Q=>Q [] H
def zw(f:TE)(e:TA):TA:=λa H Q=>f a H λx h=>e a h λxs g=>Q (x::xs) g
section
variable{X:Cx}{e:Ç}{es:List Ç}{te:TE}{t:TA}{pos:Pos}
def aZ:PA X [] D5:=λx x x x H Q I h=>xz ⟨[],H,I,.nil,h⟩
def ŧ(p:PE X e te)(o:PA X es t)(n:autoParam (Î (e::es) X.env=(Ε,eval e X.env)::Î es X.env) Η):PA X (e::es) (zw te t):=by intro pos c s a H Q I h;rw[n];refine sU<|Ż (p c s a H _ I h) λu s1 g=>?_;refine BL λZ=>?_;obtain⟨x,v,r,k,m⟩:=g;refine Z ?_;exact Ż (o pos c s1 a v _ r m)<|by rintro us s2 ⟨i,u,q,j,l⟩;exact ⟨x::i,u,q,.cons k j,l⟩
def UM(t:TA):TE:=λa H Q=>t a H λxs d=>xs.length<=sizeLine/\∀p,d p=Β->Q (.ref p) (upd d p<|.tup xs)
def Lq(t:TA):TE:=λa H Q=>t a H λxs d=>xs.length<=sizeLine/\∀p,d p=Β->Q (.ref p) (upd d p<|.lst xs)
def Fb{x1}(h:PA X es t):PE X (.Tuple es x1 pos) (UM t):=by intro g s a H Q I j;refine wpAny_Tuple_spliced (Ż (h pos g s a H _ I j) λus s1 ⟨i,l,d,r,z,q⟩=>⟨by rw[<-r.length];exact z,?_⟩);have k:=d.hok.fresh<|õ _;refine⟨.ref s1.heap.objs.size,upd l s1.heap.objs.size<|.tup i,d.laid (λb u e=>Ć _ e) (õ _) ?_,rfl,q _ k⟩;exact⟨z,us,r,⟨_,ĵ _ rfl,rfl,_,rfl⟩⟩
def AV(h:PA X es t):PE X (.List es pos) (Lq t):=by intro g s a H Q I j;refine wpAny_List_spliced (Ż (h pos g s a H _ I j) λus s1 ⟨i,l,d,r,z,q⟩=>⟨by rw[<-r.length];exact z,?_⟩);have k:=d.hok.fresh<|õ _;refine⟨.ref s1.heap.objs.size,upd l s1.heap.objs.size<|.lst i,d.laid (λb u e=>Ć _ e) (õ _) ?_,rfl,q _ k⟩;exact⟨z,us,0,r,ĵ _ rfl⟩
end
abbrev Sp:=List V->Hp->VK->XK->Prop
abbrev gX:=List Env->Hp->Ä->XK->Á->Ä->Prop
structure zx(P:ï)(w:ã)(K:Ï)(mg:Str->Option Á)(base:Ô)(A:ì)(outer:List Env)(s:Ä)(H:Hp):Prop where
 frames:A.frames=Α outer
 mod:Mod K mg base
 bs:∀b o,base.get? b=Α o->s.heap.get? b=Α o/\H b=Β
 EJ:base.objs.size<=s.heap.objs.size
 pC:s.heap.FunFrames base outer
 HM:∀b∈Hd outer,H b=Β
 hok:oB P w H s.heap
 bare:fO s.gens
 tb:y_ K mg base H
def CE(a:List Env)(P:ï)(w:ã)(H:Hp)(s:Ä)(Q:VK)(u:Á)(s':Ä):Prop:=
 ∃v b,s'.os=s.os/\fO s'.gens/\Un (Hd a) [] H b s.heap s'.heap/\oB P w b s'.heap/\RelV v u/\Q v b
def CR(CX:gX)(a:List Env)(P:ï)(w:ã)(H:Hp)(s:Ä)(Q:VK)(E:XK)(r:Result)(s':Ä):Prop:=
 match r with
 |.ok (.ret u)=>CE a P w H s Q u s'|.ok _=>False|.error e=>CX a H s E e s'
structure Ϲ(P:ï)(w:ã)(K:Ï)(mg:Str->Option Á)(base:Ô)(CX:gX)(k:Nat)(f:À)(fd:ą)(ps:List Str)(sp:Sp):Prop where
 len:∀vs H Q E,sp vs H Q E->vs.length=ps.length
 run:∀(A:ì) (outer:List Env) (s:Ä) (H:Hp) (args:Args) (us:List Á) (vs:List V) (Q:VK) (E:XK),Ń k A->zx P w K mg base A outer s H->fV s fd args (ps.zip us)->Ő vs us->sp vs H Q E->
  eM (Ú P w) A (.call (.ref f) args) (CR CX outer P w H s Q E) s
theorem Ϲ.mono{K:Ï}(F:Ϲ P w K mg base CX j f l g sp)(h:j<=k):
 Ϲ P w K mg base CX k f l g sp:=⟨F.len,λA a s H b e d Q E i=>F.run A a s H b e d Q E<|i.mono h⟩
def Ϲ.imp{K:Ï}(F:Ϲ P w K mg base CX k f o g sp)
 (h:∀vs H Q E,p vs H Q E->sp vs H Q E):Ϲ P w K mg base CX k f o g p:=
 ⟨λvs H Q E q=>F.len vs H Q E<|h _ _ _ _ q,λA a s H b e vs Q E l m n i j=>F.run A a s H b e vs Q E l m n i<|h _ _ _ _ j⟩
def zx.make{K:Ï}(e:zx P w K mg base A a s H)(C:À)(b:List Á)(c:List (Str×Á)):
 zx P w K mg base (A.under<|.builtin "type.__call__" ⟨.ref C::b,c⟩) a s H:=⟨by first|exact e.frames|(simpa[]using e.frames),e.mod,e.bs,e.EJ,e.pC,e.HM,e.hok,e.bare,e.tb⟩
section
variable{X:Cx}{Å:List (À×Obj)}{σ:St}{H:Hp}{s s':Ä}
def Inv.env0(I:Inv X Å σ H s):zx X.prog X.w X.K X.mg X.base X.A X.stack s H:=
 ⟨I.ok.frames,I.ok.mod,I.bs,ţ I.ok.EJ I.sz,I.stack,I.xU,I.hok,I.bare,I.tb⟩
def Inv.after(I:Inv X Å σ H s)(h:CE X.stack X.prog X.w H s Q u s'):EP X Å σ Q u s':=by obtain⟨v,j,i,a,un,c,r,q⟩:=h;obtain⟨hh,g,d,t,f⟩:=s';obtain rfl:=i;exact⟨v,j,I.call un c a (λb z=>absurd z<|by simp),r,q⟩
end
def Binds(K:Ï)(c:ą)(b:List Str)(ds:List Á):Prop:=
 ∀(s:Ä) (a:List Á),K.In s.heap->(a++ds).length=b.length->fV s c ⟨a,[]⟩ (b.zip<|a++ds)
def Binds.all{K:Ï}(h:∀a:List Á,a.length=c.length->im f ⟨a,[]⟩=pure (c.zip a)):Binds K f c []:=λs a x d=>by rw[cZ]at d⊢;exact .of_eq<|h a d
section
variable{f C:À}
structure Mk(K:Ï)(C f:À):Prop where
 makes:xN K C=Δ
 init:Ϗ K (.ref C) "__init__"=Α (Α<|.ref f)
 fn:pq K (.ref f)=Δ
 kp:bJ K (.ref C)=Δ
end
structure ı(N P:List Str)(sc:û):Prop where
 kind:sc.kind=.function
 co:sc.isCoroutine=Ε
 gen:sc.isGenerator=Ε
 nd:N.Nodup
 pre:N.take P.length=P
 par:∀x∈P,sc.names.lookup x=Α .local\/sc.names.lookup x=Α .cell
 Lr:∀y∈sc.names,y.2≠.free
theorem vF{a:Str->Option dh}:∀{binds:List (Str×Á)}{m:Str->Option Á},(∀v,(x,v)∉binds)->bindL a binds m x=m x
 |[],_,_=>rfl|(n,v)::r,m,h=>by
  unfold bindL;rw[vF λw d=>h w<|ð _ d];split
  ·have:x≠n:=by rintro rfl;exact h v ŀ
   simp[this]
  ·rfl
theorem vG{a:Str->Option dh}:∀{binds:List (Str×Á)}{m:Str->Option Á},(∀v,(x,v)∉binds)->bindC a binds m x=m x
 |[],_,_=>rfl|(n,v)::r,m,h=>by
  unfold bindC;rw[vG λw d=>h w<|ð _ d];split
  ·rfl
  ·have:x≠n:=by rintro rfl;exact h v ŀ
   simp[this]
theorem vH{a:Str->Option dh}:∀{P:List Str}{vs:List Á}{i:Nat}{m:Str->Option Á},P.Nodup->P[i]?=Α x->vs[i]?=Α v->a x=Α .local->
 bindL a (P.zip vs) m x=Α v
 |[],_,_,_,_,h,_,_=>by simp at h|_::_,[],_,_,_,_,h,_=>by simp at h|p::P,w::vs,0,m,nd,e,d,f=>by simp at e d;subst e;subst d;show bindL a ((p,w)::P.zip vs) m p=_;unfold bindL;rw[vF λv j=>(fK.mp nd).1 (oK j).1,if_pos f];simp
 |p::P,w::vs,i+1,m,nd,e,d,f=>by show bindL a ((p,w)::P.zip vs) m x=_;exact vH (fK.mp nd).2 (by simpa using e) (by simpa using d) f
theorem vI{a:Str->Option dh}:∀{P:List Str}{vs:List Á}{i:Nat}{m:Str->Option Á},P.Nodup->P[i]?=Α x->vs[i]?=Α v->a x≠Α .local->
 bindC a (P.zip vs) m x=Α v
 |[],_,_,_,_,h,_,_=>by simp at h|_::_,[],_,_,_,_,h,_=>by simp at h|p::P,w::vs,0,m,nd,e,d,f=>by simp at e d;subst e;subst d;show bindC a ((p,w)::P.zip vs) m p=_;unfold bindC;rw[vG λv j=>(fK.mp nd).1 (oK j).1,if_neg f];simp
 |p::P,w::vs,i+1,m,nd,e,d,f=>by show bindC a ((p,w)::P.zip vs) m x=_;exact vI (fK.mp nd).2 (by simpa using e) (by simpa using d) f
noncomputable def start(N:List Str)(vs:List V):St:=vs.map Α++ý (N.length-vs.length) Β
noncomputable def kj(CX:gX)(P:ï)(w:ã)(K:Ï)(mg:Str->Option Á)(base:Ô)(N:List Str)(qual:Str)(scope:û)(f:À)(c:Á)(A:ì)(outer:List Env)(s:Ä)(H:Hp)(E:XK):Cx where
 prog:=P
 w:=w
 K:=K
 mg:=mg
 base:=base
 A:=A.deeper (ň qual scope s.heap.objs.size f c)
 N:=N
 s₀:=s
 H₀:=H
 env:=ň qual scope s.heap.objs.size f c
 outer:=outer
 stack:=ň qual scope s.heap.objs.size f c::outer
 ex:=[]
 calm:=Δ
 fn:=λx=>Δ
 pn:=[]
 xe:=λe m=>Ð (Ú P w) (A.deeper<|ň qual scope s.heap.objs.size f c) (leaving (ň qual scope s.heap.objs.size f c) e) (λx g=>CX outer H s E e g) (λe' g=>CX outer H s E e' g) m
def pG{sc:û}(h:sc.names.lookup x=Α .cell):∃c,(Ŕ n sc.names []).lookup x=Α c:=by have q:=xO sc.names n [] (.inl h);exact oU.mp q
def vJ{K:Ï}
 (S:ı N G scope)(hd:A.handled=Β)(l:zx P w K mg base A j s H)(hl:vs.length=G.length)(r:Ő vs us)
 (x:InCallC s s.heap.objs.size (bindL (ň qual scope s.heap.objs.size f R).kindOf (G.zip us) λd=>Β) (Ŕ (s.heap.objs.size+1) scope.names []) (bindC (ň qual scope s.heap.objs.size f R).kindOf (G.zip us) λd=>Β) s1):
 Inv (kj CX P w K mg base N qual scope f R A j s H E) [] (start N vs) H s1:=by
 have bZ:=by have:=congrArg aa S.pre;rw[sr]at this;omega
 obtain⟨Q,tk,rfl,hk⟩:=x.done;have ON:∀b:À,b∉(kj CX P w K mg base N qual scope f R A j s H E).ex:=λb z=>absurd (show b∈([]:List À)from z) (by simp);refine⟨⟨l.mod,S.kind,rfl,rfl,õ _,λy z c Q g=>?_,λy t=>?_,λy c d h=>?_,λd=>hd,Cd l.frames,.inr ⟨rfl,rfl⟩,λb z=>absurd z<|ON b,l.bs,l.EJ,λb d d=>ON b,λb z=>absurd z<|ON b,l.pC,l.HM,l.tb⟩,
  rfl,l.bare,Un.kept hk,⟨_,x.toInCall.ns,λi y v Q g h3=>?_⟩,λy c h=>⟨_,x.cell y c h⟩,l.hok.fresh<|õ _,λy c h=>?_,λp J=>absurd (show p∈([]:List (À×Obj))from J) (by simp),l.hok.kept hk,?_⟩
 ·exact name_of_addr x.apart (jS Q)<|jS g
 ·have t:=t;rcases t with t|t
  ·exact pG t
  ·exact absurd rfl<|S.Lr _<|jS t
 ·exact mE<|x.above y c<|jS h
 ·have O:i<vs.length:=by
   unfold start at g;by_cases O:i<vs.length
   ·exact O
   ·rw[ie<|by simpa using O]at g;rw[ig]at g;split at g<;>cases g
  have ha:vs[i]?=Α v:=by
   unfold start at g;rw[Ϫ (by simpa using O),œ]at g;cases e:vs[i]?with
   |none=>rw[e]at g;cases g|some a=>rw[e]at g;cases g;rfl
  obtain⟨u,hu,rv⟩:=r.get ha;have J:G[i]?=Α y:=by rw[<-S.pre,List.getElem?_take_of_lt<|by omega];exact Q
  have I:G.Nodup:=by rw[<-S.pre];exact S.nd.sublist<|List.take_sublist _ _
  refine⟨u,rv,?_⟩;rcases S.par y (BO J)with k|k
  ·exact .inl ⟨k,vH I J hu k⟩
  ·obtain⟨c,e⟩:=pG k;refine .inr ⟨.inl k,c,e,?_⟩;have q:=x.cell y c e;rw[vI I J hu (by show scope.names.lookup y≠_;rw[k];decide)]at q;exact q
 ·exact l.hok.fresh<|mE<|x.above y c<|jS h
 ·unfold start;show _=N.length;rw[ŭ,ģ,List.length_replicate];omega
def zy{K:Ï}{Z kV B X g ct oc:Á}
 (lk:K.lookup f=Α ⟨oc,od,.func<|ϯ p qual i j scope Z kV B X an g ct,AG⟩)(vf:kb K g qual=Δ)(S:ı N O scope)
 (len:∀vs H Q E,sp vs H Q E->vs.length=O.length)
 (dO:∀(A:ì) (c:List Env) (s:Ä) (H:Hp) (vs:List V) (Q:VK) (E:XK),Ń k (A.deeper<|ň qual scope s.heap.objs.size f g)→sp vs H Q E→
   ∃t,b_ (kj CX P w K mg base N qual scope f g A c s H E) j t/\t {nx:=λd l=>Q .non l,rt:=Q} (start N vs) H):
 Ϲ P w K mg base CX (k+1) f (ϯ p qual i j scope Z kV B X an g ct) O sp:=by
 refine⟨len,λA c s H args us vs Q E R z hb r W=>?_⟩;have hl:=len _ _ _ _ W;have KX:=z.mod.EU.keeps λb o e=>(z.bs b o e).1;have X9:=z.mod.nolimit.keeps λb o e=>(z.bs b o e).1;have He:∀y∈O.zip us,scope.names.lookup y.1=Α .local\/(scope.names.lookup y.1=Α .cell/\((Ŕ (s.heap.objs.size+1) scope.names []).lookup y.1).isSome=Δ):=by
  rintro ⟨n,v⟩ hy;rcases S.par n (oK hy).1 with q|q
  ·exact .inl q
  ·exact .inr ⟨q,xO _ _ _<|.inl q⟩
 refine codeAny_call_function R.depth (KX _ _ lk) rfl S.co S.gen rfl (Cz KX vf)<|hb _ _ _ _ ?_;refine Cc S.kind He λenv he s1 x=>?_;subst he;refine⟨X9.keeps x.toInCall.keep,codeAny_func ?_⟩;obtain⟨t,ht,hq⟩:=dO A c s H vs Q E (R.deeper _) W;have I:Inv (kj CX P w K mg base N qual scope f g A c s H E) [] (start N vs) H s1:=vJ S R.hd z hl r x;refine ό (ht [] s1 (start N vs) H _ I hq) (λfl G m=>?_) λe G m=>m;have Y:∀{a:St}{l:Hp}{v:V}{u:Á},Inv (kj CX P w K mg base N qual scope f g A c s H E) [] a l G->RelV v u->Q v l->CE c P w H s Q u G:=
  fun{a l v u} J L q=>⟨v,l,J.os,J.bare,J.base,J.hok,L,q⟩
 cases fl with
 |ret u=>obtain⟨v,a,l,J,L,q⟩:=m;exact Y J L q|next=>obtain⟨a,l,J,q⟩:=m;exact Y (v:=V.non) J rfl q|brk=>obtain⟨_,_,_,q⟩:=m;exact ų q|cont=>obtain⟨_,_,_,q⟩:=m;exact ų q
section
variable{X:Cx}{x:Str}{p pos:Pos}{e:Ç}{es:List Ç}{t:TA}{id T:String}{r:List V->Hp->VK->Prop}
def R3(r:List V->Hp->VK->Prop)(t:TA):TE:=λa H Q=>t a H λvs d=>r vs d Q
def ue(q:Ŝ X (.builtin id) r)(o:Gl X x)(n:X.mg x=Β)(l:fR x=Α (.builtin id))(u:PA X (e::es) t)(m:autoParam (x≠"__name__") Ι)(k:autoParam ((x==("__debug__":Str))=Ε) Ζ)
 (he:autoParam (Î (e::es) X.env=(Ε,eval e X.env)::Î es X.env) Η)(v:autoParam ((ü pos<|Î es X.env).any (·.1)=Ε) Ζ):PE X (.Call (.Name x p) (e::es) [] pos) (R3 r t):=by
 intro d s a H Q I h;refine io<|iX I o n l ?_ m k;exact PyProof.Rows.callWith_builtin1 (Ż (u pos d s a H _ I h)<|by rintro us s1 ⟨g,y,w,i,j⟩;exact q d s1 a y g us Q w i j) he v
def vK(o:Ŝ X (.type T) r)(n:Gl X x)(m:X.mg x=Β)(k:fR x=Α (.type T))(q:PA X (e::es) t)(l:autoParam (x≠"__name__") Ι)(j:autoParam ((x==("__debug__":Str))=Ε) Ζ)
 (he:autoParam (Î (e::es) X.env=(Ε,eval e X.env)::Î es X.env) Η)(u:autoParam ((ü pos<|Î es X.env).any (·.1)=Ε) Ζ):PE X (.Call (.Name x p) (e::es) [] pos) (R3 r t):=by
 intro c s a H Q I h;refine io<|iX I n m k ?_ l j;exact jP (Ż (q pos c s a H _ I h)<|by rintro us s1 ⟨f,w,v,g,i⟩;exact o c s1 a w f us Q v g i) he u
end
end L2
namespace HT
open PySem PyProof.Rows
section
open PySem.SeqAt
open PySem.AutoSeq1 (wpAny_loadPart')
open PySem.MeetsSeq PySem.MeetsSeq2 PySem.MeetsSeq3
end
noncomputable def kO(n d:Nat):Option Int->Nat
 |none=>d|some v=>if v<0then(v+(n:Int)).toNat else min v.toNat n
def Fc(n d:Nat):kO n d Β=d:=rfl
def mX(n d k:Nat):kO n d (Α (k:Int))=min k n:=by show(if(k:Int)<0then((k:Int)+n).toNat else min (k:Int).toNat n)=min k n;rw[if_neg (by lia),Int.toNat_natCast]
def Ls(n d:Nat)(hd:d<=n)(o:Option Int):kO n d o<=n:=by
 cases o with
 |none=>exact hd|some v=>
  show(if v<0then(v+n).toNat else min v.toNat n)<=n;by_cases e:v<0
  ·rw[if_pos e];lia
  ·rw[if_neg e];exact Nat.min_le_right _ _
end HT
namespace L2
open PySem PySem.Spec PyProof.Rows
abbrev TO:=St->Hp->(Option Int->Hp->Prop)->Prop
def PO(X:Cx)(e:Option Ç)(t:TO):Prop:=
 ∀(d:List (À×Obj)) (s:Ä) (a:St) (H:Hp) (Q:Option Int->Hp->Prop),Inv X d a H s->t a H Q->
  Ð (Ú X.prog X.w) X.A (evalPart e X.env) (λu h=>∃o f,Inv X d a f h/\IsPart u o/\Q o f) X.xe s
def HX:TO:=λx H Q=>Q Β H
section
variable{X:Cx}{e:Ç}{te:TE}{lo hi:Option Ç}{tl th:TO}{pos p2:Pos}
def HY:PO X Β HX:=λÅ s a H Q I h=>ď ⟨Β,H,I,.none,h⟩
def CK(X:Cx)(r:V->Option Int->Option Int->Hp->VK->Prop):Prop:=
 ∀(f:List (À×Obj)) (s:Ä) (a:St) (H:Hp) (x:V) (v h g:Á) (lo hi:Option Int) (i:À) (Q:VK),Inv X f a H s->RelV x v->s.heap.IsSliceOf i h g .none->IsPart h lo->IsPart g hi->r x lo hi H Q->
  ∃T id,typeLookup (.type T) "__getitem__"=pure (Α<|.builtin id)/\s.TypeIs v T/\Ð (Ú X.prog X.w) X.A (getItem v<|.ref i) (EP X f a Q) X.xe s
def CK.or(h:CK X r)(h':CK X m):CK X (λx lo hi H Q=>r x lo hi H Q\/m x lo hi H Q):=by
 intro b s a H x v d c lo hi f Q I g k j i q;rcases q with q|q
 ·exact h b s a H x v d c lo hi f Q I g k j i q
 ·exact h' b s a H x v d c lo hi f Q I g k j i q
def tSl(r:V->Option Int->Option Int->Hp->VK->Prop)(te:TE)(tl th:TO):TE:=λa H Q=>te a H λx i=>tl a i λl h=>th a h λu g=>r x l u g Q
def Fd{r:V->Option Int->Option Int->Hp->VK->Prop}(hr:CK X r)(he:PE X e te)(hl:PO X lo tl)(hu:PO X hi th):PE X (.Subscript e (.Slice lo hi Β p2) pos) (tSl r te tl th):=by intro Å s a H Q I h;refine Subscript_<|Ż (he Å s a H _ I h) λv s1 zz=>?_;refine BL λZ=>?_;obtain⟨x,H1,I1,r1,q1⟩:=zz;refine Z ?_;refine wpAny_Slice<|Ż (hl Å s1 a H1 _ I1 q1) λvl s2 ⟨l,H2,I2,pl,q2⟩=>Ż (hu Å s2 a H2 _ I2 q2) λvu s3 zz=>?_;refine BL λZ=>?_;obtain⟨u,H3,I3,pu,q3⟩:=zz;refine Z ?_;refine ď ?_;have I4:Inv X Å a H3 {s3 with heap:=s3.heap.push {cls:=.type "slice",data:=.fields #[vl,vu,.none]}}:=I3.kept λb ob q=>Ć _ q;obtain⟨T,id,hT,ht,hg⟩:=hr Å {s3 with heap:=s3.heap.push {cls:=.type "slice",data:=.fields #[vl,vu,.none]}} a H3 x v vl vu l u s3.heap.objs.size Q I4 r1 (Heap.IsSliceOf.new ..) pl pu q3;exact tail_any ht hT hg (by with_unfolding_all rfl)
def AW(xs:List V)(lo hi:Option Int):List V:=(xs.drop<|HT.kO xs.length 0 lo).take (HT.kO xs.length xs.length hi-HT.kO xs.length 0 lo)
def zA(xs:List V)(lo hi:Option Int):(AW xs lo hi).length<=xs.length:=by unfold AW;rw[sr,List.length_drop];lia
end
noncomputable def Hr(n:Nat)(i:Int):Option Nat:=if 0<=i then(if i<n then Α i.toNat else Β)else if -(n:Int)<=i then Α (i+n).toNat else Β
def mY{a:Type}(xs:List a)(i:Int):Option a:=(Hr xs.length i).bind λj=>xs[j]?
def H_(h:Hr n i=Α j):seqIndex? i n=Α j/\j<n/\ -(n:Int)<=i/\i<n:=by
 unfold Hr at h;by_cases l:0<=i
 ·rw[if_pos l]at h;by_cases g:i<n
  ·rw[if_pos g]at h;have e:=Ň h;exact⟨by rw[seqIndex_of l g,e],by lia,by lia,g⟩
  ·rw[if_neg g]at h;cases h
 ·rw[if_neg l]at h;by_cases g: -n<=i
  ·rw[if_pos g]at h;have e:=Ň h;exact⟨by rw[seqIndex_neg (by lia) g,e],by lia,g,by lia⟩
  ·rw[if_neg g]at h;cases h
def yc{b:Type}{xs:List b}{v:b}(h:mY xs i=Α v):∃j,seqIndex? i xs.length=Α j/\xs[j]?=Α v/\j<xs.length/\ -(xs.length:Int)<=i/\i<xs.length:=by
 unfold mY at h;cases e:Hr xs.length i with
 |none=>rw[e]at h;cases h|some j=>rw[e]at h;obtain⟨g,f,d,c⟩:=H_ e;exact⟨j,g,h,f,d,c⟩
def tF(b:Ç):Prop:=∀o i,subscripted b Ε o i=operate [o,i] (getItem o i)
def Az(X:Cx)(r:R2):Prop:=
 ∀(e c:Ç) (h:List (À×Obj)) (s:Ä) (a:St) (H:Hp) (x y:V) (v u:Á) (Q:VK),Inv X h a H s->RelV x v->RelV y u->r x y H Q->
  subscripted c Ε v u=operate [v,u] (getItem v u)->Ð (Ú X.prog X.w) X.A (subscriptTail e c v u) (EP X h a Q) X.xe s
def N7(X:Cx)(id:String)(r:V->List V->Hp->VK->Prop):Prop:=
 ∀(b:List (À×Obj)) (s:Ä) (a:St) (H:Hp) (x:V) (c:List V) (v:Á) (d:List Á) (Q:VK),Inv X b a H s->RelV x v->Ő c d->r x c H Q->
  Ð (Ú X.prog X.w) X.A (call (.builtin id) (v::d)) (EP X b a Q) X.xe s
section
variable{X:Cx}{a b:Ç}{ta tb:TE}{pos:Pos}
def Az.or(h:Az X r)(h':Az X l):Az X (λx y H Q=>r x y H Q\/l x y H Q):=by
 intro d e f s c H x y v u Q I i g q j;rcases q with q|q
 ·exact h d e f s c H x y v u Q I i g q j
 ·exact h' d e f s c H x y v u Q I i g q j
def Fe(k:Az X r)(m:PE X a ta)(l:PE X b tb)(j:tF b):PE X (.Subscript a b pos) (HQ r ta tb):=λÅ s c H Q I h=>Subscript_<|Lb m l I h λv u s2 x y o n i g q=>k a b Å s2 c o x y v u Q n i g q<|j _ _
def OP(K:Ï):R2:=λx y H Q=>∃p c i v,x=.ref p/\y=.int i/\ż K H p c/\mY c i=Α v/\Q v H
def OQ(K:Ï):R2:=λx y H Q=>∃p c i v,x=.ref p/\y=.int i/\jH K H p c/\mY c i=Α v/\Q v H
def OR:R2:=λx y H Q=>∃z i c,x=.str z/\y=.int i/\z.length<=sizeLine/\mY z.cps.toList i=Α c/\Q (.str ⟨#[c]⟩) H
def H0:Az X (OP X.K):=by
 intro o A L s c H x y v u Q I O N h E;refine BL λV=>?_;obtain⟨p,xs,i,z,rfl,rfl,R,W,q⟩:=h;cases O;obtain⟨t,rfl⟩:=N;obtain⟨K,r,B,hz⟩:=I.list R;obtain⟨j,n,h2,h3,Z,Y⟩:=yc W;obtain⟨w,J,OT⟩:=r.get h2;refine V ?_;have U:=r.length;have hn:=xY;have D:EP X L c Q w s:=⟨z,H,I,OT,q⟩;by_cases G:0<=i
 ·have C:=by
   rw[seqIndex_of G Y]at n;exact Ň n
  exact item_listR B.isList G (by lia) (by rw[C];simpa using J) D E
 ·have C:(i+(K.toArray.size:Int)).toNat=j:=by
   rw[seqIndex_neg (by lia) Z]at n;rw[Ł,<-U];exact Ň n
  exact subscriptTail_builtinR B.isList.typeIs slot_list_getitem.lookup
   (wpAny_getItem_list_neg B.isList (by lia) (by rw[Ł]<;>lia) (by lia) (by rw[C];simpa using J) ⟨rfl,D⟩) E
def Lu:Az X (OQ X.K):=by
 intro g k m s c H x y v u Q I o n h B;refine BL λZ=>?_;obtain⟨p,xs,i,z,rfl,rfl,C,E,q⟩:=h;cases o;obtain⟨t,rfl⟩:=n;obtain⟨ę,r,l,hz⟩:=I.tuple C;obtain⟨j,J,G,h3,h4,h5⟩:=yc E;obtain⟨w,K,L⟩:=r.get G;refine Z ?_;have D:=r.length;have hn:=xY;have A:EP X m c Q w s:=⟨z,H,I,L,q⟩;exact subscriptTail_builtinR l.typeIs slot_tuple_getitem.lookup
  (getItem_tuple l (by lia) (by lia) (by rw[Ł,<-D];exact J) (by simpa using K) ⟨rfl,A⟩) B
def Lv:Az X OR:=by
 intro l m Å s d H x y v u Q I p o h r;refine BL λZ=>?_;obtain⟨z,i,c,rfl,rfl,hz,A,q⟩:=h;obtain⟨t,rfl⟩:=p;obtain⟨t',rfl⟩:=o;obtain⟨j,n,D,h3,C,B⟩:=yc A;refine Z ?_;have w:z.cps.toList.length=z.length:=by simp[f_]
 rw[w]at n C B;have hn:=xY;exact tail_any (jT s z t) slot_str_getitem.lookup (getItem_str (by
  have G:decide (i< -(2^63:Int))=Ε:=decide_eq_false (by lia);have E:decide (i>=2^63)=Ε:=decide_eq_false (by lia);rw[G,E,wK]) (by rw[n];simpa using D) ⟨.str ⟨#[c]⟩,H,I.tok _,⟨_,rfl⟩,q⟩) r
def UN(K:Ï):R2:=λx y H Q=>OP K x y H Q\/OQ K x y H Q\/OR x y H Q
def AX:Az X (UN X.K):=H0.or<|Lu.or Lv
def yf(f g:Option Int)(n:Nat):(jU f g Β n).1=((HT.kO n 0 f:Nat):Int)/\(jU f g Β n).2.1=((HT.kO n n g:Nat):Int)/\(jU f g Β n).2.2=1:=by
 refine⟨?_,?_,rfl⟩
 ·cases f with
  |none=>simp[jU,HT.kO]|some i=>
   simp only[jU,HT.kO,Option.getD_none];by_cases h:i<0
   ·simp only[h]<;>lia
   ·simp only[h]<;>lia
 ·cases g with
  |none=>simp[jU,HT.kO]|some i=>
   simp only[jU,HT.kO,Option.getD_none];by_cases h:i<0
   ·simp only[h]<;>lia
   ·simp only[h]<;>lia
def vm(e:List Á)(g h:Option Int):slicePick e.toArray g h Β=((e.drop<|HT.kO e.length 0 g).take (HT.kO e.length e.length h-HT.kO e.length 0 g)).toArray:=by obtain⟨l,k,j⟩:=yf g h e.toArray.size;unfold slicePick;rw[l,k,j];simp only[sliceRange_one,pick_run]<;>rfl
def UO(K:Ï):V->Option Int->Option Int->Hp->VK->Prop:=λx e f H Q=>∃a c,x=.ref a/\ż K H a c/\∀p,H p=Β->Q (.ref p) (upd H p<|.lst<|AW c e f)
def Ia:CK X (UO X.K):=by intro Å s c H x v vl vu i k sl Q I n w p o h;refine BL λZ=>?_;obtain⟨a,f,rfl,u,q⟩:=h;cases n;obtain⟨ę,r,j,t⟩:=I.list u;refine Z ?_;have g:=r.length;refine⟨"list",_,slot_list_getitem.lookup,j.isList.typeIs,?_⟩;refine wpAny_getItem_list_slice j.isList w p o .none (by simp) ?_ (by rw[Ł]<;>lia);rw[vm,<-g];refine⟨.ref s.heap.objs.size,_,I.laid (λb ob q=>Ć _ q) (õ _) ?_,rfl,q _<|I.hok.fresh<|õ _⟩;exact⟨ţ (zA f i k) t,_,0,(r.drop<|HT.kO f.length 0 i).take (HT.kO f.length f.length k-HT.kO f.length 0 i),ĵ _ rfl⟩
def yg:Ŝ X (.type "list") (λxs H Q=>∃p ys,xs=[.ref p]/\(ż X.K H p ys\/jH X.K H p ys)/\∀l,H l=Β->Q (.ref l) (upd H l<|.lst ys)):=by
 intro N s c H xs us Q I r h;obtain⟨p,ys,rfl,w,q⟩:=h;obtain⟨u,rfl,O⟩:=vals1 r;cases O;have G:∀ę,Ő ys ę->ys.length<=sizeLine->∀h' j,(∀b E,s.heap.get? b=Α E->h'.get? b=Α E)->
  h'.get? s.heap.objs.size=Α {cls:=.type "list",dict:=Β,data:=.seq ę.toArray j,slots:=#[]}->EP X N c Q (.ref s.heap.objs.size) {s with heap:=h'}:=λę g v h' j t e=>
  ⟨.ref s.heap.objs.size,_,I.laid t (õ _)<|show fC X.prog X.w _ h' _ (.lst ys)from⟨v,ę,j,g,e⟩,rfl,q _<|I.hok.fresh<|õ _⟩
 rcases w with w|w
 ·obtain⟨ę,g,z,v⟩:=I.list w;have x:=g.length;obtain⟨o,A,B,n,hd⟩:=z.isList;exact call_list_seq p (.inl rfl) A B hd (λh' j t e=>G ę g v h' j t e) (by simp only[Ł]<;>lia)
 ·obtain⟨ę,g,z,v⟩:=I.tuple w;have x:=g.length;obtain⟨o,A,B,n,hd⟩:=z;exact call_list_seq p (.inr rfl) A B hd (λh' j t e=>G ę g v h' j t e) (by simp only[Ł]<;>lia)
def vn:Ŝ X (.type "tuple") (λxs H Q=>∃p ys,xs=[.ref p]/\((ż X.K H p ys/\∀l,H l=Β->Q (.ref l) (upd H l<|.tup ys))\/(jH X.K H p ys/\Q (.ref p) H))):=by
 intro Å s c H xs us Q I r h;obtain⟨p,ys,rfl,h⟩:=h;obtain⟨u,rfl,A⟩:=vals1 r;cases A;rcases h with⟨j,q⟩|⟨j,q⟩
 ·obtain⟨t,g,i,v⟩:=I.list j;have w:=g.length;refine call_tuple_list i.isList (λh' B=>?_) (by simp only[Ł]<;>lia);have x:=I.kept (t':=s.toks) B;have C:=
   x.laid (t':=s.toks) (λb o e=>Ć _ e) (õ _) (show fC X.prog X.w _ _ _ (.tup ys)from⟨v,t,g,IsTup.new _ _⟩)
  exact⟨.ref h'.objs.size,_,C,rfl,q _<|x.hok.fresh<|õ _⟩
 ·obtain⟨t,g,i,v⟩:=I.tuple j;exact call_tuple_same i ⟨.ref p,H,I,rfl,q⟩
def tyV(K:Ï)(T:String)(x:V)(H:Hp):Prop:=match x with
 |.str _=>T="str"|.int _=>T="int"|.ref p=>(T="list"∧∃d,ż K H p d)∨(T="tuple"∧∃o,K.lookup p=Α o∧o.cls=.type "tuple"∧o.dict=Β)∨
     (T="dict"/\((∃c,H p=Α (.dK c))\/∃c,H p=Α (.dT c)))\/(T="set"/\∃S n,H p=Α (.set S n))
 |_=>False
def Lw(I:Inv X Å d H s)(r:RelV x v)(ty:tyV X.K T x H):
 s.TypeIs v T/\∀a,v=.ref a->∃q,s.heap.get? a=Α q/\q.dict=Β:=by
 cases x with
 |str z=>obtain⟨t,rfl⟩:=r;cases(show T="str"from ty);exact⟨jT s z t,λu e=>nomatch e⟩
 |int i=>obtain⟨t,rfl⟩:=r;cases(show T="int"from ty);exact⟨typeIs_int s i t,λu e=>nomatch e⟩
 |ref p=>
  cases r;rcases ty with⟨rfl,xs,w⟩|⟨rfl,o,f,y,hd⟩|⟨rfl,f⟩|⟨rfl,S,n,f⟩
  ·obtain⟨ę,_,m,_⟩:=I.list w;refine⟨m.isList.typeIs,λa e=>?_⟩;cases e;obtain⟨o,n,e,c,hd,_⟩:=m;exact⟨o,e,hd⟩
  ·refine⟨⟨o,I.vk p o f,y⟩,λa e=>?_⟩;cases e;exact⟨o,I.vk _ o f,hd⟩
  ·have z:∃o,s.heap.get? p=Α o∧o.ExactDict:=by
    rcases f with⟨A,f⟩|⟨A,f⟩
    ·obtain⟨_,_,_,_,o,_,_,e,g,_⟩:=I.hok p _ f;exact⟨o,e,g⟩
    ·obtain⟨_,_,_,_,o,_,_,e,g,_⟩:=I.hok p _ f;exact⟨o,e,g⟩
   obtain⟨o,e,g⟩:=z;refine⟨⟨o,e,g.1⟩,λa l=>?_⟩;cases l;exact⟨o,e,g.2.1⟩
  ·refine BL λZ=>?_;obtain⟨o,_,_,_,e,g,_⟩:=I.hok p _ f;refine Z ?_;refine⟨⟨o,e,g.1⟩,λa l=>?_⟩;cases l;exact⟨o,e,g.2.1⟩
 |_=>exact ų ty
def N8(K:Ï)(T:String)(r:V->List V->Hp->VK->Prop)(to:TE)(t:TA):TE:=λc H Q=>to c H λx e=>tyV K T x e/\t c e λxs h=>r x xs h Q
variable{o e:Ç}{es:List Ç}{to:TE}{t:TA}{name:Str}{aD gB:Pos}{T id:String}{r:V->List V->Hp->VK->Prop}
def cQ(pa:PlainAttrs T)(slot:Slot T name id)(lY:typeOf (.builtin id)=pure (.type "method_descriptor"))(hm:N7 X id r)(ho:PE X o to)(ha:PA X (e::es) t)
 (jE:autoParam (dg o name X.env (eval o X.env)=eval o X.env) Ζ)
 (qY:autoParam (((ü gB<|Î (e::es) X.env).all (fun x=>!x.1)&&(af gB<|ag [] X.env).all (fun x=>x.1.isSome)
   &&decide ((e::es).length+([]:List Ϭ).length+(if([]:List Ϭ).isEmpty then 0 else 1)<30))=Δ) Η)
 (jF:autoParam ((aD.endLine==gB.line)=Δ) Η)(hs:autoParam (Î (e::es) X.env=(Ε,eval e X.env)::Î es X.env) Η)(kM:autoParam ((ü gB<|Î es X.env).any (·.1)=Ε) Ζ):
 PE X (.Call (.Attribute o name aD) (e::es) [] gB) (N8 X.K T r to t):=by
 intro Å s c H Q I h;refine wpAny_Call_method_late jE qY jF rfl<|Ż (ho Å s c H _ I h) λv s1 zz=>?_;refine BL λZ=>?_;obtain⟨x,H1,I1,r1,ty,q1⟩:=zz;obtain⟨h1,h2⟩:=Lw I1 r1 ty;refine Z ?_;refine⟨T,id,pa,slot,lY,h1,h2,?_⟩;have hA:=ha gB Å s1 c H1 _ I1 q1;rw[hs]at hA⊢;refine Cm (by show(Ε||(ü gB<|Î es X.env).any (·.1))=Ε;rw[kM]<;>rfl)<|Cn ?_;exact Ż hA<|by rintro us s2 ⟨vs,H2,I2,r2,q2⟩;exact hm Å s2 c H2 x vs v us Q I2 r1 r2 q2
end
def MtM(X:Cx)(id:String)(r:V->List V->Hp->VK->Prop):Prop:=
 ∀(b:List (À×Obj)) (s:Ä) (a:St) (H:Hp) (x:V) (c:List V) (v:Á) (d:List Á) (Q:VK),Inv X b a H s->RelV x v->Ő c d->r x c H Q->
  Ð (Ú X.prog X.w) X.A (call (.builtin id) (v::d)) (EP X b a Q) X.xe s
def Ő.one:∀{x:V}{a:List Á},Ő [x] a->∃u,a=[u]/\RelV x u:=by
 intro x a h;cases h with
 |cons r t=>cases t;exact⟨_,rfl,r⟩
section
variable{X:Cx}{Å:List (À×Obj)}{σ:St}{H:Hp}{s:Ä}{l:À}{xs ys:List V}
def Inv.OU{d its':List Á}(I:Inv X Å σ H s)(r:H l=Α (.lst xs))
 (e:s.heap.get? l=Α {cls:=.type "list",data:=.seq d.toArray n})(o:f d.toArray=its'.toArray)(k:Ő ys its')(j:ys.length<=sizeLine):
 Inv X Å σ (upd H l<|.lst ys) {s with heap:=s.heap.update l<|fZ f,toks:=t'}:=by
 have q:=PySem.IsL.update e f;rw[o]at q;refine I.write (by rw[r];exact trivial) (.inl rfl) (λb' u p m=>(Cw s.heap (fZ f)<|Ť p).trans m) ⟨_,q⟩ ?_;exact⟨j,its',_,k,q⟩
def Inv.UP(I:Inv X Å σ H s)(h:Ő ys b)(g:ys.length<=sizeLine):
 Inv X Å σ (upd H s.heap.objs.size<|.lst ys) {s with heap:=s.heap.push {cls:=.type "list",data:=.seq b.toArray},toks:=t'}:=
 I.laid (λx x q=>Ć _ q) (õ _) ⟨g,b,0,h,ĵ _ rfl⟩
theorem Inv.fresh(I:Inv X Å σ H s):H s.heap.objs.size=Β:=I.hok.fresh<|õ _
def Inv.Lx(I:Inv X Å σ H s)(d:H l=Α (.lst xs)):xs.length<=sizeLine/\∃(b:List Á) (n:Nat),Ő xs b/\xs.length=b.length/\s.heap.get? l=Α {cls:=.type "list",data:=.seq b.toArray n}:=by obtain⟨z,b,n,r,e⟩:=I.hok l _ d;exact⟨z,b,n,r,r.length,e⟩
def Ff(h:n<=sizeLine):Cf n=Ε:=decide_eq_false (by lia)
end
section
variable{X:Cx}
def pH:V->List V->Hp->VK->Prop:=λx d H Q=>∃l b y,x=.ref l/\d=[y]/\H l=Α (.lst b)/\b.length<sizeLine/\Q .non (upd H l<|.lst<|b++[y])
def Ņ:MtM X "list.append" pH:=by intro Å s a H x vs v us Q I g i h;refine BL λZ=>?_;obtain⟨l,xs,y,rfl,rfl,f,hz,q⟩:=h;cases g;obtain⟨u,rfl,j⟩:=i.one;obtain⟨z,c,n,r,hl,e⟩:=I.Lx f;refine Z ?_;refine oZ Ϙ ⟨_,e,rfl⟩ F.entry_list_append (F.args_list_append_2 _ _) (PySem.list_append l c.toArray n u (by rw[Ł];lia)) ⟨e,?_⟩;refine⟨.non,_,I.OU f e (by simp) (r.append<|.cons j .nil) ?_,rfl,q⟩;rw[ŭ,List.length_singleton];lia
def CL:V->List V->Hp->VK->Prop:=λx f H Q=>∃l b d c,x=.ref l/\f=[.ref b]/\H l=Α (.lst d)/\H b=Α (.lst c)/\d.length+c.length<=sizeLine/\Q .non (upd H l<|.lst<|d++c)
def vL:MtM X "list.extend" CL:=by
 intro Å s a H x vs v us Q I m o h;refine BL λZ=>?_;obtain⟨l,b,xs,zs,rfl,rfl,j,A,hz,q⟩:=h;cases m;obtain⟨u,rfl,p⟩:=o.one;cases p;obtain⟨z,f,n,r,hl,e⟩:=I.Lx j;obtain⟨z2,g,w,t,HD,B⟩:=I.Lx A;refine Z ?_;have y:f.toArray.size+g.toArray.size<=sizeLine:=by rw[Ł,Ł];lia
 have C:¬(!f.toArray.isEmpty&&Cf (f.toArray.size+g.toArray.size))=Δ:=by rw[Ff y,Bool.and_false];exact oC
 refine oZ xA ⟨_,e,rfl⟩ F.entry_list_extend (F.args_list_extend_2 _ _)
  (AutoSeq1.list_extend_list_list_0 l f.toArray n b g.toArray w C (by lia)<|by lia) ⟨e,B,?_⟩
 refine⟨.non,_,I.OU (its':=f++g) j e (by simp) (r.append t) ?_,rfl,q⟩;rw[ŭ];lia
end
end L2
namespace R4
open PySem PySem.W PySem.Calls PyProof.Rows
def rP:∀(ns:List Int) (vs:List Á),WellAll P h vs (ns.map WData.int)->mG vs ns:=by
 intro ns
 induction ns with
 |nil=>intro vs w;cases w;exact .nil|cons n ns e=>
  intro vs w;cases w with
  |cons a b=>cases a;exact .cons _ _<|e _ b
def D6{l:mV}(H:l.most=Α n)
 (C:l.row.toRowW.claim.pre j=Δ)(O:WellAll P h Q j):
 ∃a vs ns,Q=[Ϯ a]/\j=[WData.list<|ns.map WData.int]/\h.get? a=Α {cls:=.type "list",data:=.seq vs.toArray}/\mG vs ns/\ns.length<=n:=by
 have y:=(pre_splitW C).1;have I:=(pre_splitW C).2;obtain⟨d,r,rfl,L,K⟩:=hasAllW_cons y;obtain rfl:=hasAllW_nil K;obtain⟨xs,rfl,J⟩:=hasW_list L;obtain⟨ns,rfl⟩:=items_int J;have q:=by
  have t:=by have t:=(holds_andW I).1;rw[H]at t;exact t
  have z:=condW_of t (w_not<|w_lt w_lit<|w_len_list<|w_arg rfl)
  first
   |(rw[c q']at z)
   |(simp at z;omega)
 cases O with
 |cons E D=>
  cases D;cases E with
  |list G BI=>exact⟨_,_,ns,rfl,rfl,G,rP ns _ BI,q⟩
def D7(l:mV)(args:List WData):l.row.toRowW.claim.post args (.bool Δ) args=Δ:=
 postW_of
  (show WShape.has [] (.bool Δ) .bool=Δ by first|rfl|decide|simp[])
  (show(WTm.eq .res<|.lit<|.bool Δ).value [] {args:=args,res:=Α<|.bool Δ,after:=args}=Α (.bool<|true==Δ)from w_eq_bool (w_res rfl) w_lit) rfl
def zB{l:mV}
 (J:l.most=Α n)(NJ:d.params.defaults=[])
 (call:∀(w:ã) (c b:Ä) (mg mb:Str→Option Á) (m:À) (o:Obj) (v s g:Á) (a:À) (vs:List Á) (ns:List Int),
   Ground q D [] XP w c mg mb b.heap->Z w b.heap->
   b.heap.get? m=Α o->o.data=.func (docDef d.name d.params d.body d.scope v s g)->b.heap.CodeRec s d.name->mg d.name=Α (.ref m)->
   b.heap.get? a=Α {cls:=.type "list",data:=.seq vs.toArray}->mG vs ns->ns.length<=n->b.gens= #[]->
   eM (Ú l.prog w) iq (.call (.ref m) ⟨[.ref a],[]⟩) (λr s'=>r=.ok (.ret<|.bool Δ)/\OldK b.heap s'.heap/\s'.os=b.os/\fO s'.gens) b):
 tz q D XP Z l.row.toRowW d [] (λf vs=>sO f vs):=by
 intro w c b mg mb G Y m o v s g dV kV I hd C x Rf N z NI as JK W E X L;obtain rfl:=Dflts.none x NJ;obtain rfl:=Dflts.noKw x;obtain⟨a,vs,ns,rfl,rfl,NK,Hf,k⟩:=D6 J JK X;refine enter_call<|jV (call w c b mg mb m o v s g a vs ns G Y I (fd_plain hd) C Rf NK Hf k N) λr s' H=>?_;obtain⟨rfl,R,Q,O⟩:=H;exact⟨.inl ⟨.bool Δ,.bool Δ,[],rfl,λy=>rfl,.bool Δ,D7 l _,λy=>⟨B4,λy K=>(nomatch K)⟩⟩,R,Q,O⟩
end R4
namespace L2
open PySem PySem.Spec PyProof.Rows
theorem dZ:∀{vs:List Á}{ns:List Int},mG vs ns->Ő (ns.map V.int) vs
 |_,_,.nil=>.nil|_,_,.cons n t h=>.cons ⟨t,rfl⟩<|dZ h
def NL(H:Hp):Prop:=∀b,H b=Β\/(∃o a,H b=Α (.ge o<|.lst a))\/∃q,H b=Α (.ϸ q)
noncomputable def lu(K:Ï):List Str->Hp
 |[]=>λx=>Β
 |y::r=>λb=>match Ů K y with
  |some (_,P)=>if b=P then Α (.ϸ<|gE y)else lu K r b|none=>lu K r b
theorem iE{K:Ï}:∀{l:List Str}{b:À}{u:HO},lu K l b=Α u->∃y c,y∈l/\Ů K y=Α (c,b)/\u=.ϸ (gE y)
 |[],_,_,h=>by cases(show(Β:Option HO)=Α _ from h)|y::r,b,u,h=>by
  have i:(match Ů K y with
   |some (_,P)=>if b=P then Α (.ϸ<|gE y)else lu K r b|none=>lu K r b)=Α u:=h
  have k:lu K r b=Α u->∃z c,z∈y::r/\Ů K z=Α (c,b)/\u=.ϸ (gE z):=λq=>
   let ⟨z,c,o,a,n⟩:=iE q
   ⟨z,c,ð _ o,a,n⟩
  cases e:Ů K y with
  |none=>rw[e]at i;exact k i|some p=>
   obtain⟨c,P⟩:=p;rw[e]at i;have a:(if b=P then Α (HO.ϸ<|gE y)else lu K r b)=Α u:=i;by_cases j:b=P
   ·rw[if_pos j]at a;cases a;exact⟨y,c,ŀ,by rw[j];exact e,rfl⟩
   ·rw[if_neg j]at a;exact k a
theorem CM{K:Ï}(e:Ů K y=Α (c,P)):∀{l:List Str},(∀z∈l,z=y)->y∈l->lu K l P=Α (.ϸ<|gE y)
 |[],_,h=>by cases h|z::r,d,_=>by
  have b:=d z ŀ;subst b;show(match Ů K z with
   |some (_,Q)=>if P=Q then Α (HO.ϸ<|gE z)else lu K r P|none=>lu K r P)=_
  rw[e];exact if_pos rfl
def Fg{P:ï}{w:ã}{K:Ï}{mg mb:Str->Option Á}{CX:gX}{k:Nat}{fa a:À}{fd:ą}{x:Str}{sp:Sp}{f:Ä}{vs:List Á}{ns:List Int}
 (KX:K.In f.heap)(Av:f.heap.Ns đ mg)(E:f.heap.Ns builtinsNs mb)(hbb:∀x:Str,x≠"__name__" ->mb x=fR x)(Yb:f.heap.NoLimit)(hg:f.gens= #[])
 (L:f.heap.get? a=Α {cls:=.type "list",data:=.seq vs.toArray})(hi:mG vs ns)(hl:ns.length<=sizeLine)(hr:Ń k iq)
 (F:∀base:Ô,K.In base->base.Ns đ mg->Ϲ P w K mg base CX k fa fd [x] sp)(u_:∀(s:Ä) (u:Á),fV s fd ⟨[u],[]⟩ [(x,u)])
 (vB:∀H:Hp,NL H->ż K H a (ns.map V.int)->sp [.ref a] H (λv g=>v=.bl Δ) λg g g=>False)
 (OW:∀H e s',CX [] H f (λg g g=>False) e s'->False)
 (hnt:lams≠[]->tD K=Δ)(EA:∀y z,y∈lams->z∈lams->y=z)(J:∀y c Pt,y∈lams->Ů K y=Α (c,Pt)->xJ f.heap c Pt/\f.heap.get? Pt=Α (PySem.W.tabObj #[])/\f.heap.BuiltinsAt mg Pt):
 eM (Ú P w) iq (.call (.ref fa) ⟨[.ref a],[]⟩) (λr s'=>r=.ok (.ret<|.bool Δ)/\OldK f.heap s'.heap/\s'.os=f.os/\fO s'.gens) f:=by
 have rv:=dZ hi;have Yc:=hi.length;have Rg:∀H:Hp,NL H->ż K H a (ns.map V.int)->oB P w H f.heap->(∀b,H b≠Β->b=a\/∃y c,y∈lams/\Ů K y=Α (c,b))->(H a≠Β->K.lookup a=Β)->(∀y c Pt,y∈lams->Ů K y=Α (c,Pt)->H Pt=Α (.ϸ<|gE y))->
  eM (Ú P w) iq (.call (.ref fa) ⟨[.ref a],[]⟩) (λr s'=>r=.ok (.ret<|.bool Δ)/\OldK f.heap s'.heap/\s'.os=f.os/\fO s'.gens) f:=by
  intro H hO hS Z hA hK hT;have tH:∀{b:À}{o:Obj},f.heap.get? b=Α o->H b=Β->(vj f.heap H).get? b=Α o:=λe n=>ET e n;have ON:∀{b:À}{o:Obj}{es:Array ir}{ep:Nat},f.heap.get? b=Α o->o.data=.dict es ep->H b=Β:=fun{b o es ep} e d=>by
   cases q:H b with
   |none=>rfl|some u=>
    rcases hA b (by rw[q];simp)with N|⟨y,c,j,A⟩
    ·subst N;rw[L]at e;cases e;have d':Data.seq vs.toArray _=Data.dict es ep:=d;cases d'
    ·have B:=(J y c b j A).2.1;rw[e]at B;cases B;cases d
  have R5:∀{b:À}{m:Str->Option Á},f.heap.Ns b m->(vj f.heap H).Ns b m:=fun{b m} ⟨o,es,ep,e,d,r⟩=>⟨o,es,ep,tH e<|ON e d,d,r⟩;have hKb:K.In (vj f.heap H):=λb o e=>tH (KX b o e) (by
   cases q:H b with
   |none=>rfl|some u=>
    rcases hA b (by rw[q];simp)with N|⟨y,c,j,A⟩
    ·subst N;rw[hK (by rw[q];simp)]at e;cases e
    ·have B:=(J y c b j A).2.1;rw[KX b o e]at B;cases B;have h2:=fL.mp (hnt (λz=>by rw[z]at j;cases j)) (b,_)<|PySem.W.mem_of_lookupK e;exact absurd (show Ε=Δ from h2) oC)
  have hM:Mod K mg (vj f.heap H):=⟨hKb,R5 Av,⟨mb,R5 E,hbb⟩,let ⟨mc,h1,h2⟩:=Yb;⟨mc,R5 h1,h2⟩⟩;have hTB:y_ K mg (vj f.heap H) H:=λy c Pt j A=>by
   refine BL λU=>?_;obtain⟨⟨o,us,Q,tf,KC,tg,inF,O,tt,I,r1,r2⟩,_,bm,ob,b1,b2,b3,b4,b5,b6,b7⟩:=J y c Pt j A;refine U ?_;refine⟨⟨o,us,Q,tf,KC,tg,inF,O,tt,tH I ?_,r1,r2⟩,hT y c Pt j A,bm,ob,b1,b2,b3,b4,tH b5 ?_,b6,b7⟩
   rotate_left
   ·cases q:H bm with
    |none=>rfl|some u=>
     rcases hA bm (by rw[q];simp)with N|⟨z,c2,Y,UQ⟩
     ·rw[N,L]at b5;cases b5;exact absurd (tq b6) (by decide)
     ·have B:=(J z c2 bm Y UQ).2.1;rw[b5]at B;cases B;cases b6
   cases q:H c with
   |none=>rfl|some u=>
    rcases hA c (by rw[q];simp)with N|⟨z,c2,Y,UQ⟩
    ·rw[N,L]at I;cases I;exact absurd (tq r1) (by decide)
    ·have B:=(J z c2 c Y UQ).2.1;rw[I]at B;cases B;cases r1
  have e0:zx P w K mg (vj f.heap H) iq [] f H:=⟨rfl,hM,λb o e=>HJ e,sE<|DP _ _,trivial,λb E=>absurd (show b∈([]:List À)from E) (by simp),Z,.of_eq hg,hTB⟩;refine jV ((F _ hKb<|R5 Av).run iq [] f H ⟨[.ref a],[]⟩ [.ref a] [.ref a] _ _ hr e0 (u_ f<|.ref a) (.cons rfl .nil) (vB H hO hS)) λr s' h=>?_;cases r with
  |error e=>exact(OW H e s' h).elim|ok fl=>
   cases fl with
   |next=>exact ų h|brk=>exact ų h|cont=>exact ų h|ret u=>
    refine BL λR=>?_;obtain⟨v,H',os,bare,un,NM,r',q⟩:=h;have q':v=.bl Δ:=q;subst q';obtain rfl:u=bI Δ:=r';refine R ?_;have oy:∀b o,f.heap.get? b=Α o->(∀t,H b≠Α (.ϸ t))->s'.heap.get? b=Α o:=?_
    ·refine⟨rfl,⟨λb o e=>?_,λb o e=>?_⟩,os,bare⟩
     ·by_cases G:∃t,H b=Α (.ϸ t)
      ·obtain⟨t,G⟩:=G;obtain⟨ps,I,_⟩:=NM b _<|un.rM b t G;rcases hA b (by rw[G];simp)with N|⟨y,c,j,A⟩
       ·subst N;obtain⟨KD,e3,_⟩:=Z b _ G;rw[L]at e3;cases e3
       ·obtain⟨⟨o2,us,Q,tf,KC,tg,inF,O,tt,f1,f2,f3,f4,_⟩,B,_⟩:=J y c b j A;rw[e]at B;cases B;exact .inr (.inl ⟨⟨c,o2,us,f1,f2,f3,f4⟩,rfl,#[],ps,rfl,by rw[I];simp⟩)
      ·exact .inl<|oy b o e λt z=>G ⟨t,z⟩
     ·by_cases G:∃t,H b=Α (.ϸ t)
      ·obtain⟨t,G⟩:=G;obtain⟨ps,I,_⟩:=NM b _<|un.rM b t G;exact⟨_,I⟩
      ·exact⟨o,oy b o e λt z=>G ⟨t,z⟩⟩
    intro b o e nt;cases q:H b with
    |none=>exact un.keep b o e q (by intro z;exact absurd (show b∈([]:List À)from z)<|by simp) (by simp)|some u=>
     rcases hO b with z|⟨ob,xs,z⟩|⟨t,z⟩
     ·rw[q]at z;cases z
     rotate_left
     ·exact absurd z<|nt t
     ·have z2:=un.vi b ob _ z;obtain⟨I,_⟩:=Z b _ z;obtain⟨B,_⟩:=NM b _ z2;rw[e]at I;cases I;exact B
 cases hk:K.lookup a with
 |some o=>
  have e:=KX a o hk;rw[L]at e;cases e;refine Rg (lu K lams) (λb=>?_) (.inr ⟨_,vs.toArray,_,hk,rfl,rfl,rfl,by rw[Ł,Yc];exact hl,by simpa using rv⟩) (λb u z=>?_) (λb z=>?_) (λz=>?_) λy c Pt j A=>CM A (λz Y=>EA z y Y j) j
  ·cases q:lu K lams b with
   |none=>exact .inl rfl|some u=>obtain⟨y,c,_,_,rfl⟩:=iE q;exact .inr<|.inr ⟨_,rfl⟩
  ·refine BL λR=>?_;obtain⟨y,c,j,A,rfl⟩:=iE z;refine R ?_;exact⟨#[],(J y c b j A).2.1,trivial,λpos cv z=>by cases z⟩
  ·cases q:lu K lams b with
   |none=>exact absurd q z|some u=>obtain⟨y,c,j,A,_⟩:=iE q;exact .inr ⟨y,c,j,A⟩
  ·cases q:lu K lams a with
   |none=>exact absurd q z|some u=>obtain⟨y,c,j,A,_⟩:=iE q;have B:=(J y c a j A).2.1;rw[L]at B;cases B
 |none=>
  refine Rg (λb=>if b=a then Α (.ge {cls:=.type "list",data:=.seq vs.toArray} (.lst<|ns.map V.int))else lu K lams b) (λb=>?_) (.inl<|.inr ⟨{cls:=.type "list",data:=.seq vs.toArray},if_pos rfl⟩) (λb u z=>?_) (λb z=>?_) (λg=>hk) λy c Pt j A=>?_
  ·by_cases E:b=a
   ·exact .inr<|.inl ⟨_,_,if_pos E⟩
   ·cases q:lu K lams b with
    |none=>exact .inl<|(if_neg E).trans q|some u=>obtain⟨y,c,_,_,rfl⟩:=iE q;exact .inr<|.inr ⟨_,(if_neg E).trans q⟩
  ·by_cases E:b=a
   ·have z':=(if_pos E).symm.trans z;cases z';subst E;exact⟨L,by rw[ģ];exact hl,vs,_,rv,L⟩
   ·have z':=(if_neg E).symm.trans z;obtain⟨y,c,j,A,rfl⟩:=iE z';exact⟨#[],(J y c b j A).2.1,trivial,λpos cv z=>by cases z⟩
  ·by_cases E:b=a
   ·exact .inl E
   ·cases q:lu K lams b with
    |none=>exact absurd ((if_neg E).trans q) z|some u=>obtain⟨y,c,j,A,_⟩:=iE q;exact .inr ⟨y,c,j,A⟩
  ·have ne:Pt≠a:=fun z=>by
    subst z;have B:=(J y c _ j A).2.1;rw[L]at B;cases B
   exact(if_neg ne).trans (CM A (λz Y=>EA z y Y j) j)
def Ib{K:Ï}(T:Top p nV Yd mg mb h)(X:K.In h)(s:(sK p).find? (λe=>e.name==x)=Α d)(r:Ů K x=Α (c,P)):
 xJ h c P/\h.get? P=Α (PySem.W.tabObj #[])/\h.BuiltinsAt mg P:=by
 refine BL λZ=>?_;obtain⟨t,k⟩:=PySem.W.tab_of T X s r;obtain⟨i,n,w,v,b,l,u,j⟩:=T.bmain;refine Z ?_;have y:i≠P:=λq=>by rw[q,k]at b;cases b;cases l
 have g:i≠đ:=λq=>by obtain⟨o,es,ep,e,hd,_⟩:=T.g;rw[q,e]at b;cases b;rw[hd]at j;cases j
 exact⟨t,k,i,n,w,v,g,y,b,l,u,j⟩
def Ic{l:mV}{n k:Nat}{q:ï}{U:List Str}{XP:(Str->Option Á)->Ô->Prop}{E:ã->Ô->Prop}{d:DefRec}{K:ip->Ï}{CX:ã->gX}{sp:ã->Sp}{x:Str}
 (hn:l.most=Α n)(Ui:n<=sizeLine)(NJ:d.params.defaults=[])(Z:Ń k iq)
 (hY:∀(w:ã) (h:Ô),E w h->(K w.params).In h)
 (F:∀(w:ã) (mg:Str→Option Á) (j:À) (h:Ô),(K w.params).In h→h.Ns đ mg→mg d.name=Α (.ref j)→
   ∃B:ą,(∀(s:Ä) (u:Á),fV s B ⟨[u],[]⟩ [(x,u)])/\
    ∀base:Ô,(K w.params).In base->base.Ns đ mg->Ϲ l.prog w (K w.params) mg base (CX w) k j B [x] (sp w))
 (R:∀(w:ã) (H:Hp) (a:À) (ns:List Int),ns.length<=n->NL H->ż (K w.params) H a (ns.map V.int)->sp w [.ref a] H (λv m=>v=.bl Δ) λm m m=>False)
 (OW:∀(w:ã) (H:Hp) (s:Ä) (e:Á) (s':Ä),CX w [] H s (λm m m=>False) e s'->False)
 (hnt:lams≠[]->∀w:ã,tD (K w.params)=Δ:=by intro z;exact absurd rfl z)(EA:autoParam (∀y z,y∈lams->z∈lams->y=z) Τ)(hrec:autoParam (∀y,y∈lams->∃d,(sK q).find? (λe=>e.name==y)=Α d) Τ):
 tz q U XP E l.row.toRowW d [] (λf vs=>sO f vs):=by
 refine R4.zB hn NJ λw D i mg mb j o pm cd doc a vs ns G Y ho hd vf Rf NK Hf b hg=>?_;have C:=hY w _ Y;obtain⟨B,hb,hF⟩:=F w mg j _ C G.T.g Rf;exact Fg C G.T.g G.T.b G.T.builtins G.T.nolimit hg NK Hf (ţ b Ui) Z hF hb (λH hO hS=>R w H a ns b hO hS) (λH e s'=>OW w H i e s') (λz=>hnt z w) EA λy c Pt X W=>let ⟨_,A⟩:=hrec y X;Ib G.T C A W
noncomputable def ϡ(s:æ)(j:Nat):æ:=match s with
 |.ClassDef _ _ _ a _ _ _ _ _ _ _=>a.getD j<|.Pass ⟨0,0,0,0⟩|_=>.Pass ⟨0,0,0,0⟩
noncomputable def bK(s:æ):fW:=match s with
 |.FunctionDef _ a _ _ _ _ _ _ _ _=>a|_=>{posonlyargs:=[],args:=[],vararg:=Β,kwonlyargs:=[],kw_defaults:=[],kwarg:=Β,defaults:=[]}
noncomputable def Ō(s:æ):List æ:=match s with
 |.FunctionDef _ _ b _ _ _ _ _ _ _=>b|_=>[]
noncomputable def è(s:æ):û:=match s with
 |.FunctionDef _ _ _ _ _ _ e _ _ _=>e|_=>{kind:=.function,names:=[],isGenerator:=Ε,isCoroutine:=Ε}
abbrev ze:gX:=λx x x x x x=>False
structure CN(K:Ï)(x qual:Str)(st:æ)(f:À)(fd:ą):Prop where
 ex:∃(oc:Á) (od:Option À) (kV doc pm:Á) (an:Option À) (cdv ct:Á) (AG:Array (Option Á)),
   fd=ϯ x qual (bK st) (Ō st) (è st) .none kV doc pm an cdv ct/\K.lookup f=Α ⟨oc,od,.func fd,AG⟩/\kb K cdv qual=Δ
 kp:bJ K (.ref f)=Δ
section
variable{K:Ï}
def CN.binds{st:æ}(F:CN K x qual st f k)
 (h:∀(kV a d:Á) (g:Option À) (b e:Á) (c:List Á),c.length=j.length->im (ϯ x qual (bK st) (Ō st) (è st) .none kV a d g b e) ⟨c,[]⟩=pure (j.zip c)):Binds K k j []:=by
 obtain⟨oc,od,kV,a,d,g,b,e,AG,rfl,lk,vf⟩:=F.ex;exact .all<|h kV a d g b e
def Fh{st:æ}{kV b d a e:Á}(l:K.lookup f=Α ⟨i,h,.func<|ϯ x qual (bK st) (Ō st) (è st) .none kV b d g a e,j⟩)
 (c:kb K a qual=Δ)(k:bJ K (.ref f)=Δ):CN K x qual st f (ϯ x qual (bK st) (Ō st) (è st) .none kV b d g a e):=⟨⟨i,h,kV,b,d,g,a,e,j,rfl,l,c⟩,k⟩
end
section
variable{X:Cx}
def pv(i:Nat){x:Str}{pos:Pos}(a:autoParam (EK X i x=Δ) Ζ):PE X (.Name x pos) (dR i):=pE a
end
def Ù(H H':Hp):Prop:=∀b o,H b=Α o->H' b=Α o
def Ù.refl(H:Hp):Ù H H:=λx x h=>h
def Č:Ù H H:=Ù.refl H
def Ù.trans(a:Ù H f)(b:Ù f e):Ù H e:=λc o h=>b c o<|a c o h
def Ù.free(e:Ù H a)(h:a l=Option.none):H l=Option.none:=by
 cases q:H l with
 |none=>rfl|some o=>rw[e l o q]at h;cases h
def Ù.seq{K:Ï}(e:Ù H b)(h:ż K H a xs):ż K b a xs:=by
 rcases h with(h|⟨o,h⟩)|h
 ·exact .inl<|.inl<|e _ _ h
 ·exact .inl<|.inr ⟨o,e _ _ h⟩
 ·exact .inr h
end L2
namespace M2
open PySem PySem.Spec PyProof.Rows L2
section
variable{X:Cx}{a b c e:Ç}{ta tb tc te:TE}{pos:Pos}
def PE.wk(h:PE X e t)(i:∀d H Q,t' d H Q->t d H Q):PE X e t':=λÅ s d H Q I q=>h Å s d H Q I<|i d H Q q
def PS.wk{st:æ}(h:PS X st t)(i:∀D d H,t' D d H->t D d H):PS X st t':=λÅ s d H D I q=>h Å s d H D I<|i D d H q
def aQ.wk(h:aQ X f r)(i:∀x y H Q,l x y H Q->r x y H Q):aQ X f l:=λÅ s d H x y v u Q I k j q=>h Å s d H x y v u Q I k j<|i x y H Q q
def Hq.wk(h:Hq X f r)(i:∀x H Q,k x H Q->r x H Q):Hq X f k:=λÅ s d H x v Q I j q=>h Å s d H x v Q I j<|i x H Q q
def Ŝ.wk(h:Ŝ X f r)(i:∀xs H Q,k xs H Q->r xs H Q):Ŝ X f k:=λÅ s d H xs j Q I r q=>h Å s d H xs j Q I r<|i xs H Q q
def Az.wk(h:Az X r)(i:∀x y H Q,m x y H Q->r x y H Q):Az X m:=λva j g s d H x y v u Q I l k q=>h va j g s d H x y v u Q I l k<|i x y H Q q
def CK.wk(h:CK X r)(i:∀x f g H Q,o x f g H Q->r x f g H Q):CK X o:=λÅ s d H x v l k f g m Q I n u t p q=>h Å s d H x v l k f g m Q I n u t p<|i x f g H Q q
def Ly(i:Nat):TE:=λd H Q=>match d[i]?with
 |some (Α v)=>Q v H|_=>False
def Ie(h:Ly i d H Q):dR i d H Q:=by
 unfold Ly at h;split at h
 ·exact⟨_,by assumption,h⟩
 ·exact h.elim
def mv(i:Nat){x:Str}{pos:Pos}(f:autoParam (EK X i x=Δ) Ζ):PE X (.Name x pos) (Ly i):=PE.wk (pE f) λy y y h=>Ie h
def N9(x:V)(k:Bool->Prop):Prop:=match x with
 |.bl c=>k c|_=>False
def nX(h:N9 x k):∃c,x=.bl c/\k c:=by
 cases x with
 |bl c=>exact⟨c,rfl,h⟩|_=>exact h.elim
def Fi(t:TE):TT:=λd H Q=>t d H λx i=>N9 x λc=>Q c i
def Fj(A:aQ X (Ĵ j) r)(D:PE X a ta)(C:PE X b tb)(B:ik j b=Ε):PT X (.Compare a [j] [b] pos) (Fi<|HQ r ta tb):=by
 intro g s d H Q I h;refine wpAny_isTrue_Compare1 (Ż (D g s d H _ I h) λv s1 ⟨x,N,J,q,w⟩=>Ż (C g s1 d N _ J w) λu s2 ⟨y,L,G,p,t⟩=>
  Ż (A g s2 d L x y v u _ G q p t) λc s3 ⟨z,K,E,o,i⟩=>?_) B
 obtain⟨k,e,i⟩:=nX i;subst e;cases o;exact eL ⟨K,E,i⟩
def AY(r n:R2)(ta tb tc:TE):TE:=λd H Q=>ta d H λx q=>tb d q λy p=>r x y p λz g=>N9 z λk=>
 (if k=Δ then tc d g λw' o=>n y w' o Q else Q (.bl Ε) g)
def Fk{q t:df}{r B:R2}(Y:aQ X (Ĵ q) r)(BE:aQ X (Ĵ t) B)(ha:PE X a ta)(hb:PE X b tb)(hc:PE X c tc)
 (Z:autoParam (lastMarks [q,t] [b,c]=Ε) Υ):PE X (.Compare a [q,t] [b,c] pos) (AY r B ta tb tc):=by
 intro m s f H Q I h;refine Compare_chain (Ż (ha m s f H _ I h) λv s1 ⟨x,H1,I1,O,W⟩=>chain_link (Ż (hb m s1 f H1 _ I1 W) λu s2 ⟨y,H2,I2,A,U⟩=>
  Ż (Y m s2 f H2 x y v u _ I2 O A U) λd s3 ⟨z,D,C,N,n⟩=>?_)) Z
 obtain⟨k,e,n⟩:=nX n;subst e;cases N;refine eL ?_;cases k with
 |false=>exact ite_ff ⟨.bl Ε,D,C,rfl,n⟩|true=>exact ite_tt<|chain_last<|Ż (hc m s3 f D _ C n)<|by rintro w' s4 ⟨K,H4,I4,L,R⟩;exact BE m s4 f H4 y K u w' Q I4 A L R
def Fm{t w:df}{r D:R2}(ho:aQ X (Ĵ t) r)(BE:aQ X (Ĵ w) D)(ha:PE X a ta)(hb:PE X b tb)(hc:PE X c tc)
 (hm:autoParam (lastMarks [t,w] [b,c]=Ε) Υ):PT X (.Compare a [t,w] [b,c] pos) (Fi<|AY r D ta tb tc):=by
 intro m s f H Q I h;refine isTrue_chain (Ż (ha m s f H _ I h) λv s1 ⟨x,H1,I1,Y,q1⟩=>test_link (Ż (hb m s1 f H1 _ I1 q1) λu s2 ⟨y,H2,I2,C,q2⟩=>
  Ż (ho m s2 f H2 x y v u _ I2 Y C q2) λd s3 ⟨z,G,E,W,n⟩=>?_)) hm
 obtain⟨k,e,n⟩:=nX n;subst e;cases W;refine eL ?_;cases k with
 |false=>exact ite_ff ⟨G,E,n⟩|true=>refine ite_tt<|test_last<|Ż (hc m s3 f G _ E n) λw' s4 ⟨O,H4,I4,U,Z⟩=>Ż (BE m s4 f H4 y O u w' _ I4 C U Z) λd' s5 N=>?_;refine BL λV=>?_;obtain⟨z2,H5,I5,R,q⟩:=N;obtain⟨k2,e2,q⟩:=nX q;refine V ?_;subst e2;cases R;exact eL ⟨H5,I5,q⟩
def OX(ta tb:TE):TE:=λd H Q=>ta d H λx f=>N9 x λc=>if c=Δ then tb d f Q else Q (.bl Ε) f
def UR(ta tb:TE):TE:=λd H Q=>ta d H λx f=>N9 x λc=>if c=Δ then Q (.bl Δ) f else tb d f Q
def OY(ta:TE):TE:=λd H Q=>ta d H λx i=>N9 x λc=>Q (.bl<|!c) i
variable{rest:List Ç}
def Fn(p:PE X a ta)(o:PE X (.BoolOp .And (b::rest) pos) tb):PE X (.BoolOp .And (a::b::rest) pos) (OX ta tb):=by
 intro i s d H Q I h;refine BoolOp_and<|Ż (p i s d H _ I h) λv s1 m=>?_;obtain⟨x,k,j,n,g⟩:=m;obtain⟨c,rfl,g⟩:=nX g;cases n;refine eL ?_;cases c with
 |true=>exact o i s1 d k Q j g|false=>exact⟨.bl Ε,k,j,rfl,g⟩
def OZ(p:PE X a ta)(o:PE X (.BoolOp .Or (b::rest) pos) tb):PE X (.BoolOp .Or (a::b::rest) pos) (UR ta tb):=by
 intro i s d H Q I h;refine BoolOp_or<|Ż (p i s d H _ I h) λv s1 m=>?_;obtain⟨x,k,j,n,g⟩:=m;obtain⟨c,rfl,g⟩:=nX g;cases n;refine eL ?_;cases c with
 |false=>exact o i s1 d k Q j g|true=>exact⟨.bl Δ,k,j,rfl,g⟩
def Lz(n:PE X a ta):PE X (.UnaryOp .Not a pos) (OY ta):=by intro k s d H Q I h;refine UnaryOp_<|Ż (n k s d H _ I h) λv s1 l=>?_;obtain⟨x,p,o,m,i⟩:=l;obtain⟨c,rfl,i⟩:=nX i;cases m;exact not_of<|eL ⟨.bl<|!c,p,o,rfl,i⟩
def mI(C:Int->Int->Prop)(g:Int->Int->V):R2:=λx y H Q=>match x,y with
 |.int i,.int j=>C i j/\Q (g i j) H|_,_=>False
def D8(g:Int->Int->V):R2:=λx y H Q=>match x,y with
 |.int i,.int j=>Q (g i j) H|_,_=>False
def vM(x y:V)(H:Hp)(Q:VK)(h:mI C g x y H Q):rI C g x y H Q:=by
 cases x with
 |int i=>
  cases y with
  |int j=>exact⟨i,j,rfl,rfl,h.1,h.2⟩|_=>exact h.elim
 |_=>exact h.elim
def uf(x y:V)(H:Hp)(Q:VK)(h:D8 g x y H Q):HS g x y H Q:=by
 cases x with
 |int i=>
  cases y with
  |int j=>exact⟨i,j,rfl,rfl,h⟩|_=>exact h.elim
 |_=>exact h.elim
def O_:R2:=λx y H Q=>match x,y with
 |.int i,.int j=>Q (.int<|i+j) H|.str i,.str j=>i.length+j.length<=sizeLine/\Q (.str<|i++j) H|_,_=>False
def LA:aQ X (ŉ .Add) O_:=aQ.wk (Le.or AO) λx y H Q h=>by
 cases x with
 |int i=>
  cases y with
  |int j=>exact .inl ⟨i,j,rfl,rfl,h⟩|_=>exact h.elim
 |str i=>
  cases y with
  |str j=>exact .inr ⟨i,j,rfl,rfl,h.1,h.2⟩|_=>exact h.elim
 |_=>exact h.elim
def LB:aQ X (ŉ .Sub) (D8 λi j=>.int<|i-j):=aQ.wk Lf uf
def zC(i j:Int):Prop:=Ld i j\/(sS i<=1048576/\sS j<=1048576)
theorem zC.ok(h:zC i j):IntMulOk i j:=by
 rcases h with h|⟨g,f⟩
 ·exact h.ok
 ·exact IntMulOk.of_le g f (by decide)
def LC:aQ X (ŉ .Mult) (mI zC λi j=>.int<|i*j):=aQ.wk (CH λx x x x x x x h q=>mul_int q h.ok) vM
def Fo(_ j:Int):Prop:=j≠0/\sS j<=8000
def Fo.py(h:Fo i j):Builtin.divisionGoesByPylong i j=Ε:=by
 refine PyProof.noPylong_of_log2 ?_;have k:=intBits_le_iff.mp h.2;have l:j.natAbs≠0:=by have:=h.1;lia
 exact Ţ ((Nat.log2_lt l).mpr k) (by decide)
def Ig:aQ X (ŉ .FloorDiv) (mI Fo λi j=>.int<|i.fdiv j):=aQ.wk (CH λx x x x x x x f q=>floordiv_int f.1 q<|.inl f.py) vM
def LD:aQ X (ŉ .Mod) (mI (λx j=>j≠0) λi j=>.int<|i.fmod j):=aQ.wk HU vM
def Fp:aQ X (ŉ .Pow) (mI DX λi j=>.int<|i^j.toNat):=aQ.wk Lg vM
def iF:aQ X (Ĵ .Lt) (D8 λi j=>.bl<|decide<|i<j):=aQ.wk OK uf
def ca:aQ X (Ĵ .LtE) (D8 λi j=>.bl<|decide<|i<=j):=aQ.wk OL uf
def zD:aQ X (Ĵ .Gt) (D8 λi j=>.bl<|decide<|j<i):=aQ.wk OM uf
def mU(g:Int->V):V->Hp->VK->Prop:=λx H Q=>match x with
 |.int i=>Q (g i) H|_=>False
def cn:Hq X (unaryOp .USub) (mU λi=>.int<|-i):=Hq.wk E5 λx H Q h=>by
 cases x with
 |int i=>exact⟨i,rfl,h⟩|_=>exact h.elim
def NO:List V->Hp->VK->Prop:=λxs H Q=>match xs with
 |[.int i]=>Q (.int<|if i<0then -i else i) H|_=>False
def yi:Ŝ X (.builtin "abs") NO:=Ŝ.wk E7 λxs H Q h=>by
 unfold NO at h;split at h
 ·exact⟨_,rfl,h⟩
 ·exact h.elim
def Fq:List V->Hp->VK->Prop:=λxs H Q=>match xs with
 |[.int i,.int j]=>Q (.int<|if j<i then j else i) H|_=>False
def Ih(f:X.calm=Δ):Ŝ X (.builtin "min") Fq:=Ŝ.wk (D_ f) λxs H Q h=>by
 unfold Fq at h;split at h
 ·exact⟨_,_,rfl,h⟩
 ·exact h.elim
def Fs:List V->Hp->VK->Prop:=λxs H Q=>match xs with
 |[.int i,.int j]=>Q (.int<|if j>i then j else i) H|_=>False
def Ii(f:X.calm=Δ):Ŝ X (.builtin "max") Fs:=Ŝ.wk (DZ f) λxs H Q h=>by
 unfold Fs at h;split at h
 ·exact⟨_,_,rfl,h⟩
 ·exact h.elim
def LF(K:Ï):List V->Hp->VK->Prop:=λxs H Q=>match xs with
 |[.str y]=>y.length<=sizeLine/\Q (.int (y.length:Int)) H|[.ref p]=>∃f,(ż K H p f\/jH K H p f)/\Q (.int (f.length:Int)) H|_=>False
def ō:Ŝ X (.builtin "len") (LF X.K):=Ŝ.wk E8 λxs H Q h=>by
 unfold LF at h;split at h
 ·exact⟨_,_,rfl,⟨h.1,rfl⟩,h.2⟩
 ·obtain⟨f,d,i⟩:=h;refine⟨_,f.length,rfl,?_,i⟩;rcases d with d|d
  ·exact .inl ⟨f,d,rfl⟩
  ·exact .inr ⟨f,d,rfl⟩
 ·exact h.elim
def mIx(K:Ï):R2:=λx y H Q=>match x,y with
 |.ref p,.int i=>∃f v,(ż K H p f\/jH K H p f)/\mY f i=Α v/\Q v H|.str z,.int i=>∃c,z.length<=sizeLine/\mY z.cps.toList i=Α c/\Q (.str ⟨#[c]⟩) H|_,_=>False
def JS:Az X (mIx X.K):=Az.wk AX λx y H Q h=>by
 cases x with
 |ref p=>
  cases y with
  |int i=>
   obtain⟨j,v,d,g,f⟩:=h;rcases d with d|d
   ·exact .inl ⟨p,j,i,v,rfl,rfl,d,g,f⟩
   ·exact .inr<|.inl ⟨p,j,i,v,rfl,rfl,d,g,f⟩
  |_=>exact h.elim
 |str z=>
  cases y with
  |int i=>obtain⟨c,d,g,f⟩:=h;exact .inr<|.inr ⟨z,i,c,rfl,rfl,d,g,f⟩|_=>exact h.elim
 |_=>exact h.elim
def iOf(x:V)(k:Int->Prop):Prop:=match x with
 |.int i=>k i|_=>False
def O0(t:TE):TO:=λd H Q=>t d H λx j=>iOf x λi=>Q (Α i) j
def Ft(h:PE X e te):PO X (Α e) (O0 te):=by
 intro j s d H Q I m;refine Ż (h j s d H _ I m) λu s1 k=>?_;obtain⟨x,o,n,l,f⟩:=k;cases x with
 |int i=>obtain⟨t,rfl⟩:=l;exact⟨Α i,o,n,.int i t,f⟩|_=>exact f.elim
def US(K:Ï):V->Option Int->Option Int->Hp->VK->Prop:=λx g h H Q=>match x with
 |.ref a=>∃d,ż K H a d/\∀p,H p=Β->Q (.ref p) (upd H p<|.lst<|AW d g h)|_=>False
def Fu:CK X (US X.K):=CK.wk Ia λx lo hi H Q h=>by
 cases x with
 |ref a=>obtain⟨f,j,i⟩:=h;exact⟨a,f,rfl,j,i⟩|_=>exact h.elim
end
mutual
def Rp(K:Ï)(H:Hp):aO->V->Prop
 |.none,v=>v=.non|.bool b,v=>v=.bl b|.int i,v=>v=.int i|.str x,v=>v=.str x|.tuple ds,v=>∃a xs,v=.ref a/\jH K H a xs/\pI K H ds xs|.list ds,v=>∃a xs,v=.ref a/\ż K H a xs/\pI K H ds xs|.dict _,_=>False
def pI(K:Ï)(H:Hp):List aO->List V->Prop
 |[],xs=>xs=[]|d::ds,xs=>∃x r,xs=x::r/\Rp K H d x/\pI K H ds r
end
def Ù.tup{K:Ï}(e:Ù H b)(h:jH K H a xs):jH K b a xs:=by
 rcases h with(h|⟨o,h⟩)|h
 ·exact .inl<|.inl<|e _ _ h
 ·exact .inl<|.inr ⟨o,e _ _ h⟩
 ·exact .inr h
theorem Ù.upd(h:H p=Β):Ù H (upd H p o):=λb u e=>by rw[ñ<|Ċ e h];exact e
mutual
theorem Rp.same{K:Ï}{H H':Hp}(e:Ù H H'):∀(d:aO) (v:V),Rp K H d v->Rp K H' d v
 |.none,_,h=>by unfold Rp at h⊢;exact h|.bool _,_,h=>by unfold Rp at h⊢;exact h|.int _,_,h=>by unfold Rp at h⊢;exact h|.str _,_,h=>by unfold Rp at h⊢;exact h|.tuple ds,_,h=>by unfold Rp at h⊢;obtain⟨a,xs,h1,h2,h3⟩:=h;exact⟨a,xs,h1,Ù.tup e h2,pI.same e ds xs h3⟩|.list ds,_,h=>by unfold Rp at h⊢;obtain⟨a,xs,h1,h2,h3⟩:=h;exact⟨a,xs,h1,e.seq h2,pI.same e ds xs h3⟩|.dict _,_,h=>by unfold Rp at h;exact h.elim
theorem pI.same{K:Ï}{H H':Hp}(e:Ù H H'):∀(ds:List aO) (xs:List V),pI K H ds xs->pI K H' ds xs
 |[],_,h=>by unfold pI at h⊢;exact h|d::ds,_,h=>by unfold pI at h⊢;obtain⟨x,r,h1,h2,h3⟩:=h;exact⟨x,r,h1,Rp.same e d x h2,pI.same e ds r h3⟩
end
section
variable{X:Cx}{Å:List (À×Obj)}{σ:ă}{H:Hp}{s:Ä}
mutual
theorem Rp.reads(I:Inv X Å σ H s):∀(d:aO) (v:V) (u:Á),Rp X.K H d v->RelV v u->∃as,Reads s.heap u d as
 |.none,v,u,h,r=>by unfold Rp at h;subst h;cases r;exact⟨_,.none⟩|.bool b,v,u,h,r=>by unfold Rp at h;subst h;cases r;exact⟨_,.bool b⟩|.int i,v,u,h,r=>by unfold Rp at h;subst h;obtain⟨t,rfl⟩:=r;exact⟨_,.int i t⟩|.str x,v,u,h,r=>by unfold Rp at h;subst h;obtain⟨t,rfl⟩:=r;exact⟨_,.str x t⟩|.tuple ds,v,u,h,r=>by unfold Rp at h;obtain⟨a,xs,h1,h2,h3⟩:=h;subst h1;cases r;obtain⟨ę,rv,⟨o,e,hc,n,hd⟩,hz⟩:=I.tuple h2;obtain⟨as,ra⟩:=pI.reads I ds xs ę h3 rv;exact⟨_,.tuple e hc hd<|by simpa using ra⟩|.list ds,v,u,h,r=>by unfold Rp at h;obtain⟨a,xs,h1,h2,h3⟩:=h;subst h1;cases r;obtain⟨ę,rv,⟨o,n,e,hc,hdd,hd⟩,hz⟩:=I.list h2;obtain⟨as,ra⟩:=pI.reads I ds xs ę h3 rv;exact⟨_,.list e hc hd<|by simpa using ra⟩|.dict _,_,_,h,_=>by unfold Rp at h;exact h.elim
theorem pI.reads(I:Inv X Å σ H s):∀(ds:List aO) (xs:List V) (us:List Á),pI X.K H ds xs->Ő xs us->∃as,ReadsAll s.heap us ds as
 |[],xs,us,h,r=>by unfold pI at h;subst h;cases r;exact⟨_,.nil⟩|d::ds,xs,us,h,r=>by
  unfold pI at h;obtain⟨x,q,h1,h2,h3⟩:=h;subst h1;cases r with
  |cons r1 r2=>obtain⟨as,ra⟩:=Rp.reads I d x _ h2 r1;obtain⟨bs,rb⟩:=pI.reads I ds q _ h3 r2;exact⟨_,.cons ra rb⟩
end
end
def Ij(K:Ï)(h:Bool):R2:=λx y H Q=>∃d e,Rp K H d x/\Rp K H e y/\d.canLay0=Δ/\e.canLay0=Δ/\min d.depth e.depth<=60/\Q (.bl<|if h then !PyData.eqv d e else ł d e) H
section
variable{X:Cx}
def AZ(hu:X.A.units+64<ύ):aQ X (Ĵ .Eq) (Ij X.K Ε):=by intro Å s a H x y v u Q I f c h;refine BL λZ=>?_;obtain⟨d,e,m,l,k,j,h5,q⟩:=h;obtain⟨as,i⟩:=Rp.reads I d x v m f;obtain⟨bs,g⟩:=Rp.reads I e y u l c;refine Z ?_;exact SeqAt.compareEq_reads i g k j (by lia) ⟨.bl _,H,I,rfl,q⟩
def iY(hu:X.A.units+64<ύ):aQ X (Ĵ .NotEq) (Ij X.K Δ):=by intro Å s a H x y v u Q I f c h;refine BL λZ=>?_;obtain⟨d,e,m,l,k,j,h5,q⟩:=h;obtain⟨as,i⟩:=Rp.reads I d x v m f;obtain⟨bs,g⟩:=Rp.reads I e y u l c;refine Z ?_;exact SeqAt.compareNe_reads i g k j (by lia) ⟨.bl _,H,I,rfl,q⟩
end
end M2
namespace M3
open PySem PySem.Spec PyProof.Rows L2 M2
def CO(x:oB P w H h)(f:H C=Β)(k:∀b u,b≠C->h.get? b=Α u->h'.get? b=Α u):oB P w H h':=λa o e=>
 (x a o e).stay (fun b u c q=>k b u (by
   rcases c with c|c
   ·rw[c];exact Ċ e f
   ·exact Ċ c f) q) (λy q=>q) λy y q=>q
theorem nY:∀(ns:List (Str×dh)) (h:List (Str×À)),(∀y∈ns,y.2=.free->∃c,env.cells.lookup y.1=Α c)->(∀x c,h.lookup x=Α c->env.cells.lookup x=Α c)->
 ∃cl,(forIn ns h (λ(x:Str×dh) r=>if(x.2==.free)=Δ then(do let c<-cellOf env x.1;pure (mj ((x.1,c)::r)))else pure (mj r)):Sem (List<|Str×À))=pure cl/\
  (∀x c,cl.lookup x=Α c->env.cells.lookup x=Α c)/\(∀x,(∃c,h.lookup x=Α c)->∃c,cl.lookup x=Α c)/\∀y∈ns,y.2=.free->∃c,cl.lookup y.1=Α c
 |[],h,_,s=>⟨h,rfl,s,λu z=>z,λu z=>nomatch z⟩
 |(n,k)::ns,h,D,s=>by
  by_cases C:k=.free
  ·subst C;obtain⟨c,G⟩:=D (n,.free) ŀ rfl;have e:cellOf env n=pure c:=by unfold cellOf;rw[G]
   have J:∀x d,((n,c)::h).lookup x=Α d->env.cells.lookup x=Α d:=λx d q=>by
    rw[Š]at q;cases o:x==n with
    |true=>rw[o]at q;have:=eq_of_beq o;subst this;cases q;exact G|false=>rw[o]at q;exact s x d q
   refine BL λZ=>?_;obtain⟨cl,B,A,m,w⟩:=nY ns ((n,c)::h) (λy g=>D y<|ð _ g) J;refine Z ?_;refine⟨cl,?_,A,λx ⟨d,hd⟩=>m x ?_,λy g p=>?_⟩
   ·rw[oM];simp only[e];exact B
   ·rw[Š];cases o:x==n with
    |true=>exact⟨c,rfl⟩|false=>exact⟨d,hd⟩
   ·rcases ù.mp g with rfl|g
    ·exact m n ⟨c,by rw[Š,beq_self_eq_true]⟩
    ·exact w y g p
  ·have H:(k==dq)=Ε:=by simpa using C
   refine BL λZ=>?_;obtain⟨cl,B,A,m,w⟩:=nY ns h (λy g=>D y<|ð _ g) s;refine Z ?_;refine⟨cl,?_,A,m,λy g p=>?_⟩
   ·rw[oM];simp only[H];exact B
   ·rcases ù.mp g with rfl|g
    ·exact absurd p C
    ·exact w y g p
def pJ(h:∀y∈scope.names,y.2=.free->∃c,env.cells.lookup y.1=Α c):
 ∃cl,closureFor scope env=pure cl/\(∀x c,cl.lookup x=Α c->env.cells.lookup x=Α c)/\∀y∈scope.names,y.2=.free->∃c,cl.lookup y.1=Α c:=by
 obtain⟨cl,e,j,_,i⟩:=nY scope.names [] h (λx c z=>by simp at z);refine⟨cl,?_,j,i⟩;unfold closureFor
 first
  |(simp only[bind_pure];exact e)
  |(rw[show ∀t,(do let r<-t)=t from λt=>by simp])|(simp only[])
noncomputable def km(X:Cx)(N':List Str)(scope:û)(cl:List (Str×À))(C:À)(s:Ä)(H:Hp)(fp:List À):Cx where
 prog:=X.prog
 w:=X.w
 K:=X.K
 mg:=X.mg
 base:=X.base
 A:=X.A
 N:=N'
 s₀:=s
 H₀:=H
 env:=compEnvC scope cl C X.env
 outer:=X.stack
 stack:=X.stack
 ex:=fp
 fn:=λx=>scope.names.lookup x==Α .cell
 calm:=X.calm
 pn:=[]
 xe:=λy y=>False
def gG(X:Cx)(sc scope:û):List Str->List Nat->Prop
 |x::a,j::b=>X.N[j]?=Α x/\(scope.names.lookup x=Α .free/\(sc.names.lookup x=Α .cell\/sc.names.lookup x=Α .free))/\gG X sc scope a b|_,[]=>True|[],_::_=>False
noncomputable def je(js:List Nat)(nl:Nat)(σ:ă):ă:=js.map (λj:Nat=>(σ[j]?).getD Β)++ý nl Β
theorem qG:∀{N':List Str}{js:List Nat}{i:Nat}{x:Str}{v:V},gG X sc scope N' js->N'[i]?=Α x->(je js nl a)[i]?=Α (Α v)->
 ∃j:Nat,X.N[j]?=Α x/\a[j]?=Α (Α v)/\scope.names.lookup x=Α .free/\(sc.names.lookup x=Α .cell\/sc.names.lookup x=Α .free)
 |N',[],i,x,v,_,_,h=>by unfold je at h;rw[ſ,ϊ,ig]at h;split at h<;>cases h|[],_::_,_,_,_,c,_,_=>c.elim|y::N',j::js,0,x,v,c,d,f=>by
  obtain⟨k,g,_⟩:=c;simp at d;subst d;have e:=by simpa[je]using f
  refine⟨j,k,?_,g⟩;cases q:a[j]?with
  |none=>rw[q]at e;cases e|some o=>rw[q]at e;exact congrArg Α e
 |y::N',j::js,i+1,x,v,c,d,f=>by exact qG c.2.2 (by simpa using d) (by simpa[je]using f)
theorem yj(I:Nat->Ä->Prop)(u:∀n s,I n s->Ð (Ú prog w) A (ij it) (λr f=>match r with
 |none=>R (.ok .next) f|some v=>Ð (Ú prog w) A (xp b it v) (fun _ E=>Ð (Ú prog w) A (assign b env v) (fun _ o=>
   Ð (Ú prog w) A (forIn L Δ λc r=>if r=Δ then do let ok<-isTrue c env (eval c env);pure (mj ok)else pure (mj r)) (λok e=>
    if ok=Δ then Ð (Ú prog w) A (eval elt env) (λx l=>
     Ð (Ú prog w) A (call (.builtin "list.append") [acc,x]) (λy k=>∃m,m<n/\I m k) (λy y=>False) l) (λy y=>False) e
    else ∃m,m<n/\I m e) (λy y=>False) o) (λy y=>False) E) (λy y=>False) f) (λy y=>False) s)(n:Nat)(h:I n s):
 eM (Ú prog w) A (.compLoop (.ListComp elt [⟨b,iter,L,0⟩] scope pos) 0 it acc env) R s:=by
 refine codeAny_loop rfl I (λn s hI=>?_) n h;refine wpAny_noted<|wpAny_noRaise ?_;refine à<|mK<|à<|ό (u n s hI) (λr f q=>?_) λy y g=>g;cases r with
 |none=>exact ď q|some v=>
  refine à<|ό q (λy E Zap=>?_) λy y g=>g;refine à<|ό Zap (λy o C=>à<|ό C (λok e p=>?_) λy y g=>g) λy y g=>g;cases ok with
  |false=>exact ď ⟨rfl,p⟩|true=>exact à<|à<|ό p (λx l B=>à<|ό B (λy k z=>ď<|ď ⟨rfl,z⟩) λy y g=>g) λy y g=>g
def CP(X:Cx)(e:List Ç)(t:TT):Prop:=
 ∀(g:List (À×Obj)) (s:Ä) (a:ă) (H:Hp) (Q:Bool->Hp->Prop),Inv X g a H s->t a H Q->
  Ð (Ú X.prog X.w) X.A (forIn e Δ λc r=>if r=Δ then do let ok<-isTrue c X.env (eval c X.env);pure (mj ok)else pure (mj r)) (TP X g a Q) X.xe s
def UT:TT:=λx H Q=>Q Δ H
def Ik:CP X [] UT:=λx x x H x I h=>wpAny_tests_nil ⟨H,I,h⟩
def Il(h:PT X c t):CP X [c] t:=λÅ s a H Q I e=>wpAny_tests_one<|h Å s a H Q I e
def vN(js:List Nat)(nl:Nat)(s:TI)(g:TG)(t:TT)(u:TE):TE:=λd H Q=>s d H λJ o=>∀D,o D=Β->
 ∃W:Nat->Nat->ă->Hp->Prop,(∃m,W 0 m (je js nl d)<|upd o D<|.lst [])/\∀i m b h,W i m b h->
  (J.stop i h∧Q (.ref D) h)∨(J.go i h∧∃N:ă→Hp→Prop,(∀a f,N a f→∃k,k<m∧W (i+1) k a f)∧∀x f,J.OH i h x f→g x b f fun a v=>t a v fun c n=>
    if c=Δ then u a n λy l=>∃j,l D=Α (.lst j)/\j.length<sizeLine/\N a (upd l D<|.lst<|j++[y])else N a n)
theorem kn{env:Env}:∀{b:List (Str×dh)}{x:Str}{k:dh},(k=.cell\/k=.free)->
 (b.map λ(n,k)=>if(k==dq&&env.scope.kind==.function&&env.kindOf n==Α .cell)then(n,jZ)else(n,k)).lookup x=Α k->(x,dq)∈b\/(x,jZ)∈b
 |[],x,k,_,h=>by simp at h|(n,q)::r,x,k,g,h=>by
  have t:=@kn env r x k g;rw[â]at h;by_cases o:x=n
  ·subst o;by_cases m:q=.free
   ·subst m;exact .inl ŀ
   ·have u:(q==dq)=Ε:=by simpa using m
    have e:(if(q==dq&&env.scope.kind==.function&&env.kindOf x==Α .cell)=Δ then(x,jZ)else(x,q))=(x,q):=by rw[u];rfl
    have s:=h;simp only[e,Š,beq_self_eq_true]at s;have:=Ň s;rcases g with g|g
    ·rw[this,g];exact .inr ŀ
    ·exact absurd (this.trans g) m
  ·have p:(x==n)=Ε:=by simpa using o
   have j:=t (by
    by_cases c:(q==dq&&env.scope.kind==.function&&env.kindOf n==Α .cell)=Δ
    ·simp only[c,if_true,Š,p]at h;exact h
    ·simp only[c,if_false,rY,Š,p]at h;exact h)
   rcases j with j|j
   ·exact .inl<|ð _ j
   ·exact .inr<|ð _ j
theorem aE:∀(a:List (Str×dh)) (n:Nat) (acc:List (Str×À)),Ŕ n a acc=Ŕ n a []++acc
 |[],_,_=>rfl|(x,k)::r,n,acc=>by
  unfold Ŕ;split
  ·rw[aE r (n+1) ((x,n)::acc),aE r (n+1) [(x,n)],my];rfl
  ·exact aE r n acc
theorem ko:∀(a:List (Str×dh)) (n:Nat) {x:Str}{c:À},(x,c)∈Ŕ n a []->(x,jZ)∈a
 |[],_,_,_,h=>by simp[Ŕ]at h|(y,k)::r,n,x,c,h=>by
  unfold Ŕ at h;split at h
  ·rename_i d;rw[aE r (n+1) [(y,n)]]at h;rcases Ŵ.mp h with h|h
   ·exact ð _<|ko r _ h
   ·have e:(x,c)=(y,n):=by simpa using h
    cases e;rw[beq_iff_eq.mp d];exact ŀ
  ·exact ð _<|ko r _ h
structure Blk(X:Cx)(scope:û)(n:Nat)(h:Ô)(cl:List (Str×À)):Prop where
 at_:∀x c,cl.lookup x=Α c->(X.env.cells.lookup x=Α c/\scope.names.lookup x≠Α .cell)\/(n<c/\h.IsCell c Β/\scope.names.lookup x=Α .cell)
 inj:∀x y c,cl.lookup x=Α c->cl.lookup y=Α c->n<c->x=y
 has:∀x,((x,dq)∈scope.names\/(x,jZ)∈scope.names)->∃c,cl.lookup x=Α c
def LG{X:Cx}{n:Nat}(b:∀y∈scope.names,y.2=.cell->scope.names.lookup y.1=Α .cell)(r:∀x c,cl.lookup x=Α c->X.env.cells.lookup x=Α c)(u:∀y∈scope.names,y.2=.free->∃c,cl.lookup y.1=Α c)(t:∀x c,X.env.cells.lookup x=Α c->c<n)(ok:CellsOk h (n+1) (Ŕ (n+1) scope.names [])):Blk X scope n h (Ŕ (n+1) scope.names cl):=by
 have o:∀x c,(Ŕ (n+1) scope.names cl).lookup x=Α c->(cl.lookup x=Α c/\(Ŕ (n+1) scope.names []).lookup x=Β)\/(Ŕ (n+1) scope.names []).lookup x=Α c:=λx c e=>by
  rw[aE,List.lookup_append]at e;cases q:(Ŕ (n+1) scope.names []).lookup x with
  |none=>rw[q]at e;exact .inl ⟨by simpa using e,rfl⟩|some d=>rw[q]at e;exact .inr (by simpa using e)
 refine⟨λx c e=>?_,λx y c w v l=>?_,λx i=>?_⟩
 ·rcases o x c e with⟨e,q⟩|e
  ·refine .inl ⟨r x c e,λz=>?_⟩;obtain⟨d,hd⟩:=pG z;rw[hd]at q;cases q
  ·have m:=mem_of_lookup e;exact .inr ⟨(ok.empty x c m).2,(ok.empty x c m).1,b _ (ko _ _ m) rfl⟩
 ·have p:∀z,(Ŕ (n+1) scope.names cl).lookup z=Α c→(Ŕ (n+1) scope.names []).lookup z=Α c:=fun z e=>by
   rcases o z c e with⟨e,q⟩|e
   ·exact absurd (t z c<|r z c e)<|Nat.lt_asymm l
   ·exact e
  exact name_of_addr ok.apart (mem_of_lookup<|p x w)<|mem_of_lookup<|p y v
 ·rw[aE,List.lookup_append];rcases i with i|i
  ·obtain⟨c,l⟩:=u _ i rfl;cases q:(Ŕ (n+1) scope.names []).lookup x with
   |none=>exact⟨c,by simpa using l⟩|some d=>exact⟨d,rfl⟩
  ·obtain⟨d,hd⟩:=pG<|b _ i rfl;rw[hd];exact⟨d,rfl⟩
def vo{j:Á}(C:∀h',h'.Ns s.heap.objs.size (λy=>Β)->(∀b o,s.heap.get? b=Α o->h'.get? b=Α o)->CellsOk h' (s.heap.objs.size+1) (Ŕ (s.heap.objs.size+1) scope.names [])->
 Q (newEnv scope s.heap.objs.size g (Ŕ (s.heap.objs.size+1) scope.names D) qual n j (Α env0) d) {s with heap:=h'}):
 Ð M A (newFunctionEnv scope g D [] qual n j (Α env0) d) Q E s:=by
 simp only[newFunctionEnv,Option.isSome_some,if_true];refine à<|wpAny_alloc ?_;refine à (wpAny_layCells _ (λname k x=>by cases v:k==jZ<;>simp[v]) _ _ _ _ ?_);have ok:=cellsFrom_ok scope.names (s.heap.push {cls:=.type "dict",data:=.dict #[]}) (s.heap.objs.size+1) [] ⟨λy y B=>(nomatch B),B4⟩ (by rw[eO];exact õ _);rw[eO]at ok;rw[show({s with heap:=s.heap.push {cls:=.type "dict",data:=.dict #[]}}:Ä).heap.objs.size=s.heap.objs.size+1from eO ..];refine à ?_;exact ď<|ď<|C _ ((Heap.Ns.new s.heap<|.type "dict").keeps (pushCells_keeps _ _)) (λb o e=>pushCells_keeps _ _ b o<|Ć _ e) ok
theorem pK{env:Env}:∀{d:List (Str×dh)}{x:Str},d.lookup x=Α .free->
 ¬(d.map λ(n,k)=>if(k==dq&&env.scope.kind==.function&&env.kindOf n==Α .cell)then(n,jZ)else(n,k)).lookup x=Α .local
 |[],x,h=>by simp at h|(n,q)::r,x,h=>by
  intro f;rw[â]at f;rw[Š]at h;cases g:x==n with
  |true=>
   rw[g]at h;cases h;by_cases c:(dq==dq&&env.scope.kind==.function&&env.kindOf n==Α .cell)=Δ
   ·simp only[c,if_true,Š,g]at f;cases f
   ·simp only[c,if_false,rY,Š,g]at f;cases f
  |false=>
   rw[g]at h;have i:=pK (env:=env) h;by_cases c:(q==dq&&env.scope.kind==.function&&env.kindOf n==Α .cell)=Δ
   ·simp only[c,if_true,Š,g]at f;exact i f
   ·simp only[c,if_false,rY,Š,g]at f;exact i f
def D9{fp:List À}(L:X.env.scope=sc)(hk:scope.kind=.function)(A:gG X sc scope N' js)(w:js.length+nl=N'.length)(B:Blk X scope s.heap.objs.size h' cl)(I:Inv X Å a H s)(D:∀b∈fp,fq X Å H b)(O:∀b∈fp,b<s.heap.objs.size)(hn:h'.Ns s.heap.objs.size (λf=>Β))(C:∀b o,s.heap.get? b=Α o->h'.get? b=Α o):
 Inv (km X N' scope cl s.heap.objs.size s H fp) [] (je js nl a) H {s with heap:=h',toks:=tk}:=by
 have U:∀x,((km X N' scope cl s.heap.objs.size s H fp).env.kindOf x=Α .cell\/(km X N' scope cl s.heap.objs.size s H fp).env.kindOf x=Α .free)->∃c,cl.lookup x=Α c:=λx r=>by
  rcases r with r|r
  ·exact B.has x<|kn (.inl rfl) r
  ·exact B.has x<|kn (.inr rfl) r
 have lt:∀x c,X.env.cells.lookup x=Α c->c<s.heap.objs.size:=λx c e=>by obtain⟨v,o,t,_⟩:=I.cell x c e;exact ö t
 have inj:∀x y c,cl.lookup x=Α c->cl.lookup y=Α c->x=y:=λx y c G E=>by
  rcases B.at_ x c G with⟨n,_⟩|⟨n,_⟩
  ·rcases B.at_ y c E with⟨p,_⟩|⟨p,_⟩
   ·exact I.ok.inj x y c n p
   ·exact absurd (lt x c n)<|Nat.lt_asymm p
  ·exact B.inj x y c G E n
 refine⟨⟨I.ok.mod,hk,I.ok.glob,I.ok.blt,õ _,inj,U,λx c z e=>by
  rcases B.at_ x c e with⟨_,q⟩|⟨q,_⟩
  ·exact absurd (beq_iff_eq.mp z) q
  ·exact mE q,I.ok.hd,I.ok.frames,.inl rfl,λb k=>⟨Ĕ<|O b k,λx c e=>by
  rcases B.at_ x c e with⟨q,_⟩|⟨q,_⟩
  ·exact(D b k).2.2.2.2.1 x c q
  ·exact da<|Nat.lt_trans (O b k) q⟩,
  I.bs,ţ I.ok.EJ I.sz,fun b o e k=>?_,fun b k hz=>?_,I.stack,I.xU,I.tb⟩,rfl,I.bare,Un.kept C,⟨_,hn,fun i x v G E e3=>?_⟩,fun x c e=>?_,I.hok.fresh<|õ _,fun x c e=>by
    rcases B.at_ x c e with⟨q,_⟩|⟨q,_⟩
    ·exact I.jc x c q
    ·exact I.hok.fresh<|mE q,λp hp=>?_,I.hok.kept C,?_⟩
 ·rcases(D b k).2.2.2.1 with z|z
  ·exact I.ok.zo b o e z
  ·exact absurd (Ţ (ö e)<|ţ I.ok.EJ z)<|cG _
 ·rcases ù.mp (I.xT b hz)with z|z
  ·exact(D b k).2.1 z
  ·exact(D b k).2.2.1 z
 ·refine BL λZ=>?_;obtain⟨j,n,p,N,g⟩:=qG A G E;obtain⟨m,hm,hl⟩:=I.loc;refine Z ?_;have LH:K_ X.env.scope x:=by
   rw[L];rcases g with g|g
   ·exact .inr<|.inl g
   ·exact .inr<|.inr g
  obtain⟨u,ru,lk⟩:=hl j x v n p LH;refine⟨u,ru,?_⟩;rcases lk with⟨Q,_⟩|⟨Q,c,hc,ic⟩
  ·exfalso;have Ye:sc.names.lookup x=Α .local:=by rw[<-L];exact Q
   rcases g with g|g<;>(rw[Ye]at g;cases g)
  ·have J:=e3;rcases J with z|z
   ·exact absurd z<|pK N
   ·obtain⟨d,hd⟩:=U x z;have:d=c:=by
     rcases B.at_ x d hd with⟨q,_⟩|⟨_,_,q⟩
     ·rw[hc]at q;exact(Ň q).symm
     ·rw[N]at q;cases q
    subst this;exact .inr ⟨z,d,hd,by
     obtain⟨o,t,NG⟩:=ic;exact⟨o,C _ _ t,NG⟩⟩
 ·rcases B.at_ x c e with⟨q,_⟩|⟨_,q,_⟩
  ·obtain⟨v,o,t,hd⟩:=I.cell x c q;exact⟨v,o,C _ _ t,hd⟩
  ·exact⟨Β,q⟩
 ·exact absurd hp (by unfold km;simp[])
 ·show _=N'.length;rw[<-w];simp[je]
def A_(I:Inv X k a H s)(i:∀b∈fp,fq X k H b)(J:Inv (km X N' scope cl s.heap.objs.size s H fp) [] c v s')(h:∀b u,b≠s.heap.objs.size->s'.heap.get? b=Α u->h'.get? b=Α u):Inv X k a v {s' with heap:=h'}:=by
 have j:∀{b:À}{o:Obj},s.heap.get? b=Α o->b≠s.heap.objs.size:=λe=>Ĕ<|ö e;have u:=J.base;refine I.call' J.os ⟨λb o e n f g=>h b o (j e)<|u.keep b o e n f g,λb o e n f g=>?_,λb o e n g=>u.free b o e n g,λb o e g=>?_,u.tups,u.vi,u.rM⟩ (CO J.hok J.free h) J.bare λb f=>?_
 ·obtain⟨p,q⟩:=u.slot b o e n f g;exact⟨p,h b _ (j e) q⟩
 ·obtain⟨r,q⟩:=u.there b o e g;exact⟨r,h b _ (j e) q⟩
 ·exact⟨(i b f).2.2.2.1,(i b f).2.1,(i b f).2.2.2.2.1,(i b f).2.2.2.2.2⟩
def vO{X:Cx}{elt tg K:Ç}{ifs:List Ç}{scope:û}{pos:Pos}{wi:TI}{g:TG}{tt:TT}{te:TE}{use:Option (Á->Sem Unit)}{QQ:Á->Ä->Prop}{KV:V->Hp->Prop}{Å:List (À×Obj)}{s:Ä}{j:ă}{H:Hp}{pp:Pos}(N':List Str)(js:List Nat)(nl:Nat)(sc:û)(rX:X.env.scope=sc)(hcalm:X.calm=Δ)(hi:PI X.ar tg K wi)(hg:∀cl C s H fp,PG (km X.ar N' scope cl C s H fp) tg g)(ht:∀cl C s H fp,CP (km X.ar N' scope cl C s H fp) ifs tt)(he:∀cl C s H fp,PE (km X.ar N' scope cl C s H fp) elt te)(hcap:gG X.ar sc scope N' js)(hlen:js.length+nl=N'.length)(hk:scope.kind=.function)(hcell:∀y∈scope.names,y.2=.cell->scope.names.lookup y.1=Α .cell)(hnames:∀y∈scope.names,y.2=.local->scope.names.lookup y.1=Α .local)(hfree:∀y∈scope.names,y.2=.free->(sc.names.lookup y.1=Α .cell\/sc.names.lookup y.1=Α .free))(hs:∀x,de K X.env x=pure x)(I:Inv X.ar Å j H s)(h:vN js nl wi g tt te j H KV)
 (nU:∀(D C:À) (m:Str->Option Á) (s6:Ä) (H5:Hp),s6.heap.Ns C m->(∀h',(∀b o,b≠C->s6.heap.get? b=Α o->h'.get? b=Α o)->Inv X.ar Å j H5 {s6 with heap:=h'})->C≠X.ar.env.locals->(∀x c,X.ar.env.cells.lookup x=Α c->c≠C)->(∀p∈X.ar.pn++Å,p.1≠C)->H5 C=Β->X.ar.s₀.heap.objs.size<=C->KV (.ref D) H5->∀r,compPost (Ú X.prog X.w) X.A X.ar.xe use QQ (.ref D) C (.ok r) s6):
 Ð (Ú X.prog X.w) X.A (comprehension (.ListComp elt [⟨tg,K,ifs,0⟩] scope pos) scope X.ar.env pp (newList []) Ε (eval K X.ar.env) use) QQ X.ar.xe s:=by
 obtain⟨cl0,c1,c2,c3⟩:=pJ (scope:=scope) (env:=X.ar.env) λy hy hf=>I.ok.has y.1 (by
  have:=hfree y hy hf;rw[<-rX]at this;exact this)
 refine wpAny_comprehension_free (use:=use) rfl hs c1 hk hnames<|Ż (hi Å s j H _ I h) λv s1 h1=>Ż h1 λX5 s2 h2=>?_;refine BL λZ=>?_;obtain⟨it,fp,tn,J,H2,e,I2,T,HC,f2,q2⟩:=h2;refine Z ?_;subst e;refine wpAny_newObj_type<|vo<|λh₁ NQ oy UU=>?_;dsimp only at NQ oy UU⊢;generalize UV:s2.heap.push {cls:=.type "list",dict:=Β,data:=.seq ([]:List Á).toArray}=A at NQ oy UU⊢;have hD:H2 s2.heap.objs.size=Β:=I2.hok.fresh<|õ _;have I3:Inv X.ar Å j (upd H2 s2.heap.objs.size<|.lst []) {s2 with heap:=A}:=by rw[<-UV];exact I2.laid (t':=s2.toks) (λb u e=>Ć _ e) (õ _) ⟨bB _,[],0,.nil,ĵ _ rfl⟩
 have R6:∀b∈fp,b<s2.heap.objs.size:=λb E=>by obtain⟨o,ho,_⟩:=T.obj 0 _ HC b E;exact ö ho
 have UW:A.objs.size=s2.heap.objs.size+1:=by rw[<-UV,eO]
 have f3:∀b∈fp,fq X.ar Å (upd H2 s2.heap.objs.size<|.lst []) b:=λb E=>by obtain⟨g0,g1⟩:=f2 b E;exact⟨by rw[ñ<|Ĕ<|R6 b E];exact g0,g1⟩
 have B:=LG (X:=X.ar) (cl:=cl0) hcell c2 c3 (λx c e=>by obtain⟨v,o,ho,_⟩:=I3.cell x c e;exact ö ho) UU;generalize Ŕ (A.objs.size+1) scope.names cl0=cl at B⊢;refine BL λY=>?_;obtain⟨W,⟨m0,w0⟩,turn⟩:=q2 s2.heap.objs.size hD;refine Y ?_;have I4:=D9 (X:=X.ar) (N':=N') (js:=js) (nl:=nl) (sc:=sc) (scope:=scope) (cl:=cl) (fp:=fp) (h':=h₁) (tk:=s2.toks) rX hk hcap hlen B I3 f3 (λb E=>by show b<A.objs.size;rw[UW];exact oS<|R6 b E) NQ oy;have st4:tn 0 h₁:=T.keep 0 _ _ HC λb E o e=>oy b o (by rw[<-UV];exact Ć _ e);have fr4:∀b∈fp,(upd H2 s2.heap.objs.size<|.lst []) b=Β:=λb E=>(f3 b E).1;have stat:∀{H':Hp},(∀b∈fp,H' b=Β)->∀b∈fp,fq (km X.ar N' scope cl A.objs.size {s2 with heap:=A} (upd H2 s2.heap.objs.size<|.lst []) fp) [] H' b:=fun{H'} hn b E=>by
  refine BL λY=>?_;obtain⟨g0,g1,g2,g3,g4,g5⟩:=f3 b E;refine Y ?_;refine⟨hn b E,Ĕ (by show b<A.objs.size;rw[UW];exact oS<|R6 b E),λz=>?_,.inl E,λx c e=>by
   rcases B.at_ x c e with⟨q,_⟩|⟨q,_⟩
   ·exact g4 x c q
   ·exact da (Nat.lt_trans (by show b<A.objs.size;rw[UW];exact oS<|R6 b E) q),λp hp=>absurd hp<|by unfold km;simp[]⟩
  rcases ù.mp (I3.xT b z)with z|z
  ·exact g1 z
  ·exact g2 z
 have loop:∀s₃:Ä,s₃={s2 with heap:=h₁}->
  eM (Ú X.prog X.w) X.A (.compLoop (.ListComp elt [⟨tg,K,ifs,0⟩] scope pos) 0 (.ref it) (.ref s2.heap.objs.size)<|compEnvC scope cl A.objs.size X.ar.env)
   (compPost (Ú X.prog X.w) X.A X.ar.xe use QQ (.ref s2.heap.objs.size) A.objs.size) s₃:=by
  rintro s₃ rfl;refine yj (λn s'=>∃i l H',Inv (km X.ar N' scope cl A.objs.size {s2 with heap:=A} (upd H2 s2.heap.objs.size<|.lst []) fp) [] l H' s'/\tn i s'.heap/\(∀b∈fp,H' b=Β)/\W i n l H') ?_ m0 ⟨0,_,_,I4,st4,fr4,w0⟩;rintro n s5 ⟨i,f,H5,I5,N6,R0,w5⟩;rcases turn i n f H5 w5 with⟨stop,qn⟩|⟨go,N,hN,step⟩
  ·refine Ż (T.done (km X.ar N' scope cl A.objs.size {s2 with heap:=A} (upd H2 s2.heap.objs.size<|.lst []) fp) rfl rfl rfl hcalm i [] s5 f H5 (λt t=>False) I5 (stat R0) N6 stop) ?_;rintro r s6 ⟨hr,I6⟩;subst hr;refine BL λY=>?_;obtain⟨m,hm,_⟩:=I6.loc;refine Y ?_;exact nU _ _ m s6 H5 hm (λh' k=>A_ I3 f3 I6 k) (da I3.lt) (λx c e z=>by
    obtain⟨v,o,ho,_⟩:=I3.cell x c e;exact absurd (ö ho) (by rw[z];exact cG _)) (λp hp z=>by
    have:=ö (I3.pin p hp).1;rw[z]at this;exact cG _ this) I6.free I3.sz qn _
  ·refine Ż (T.item (km X.ar N' scope cl A.objs.size {s2 with heap:=A} (upd H2 s2.heap.objs.size<|.lst []) fp) rfl rfl rfl hcalm i [] s5 f H5 (λt t=>False) I5 (stat R0) N6 go) ?_;rintro r s6 ⟨u,hr,h6⟩;subst hr;refine Ż h6 λt s7 zz=>?_;refine BL λZ=>?_;obtain⟨x,H7,I7,r7,y7,UX,fr7⟩:=zz;refine Z ?_;have I7':=I7.pinned (stat fr7)<|T.obj _ _ UX;have again:∀{s8:Ä}{a:ă}{H8:Hp},Inv (km X.ar N' scope cl A.objs.size {s2 with heap:=A} (upd H2 s2.heap.objs.size<|.lst []) fp) ([]++uc fp s7.heap) a H8 s8->
    Inv (km X.ar N' scope cl A.objs.size {s2 with heap:=A} (upd H2 s2.heap.objs.size<|.lst []) fp) [] a H8 s8/\tn (i+1) s8.heap/\∀b∈fp,H8 b=Β:=fun{s8 a H8} I8=>by
    refine⟨I8.lm,T.keep _ _ _ UX λb E o e=>(I8.pin (b,o)<|ž _<|ž _<|dY E e).1,λb E=>?_⟩;obtain⟨o,e,d⟩:=T.obj _ _ UX b E;exact(I8.pin (b,o)<|ž _<|ž _<|dY E e).2.1
   refine Ż (hg cl _ _ _ fp _ s7 f H7 x u _ I7' r7<|step x H7 y7) λt s8 zz=>?_;refine BL λZ=>?_;obtain⟨a,H8,I8,q8⟩:=zz;refine Z ?_;refine Ż (ht cl _ _ _ fp _ s8 a H8 _ I8 q8) λc s9 zz=>?_;obtain⟨H9,I9,q9⟩:=zz;cases c with
   |false=>refine BL λZ=>?_;obtain⟨m',Yf,w9⟩:=hN _ _ q9;obtain⟨a1,a2,a3⟩:=again I9;refine Z ?_;exact⟨m',Yf,i+1,a,H9,a1,a2,a3,w9⟩|true=>refine Ż (he cl _ _ _ fp _ s9 a H9 _ I9 q9) λyv Hs zz=>?_;refine BL λZ=>?_;obtain⟨y,H10,I10,r10,ys,e10,l10,w10⟩:=zz;refine Z ?_;refine Ż (Ņ _ Hs a H10 (.ref s2.heap.objs.size) [y] (.ref s2.heap.objs.size) [yv] (λt UY=>N a UY) I10 rfl (.cons r10 .nil) ⟨_,ys,y,rfl,rfl,e10,l10,w10⟩) λt Im zz=>?_;refine BL λZ=>?_;obtain⟨v11,UY,I11,_,Yg⟩:=zz;obtain⟨a1,a2,a3⟩:=again I11;obtain⟨m',Yf,Yg⟩:=hN _ _ Yg;refine Z ?_;exact⟨m',Yf,i+1,a,UY,a1,a2,a3,Yg⟩
 exact codeAny_compStart_list (loop _ rfl)<|T.self _ 0 _ _ _ st4<|loop _ rfl
def CQ{X:Cx}{p t d:Ç}{l:List Ç}{scope:û}{pos:Pos}{w:TI}{g:TG}{z:TT}{A:TE}(N':List Str)(js:List Nat)(nl:Nat)(sc:û)(J:X.env.scope=sc)(k:X.calm=Δ)(U:PI X.ar t d w)(W:∀cl C s H fp,PG (km X.ar N' scope cl C s H fp) t g)(L:∀cl C s H fp,CP (km X.ar N' scope cl C s H fp) l z)(he:∀cl C s H fp,PE (km X.ar N' scope cl C s H fp) p A)(o:gG X.ar sc scope N' js)(n:autoParam (js.length+nl=N'.length) Η)(R:autoParam (scope.kind=.function) Η)(j:autoParam (∀y∈scope.names,y.2=.cell->scope.names.lookup y.1=Α .cell) Κ)(f:autoParam (∀y∈scope.names,y.2=.local->scope.names.lookup y.1=Α .local) Κ)(i:autoParam (∀y∈scope.names,y.2=.free->(sc.names.lookup y.1=Α .cell\/sc.names.lookup y.1=Α .free)) Κ)(N:autoParam (∀x,de d X.env x=pure x) Ν):
 PE X.ar (.ListComp p [⟨t,d,l,0⟩] scope pos) (vN js nl w g z A):=by
 intro Å s a H Q I h;exact vO N' js nl sc J k U W L he o n R j f i N I h λD C m s6 H5 O K v v v v v q r=>⟨m,O,λh' NR=>⟨.ref D,H5,K h'<|λb u Y e=>NR.extBut b u Y e,rfl,q⟩⟩
def Its(z:Str):It:=⟨λi y=>i<z.cps.size,λi H x b=>b=H/\∃c,z.cps.toList[i]?=Α c/\x=.str ⟨#[c]⟩,λi y=>i=z.cps.size⟩
def Ea{K:Ï}(it:À)(z:Str)(t:Tok)(ty:String)(Y:∀A:ì,A.handled=Β->Walks P w A it [it] [it] z.cps.size (SignAt z) (λi h=>h.IsStrIter it ty z t i))(hS:∀(A:ì) (i:Nat) (s:Ä) (Q:Á->Ä->Prop) (E:Á->Ä->Prop),s.heap.IsStrIter it ty z t i->Q (.ref it) s->Ð (Ú P w) A (jR<|.ref it) Q E s)(lY:["enumerate","zip","dict_itemiterator","dict_reverseitemiterator","odict_iterator","itertools.zip_longest","itertools.pairwise"].contains ty=Ε):Au P w K tg (Its z) [it] it (λi h=>h.IsStrIter it ty z t i) where
 mem:=by simp
 obj:=λi h g b j=>by
  have e:=by simpa using j
  subst e;obtain⟨o,e,c,d⟩:=g;exact⟨o,e,λv z=>by rw[d]at z;cases z⟩
 keep:=λi h Z g k=>by obtain⟨o,e,c,d⟩:=g;exact⟨o,k it (by simp) o e,c,d⟩
 item:=by intro X hP hw hK v i L s a H E I m g q;refine BL λW=>?_;obtain⟨D,C,f2,B,y,x⟩:=m it (by simp);refine W ?_;refine(Y X.A<|I.ok.hd v).item i s _ _ q g λv Z O hv BF kk=>?_;refine BL λW=>?_;obtain⟨c,u,r,rfl⟩:=hv;have I1:Inv X L a H {s with heap:=Z,toks:=O}:=I.turned (λb o j e=>kk b o (by simpa using j) e) D C B y x;obtain⟨o,e,cl,d⟩:=id BF;refine W ?_;exact⟨_,rfl,zq e cl d lY ⟨.str ⟨#[c]⟩,H,I1,⟨u,rfl⟩,⟨rfl,c,by simpa using r,rfl⟩,BF,λb j=>(m b j).1⟩⟩
 done:=by intro X hP hw hK v i L s a H E I m g q;refine BL λV=>?_;obtain⟨D,C,f2,B,y,x⟩:=m it (by simp);refine V ?_;have e:=q;subst e;exact(Y X.A<|I.ok.hd v).done s _ _ g λh' O kk=>⟨rfl,I.turned (λb o j e=>kk b o (by simpa using j) e) D C B y x⟩
 self:=hS
end M3
namespace M4
open PySem PySem.Spec PyProof.Rows L2 M2 M3
def CT{bs:List Bool}:∀{a:List Á},Ő (bs.map V.bl) a->a=bs.map bI:=by
 induction bs with
 |nil=>intro a r;cases r;rfl|cons b bs f=>
  intro a r;cases r with
  |cons e d=>cases e;rw[f d];rfl
def all_range(bs:List Bool):(ú (bs.map bI).toArray.size).all (λi=>bs.getD i Ε)=bs.all id:=by
 have e:(bs.map bI).toArray.size=bs.length:=by simp
 rw[e,jI];simp only[fL,aN];constructor
 ·intro h b f;obtain⟨i,a,rfl⟩:=jL.mp f;have:=h i a;rw[cF,Ĩ a]at this;exact this
 ·intro h i a;rw[cF,Ĩ a];exact h _<|ŵ a
def any_range(bs:List Bool):(ú (bs.map bI).toArray.size).any (λi=>bs.getD i Ε)=bs.any id:=by
 have e:(bs.map bI).toArray.size=bs.length:=by simp
 rw[e,jI];simp only[List.any_eq_true,aN];constructor
 ·rintro ⟨i,a,h⟩;rw[cF,Ĩ a]at h;exact⟨_,ŵ a,h⟩
 ·rintro ⟨b,f,h⟩;obtain⟨i,a,rfl⟩:=jL.mp f;exact⟨i,a,by rw[cF,Ĩ a];exact h⟩
def re(bs:List Bool):TruthOf prog w A (λi v=>(bs.map bI).toArray[i]?=Α v) (λi=>bs.getD i Ε):=by
 intro i v s Q E h e;have c:bs[i]?.map bI=Α v:=by simpa using h
 cases f:bs[i]?with
 |none=>rw[f]at c;cases c|some b=>rw[f]at c;cases c;dsimp only at e;rw[cF,f]at e;exact eL e
def LI(K:Ï):List V->Hp->VK->Prop:=λxs H Q=>match xs with
 |[.ref p]=>∃bs:List Bool,ż K H p (bs.map V.bl)/\Q (.bl<|bs.all id) H|_=>False
def LJ(K:Ï):List V->Hp->VK->Prop:=λxs H Q=>match xs with
 |[.ref p]=>∃bs:List Bool,ż K H p (bs.map V.bl)/\Q (.bl<|bs.any id) H|_=>False
set_option tactic.hygienic true
def qH(t:X.calm=Δ):Ŝ X (.builtin "all") (LI X.K):=by
 intro Å s a H xs us Q I r h;unfold LI at h;split at h
 ·rename_i p;refine BL λZ=>?_;obtain⟨bs,v,q⟩:=h;obtain⟨u,rfl,l⟩:=vals1 r;cases l;obtain⟨ę,j,d,hz⟩:=I.list v;refine Z ?_;have e:=CT j;subst e;have m:p≠s.heap.objs.size:=by
   obtain⟨o,n,e,_⟩:=d;exact Ĕ<|ö e
  refine call_all_walk<|jW d.isList ?_;refine⟨s.heap.objs.size,_,_,_,_,_,_,rfl,pB (show X.A.in1.handled=Β from I.ok.hd t) s.heap.objs.size p m (bs.map bI).toArray,⟨⟨_,ĵ _ rfl,rfl,rfl⟩,d.isList.at λo e=>Ć _ e⟩,re bs,λh' tk k=>?_⟩;rw[all_range];exact⟨.bl _,H,I.kept λb o e=>k b o (by simpa using Ĕ (ö e))<|Ć _ e,rfl,q⟩
 ·exact h.elim
def LK(t:X.calm=Δ):Ŝ X (.builtin "any") (LJ X.K):=by
 intro Å s a H xs us Q I r h;unfold LJ at h;split at h
 ·rename_i p;refine BL λZ=>?_;obtain⟨bs,v,q⟩:=h;obtain⟨u,rfl,l⟩:=vals1 r;cases l;obtain⟨ę,j,d,hz⟩:=I.list v;refine Z ?_;have e:=CT j;subst e;have m:p≠s.heap.objs.size:=by
   obtain⟨o,n,e,_⟩:=d;exact Ĕ<|ö e
  refine call_any_walk<|jW d.isList ?_;refine⟨s.heap.objs.size,_,_,_,_,_,_,rfl,pB (show X.A.in1.handled=Β from I.ok.hd t) s.heap.objs.size p m (bs.map bI).toArray,⟨⟨_,ĵ _ rfl,rfl,rfl⟩,d.isList.at λo e=>Ć _ e⟩,re bs,λh' tk k=>?_⟩;rw[any_range];exact⟨.bl _,H,I.kept λb o e=>k b o (by simpa using Ĕ (ö e))<|Ć _ e,rfl,q⟩
 ·exact h.elim
set_option tactic.hygienic false
noncomputable abbrev S(l:List Nat):Str:=⟨l.toArray⟩
def LM(z:Str):S z.cps.toList=z:=by cases z;simp
def JT(l:List Nat):(S l).length=l.length:=by simp[f_]
def rh(z:Str):z.cps.toList.length=z.length:=by simp[f_]
def JU(a b:List Nat):S a++S b=S (a++b):=by refine B9 ?_;rw[PySem.W.KT.app_list]
def yk(xs:List Nat)(a c:Option Int):List Nat:=(xs.drop<|HT.kO xs.length 0 a).take (HT.kO xs.length xs.length c-HT.kO xs.length 0 a)
def Hg(z:Str)(g j:Option Int):sT g j 1 z.length=(ú<|HT.kO z.length z.length j-HT.kO z.length 0 g).map (HT.kO z.length 0 g+·):=by
 have p:∀o d,d<=z.length->(match o with|none=>(d:Int)|some i=>max 0<|min (if i<0then i+(z.length:Int)else i) z.length)=((HT.kO z.length d o:Nat):Int):=by
  intro o d hd;cases o with
  |none=>rfl|some i=>
   show max 0 (min (if i<0then i+(z.length:Int)else i) z.length)=((if i<0then(i+z.length).toNat else min i.toNat z.length:Nat):Int);by_cases h:i<0
   ·rw[if_pos h,if_pos h];lia
   ·rw[if_neg h,if_neg h];lia
 have e:sT g j 1 z.length=sliceRange ((HT.kO z.length 0 g:Nat):Int) ((HT.kO z.length z.length j:Nat):Int) 1:=by have r:=p g 0<|bB _;have q:=p j z.length<|õ _;rw[<-r,<-q];cases g<;>cases j<;>rfl
 rw[e,sliceRange_one]
def Io(z:Str)(b c:Option Int):(sT b c 1 z.length).filterMap (z.cps[·]?)=yk z.cps.toList b c:=by rw[Hg,pick_run];unfold yk;rw[rh]
def Ip(xs:List Nat)(a b:Option Int):(yk xs a b).length<=xs.length:=by unfold yk;rw[sr,List.length_drop];lia
def Fw(hz:z.length<=sizeLine)(h:∀t' k,Q (.str (S<|yk z.cps.toList (l.map (·.1))<|u.map (·.1)) t') {s with toks:=k}):(sliceMade z t l u Β).post Q s:=by
 have e:=Io z (l.map (·.1))<|u.map (·.1);unfold sliceMade;have j:slicePicked z l u Β=sT (l.map (·.1)) (u.map (·.1)) 1 z.length:=rfl;rw[j];split
 ·rename_i i;have g:=by simpa using i
  have m:yk z.cps.toList (l.map (·.1)) (u.map (·.1))=z.cps.toList:=by
   rw[Hg,ģ,wP]at g;have hj:=HT.Ls z.length z.length (õ _)<|u.map (·.1);unfold yk;rw[rh];have HD:=rh z;have d:HT.kO z.length 0 (l.map (·.1))=0\/z.length=0:=by lia
   rcases d with d|d
   ·rw[d]at g⊢;rw[List.drop_zero];exact BP (by lia)
   ·have:z.cps.toList=[]:=BQ (by lia);rw[this];simp
  have:=h t s.toks;rw[m,LM]at this;exact this
 ·rw[e];exact⟨by rw[JT];have:=Ip z.cps.toList (l.map (·.1))<|u.map (·.1);rw[rh]at this;lia,h _ _⟩
def UZ:V->Option Int->Option Int->Hp->VK->Prop:=λx c d H Q=>match x with
 |.str z=>z.length<=sizeLine/\Q (.str<|S<|yk z.cps.toList c d) H|_=>False
def Iq:CK X UZ:=by
 intro Å s a H x v m j r A sl Q I n y p o h;cases x with
 |str z=>
  obtain⟨t,rfl⟩:=n;obtain⟨w,q⟩:=h;obtain⟨l,C,e⟩:∃l:Option (Int×Tok),partValue l=m/\l.map (·.1)=r:=by
   cases p with
   |none=>exact⟨Β,rfl,rfl⟩|int i t=>exact⟨Α (i,t),rfl,rfl⟩
  obtain⟨u,B,d⟩:∃u:Option (Int×Tok),partValue u=j/\u.map (·.1)=A:=by
   cases o with
   |none=>exact⟨Β,rfl,rfl⟩|int i t=>exact⟨Α (i,t),rfl,rfl⟩
  subst C e B d;exact⟨"str",_,F.slot_str_getitem.lookup,jT s z t,wpAny_getItem_str_slice (st:=Β) y rfl<|Fw w λt' k=>⟨.str _,H,I.tok _,⟨_,rfl⟩,q⟩⟩
 |_=>exact h.elim
def U_(K:Ï):V->Option Int->Option Int->Hp->VK->Prop:=λx d e H Q=>match x with
 |.ref a=>∃c,ż K H a c/\∀p,H p=Β->Q (.ref p) (upd H p<|.lst<|AW c d e)|.str z=>z.length<=sizeLine/\Q (.str<|S<|yk z.cps.toList d e) H|_=>False
def slm:CK X (U_ X.K):=CK.wk (Fu.or Iq) λx lo hi H Q h=>by
 cases x with
 |ref a=>exact .inl h|str z=>exact .inr h|_=>exact h.elim
def Eb(z y:Str):Txt.startswith z y=decide (z.cps.toList.take y.cps.toList.length=y.cps.toList):=by
 unfold Txt.startswith;rw[sZ,List.drop_zero,rh,jI];simp only[þ,decide_eq_true_eq,beq_iff_eq];constructor
 ·exact λh=>h.2
 ·intro h;have f:=congrArg aa h;rw[sr,rh,rh]at f;lia
def yl:V->List V->Hp->VK->Prop:=λx b H Q=>match x,b with
 |.str z,[.str y]=>Q (.bl<|decide<|z.cps.toList.take y.cps.toList.length=y.cps.toList) H|_,_=>False
def vQ:N7 X "str.startswith" yl:=by
 intro Å s a H x xs v us Q I b c h;unfold yl at h;split at h
 ·obtain⟨t,rfl⟩:=b;obtain⟨u,rfl,t',rfl⟩:=vals1 c;exact SC.startswith ⟨.bl _,H,I,rfl,by rw[Eb];exact h⟩
 ·exact h.elim
def NS(z:Str)(h:0<=n):Txt.mul z n=S (ý n.toNat z.cps.toList).flatten:=by
 have f:∀k a,((ý k z.cps).foldl (·++·) a).toList=a.toList++(ý k z.cps.toList).flatten:=by
  intro k
  induction k with
  |zero=>intro a;simp|succ k o=>intro a;rw[BR,eI,o,BR,List.flatten_cons];simp
 unfold Txt.mul;refine B9 ?_;by_cases m:n<1
 ·rw[if_pos m];have:n.toNat=0:=by lia
  rw[this];simp[iz]
 ·rw[if_neg m];split
  ·rename_i b;rw[oE]at b;rcases b with b|b
   ·have:=by simpa using b
    subst this;simp
   ·have p:=BQ (by rw[rh];simpa using b);rw[p];simp
  ·rw[f];simp
def Fx(z:Str)(n:Int):Prop:=0<=n/\n<=1000/\z.length<=1000
def Fx.ok(h:Fx z n):MulOk z n:=by
 obtain⟨h0,h1,e⟩:=h;refine⟨?_,λhn x=>?_,λhn x=>?_⟩
 ·rw[decide_eq_false (by lia),decide_eq_false<|by lia];rfl
 ·have:9000000000000000≤(2^63-1)/n:=by
   rw[BM<|by lia];lia
  lia
 ·have:z.length*n.toNat<=1000*1000:=fN e (by lia);unfold Builtin.Str.tooLong;rw[cH];lia
def Fy:R2:=λx y H Q=>match x,y with
 |.int i,.int j=>zC i j/\Q (.int<|i*j) H|.str z,.int n=>Fx z n/\Q (.str<|S (ý n.toNat z.cps.toList).flatten) H|_,_=>False
def Ir:aQ X (ŉ .Mult) Fy:=by
 intro e s a H x y v u Q I d c h;unfold Fy at h;split at h
 ·exact LC e s a H _ _ v u Q I d c h
 ·obtain⟨t,rfl⟩:=d;obtain⟨t',rfl⟩:=c;exact SB.mul h.1.ok λt' k=>⟨.str _,H,I.tok _,⟨_,by rw[NS _ h.1.1]⟩,h.2⟩
 ·exact h.elim
noncomputable def ĉ(sep:List Nat):List (List Nat)->List Nat
 |[]=>[]|[x]=>x|x::y::r=>x++sep++ĉ sep (y::r)
theorem zb(a:Str):∀ys:List (List Nat),Str.join a (ys.map S)=S (ĉ a.cps.toList ys)
 |[]=>rfl|[x]=>rfl|x::y::r=>by have b:=zb a (y::r);show S x++a++Str.join a ((y::r).map S)=_;have e:ĉ a.cps.toList (x::y::r)=x++a.cps.toList++ĉ a.cps.toList (y::r):=rfl;rw[b,e,<-JU,<-JU,LM]
def Iu{ys:List (List Nat)}:∀{b:List Á},Ő (ys.map λl=>V.str<|S l) b->StrsAre b (ys.map S):=by
 induction ys with
 |nil=>intro b r;cases r;exact .nil|cons y ys f=>
  intro b r;cases r with
  |cons e d=>obtain⟨t,rfl⟩:=e;exact .cons _ t<|f d
def Fz(K:Ï):V->List V->Hp->VK->Prop:=λx d H Q=>match x,d with
 |.str z,[.ref p]=>∃a:List (List Nat),ż K H p (a.map λl=>V.str<|S l)/\(a.map aa).sum+a.length*z.length<=16777216/\Q (.str<|S<|ĉ z.cps.toList a) H
 |_,_=>False
def bL:N7 X "str.join" (Fz X.K):=by
 intro Å s a H x xs v us Q I g m h;unfold Fz at h;split at h
 ·refine BL λZ=>?_;obtain⟨e,p,o,q⟩:=h;obtain⟨t,rfl⟩:=g;obtain⟨u,rfl,j⟩:=vals1 m;cases j;obtain⟨ę,i,n,_⟩:=I.list p;refine Z ?_;refine join_list n.isList (by simpa using Iu i) ?_ λt' k=>⟨.str _,H,I.tok _,⟨t',?_⟩,q⟩
  ·have r:((e.map S).map (·.length))=e.map aa:=by
    rw[Ĺ];exact su λl y=>JT l
   rw[r,ģ];exact o
  ·unfold Txt.join;rw[StrLaws.glued_eq_join,zb]
 ·exact h.elim
end M4
namespace M5
open PySem PySem.Spec PyProof.Rows L2 M2 M3
def A3(l:List Á)(h:TriplesOk l)(e:codeAmong r (l++[fT a,fT b,c])=Α q):codeAmong r l=Α q\/q=c:=by
 fun_induction TriplesOk l with
 |case1=>
  right
  simp only[ϊ,codeAmong,fT]at e;split at e
  ·exact(Ň e).symm
  ·cases e
 |case2 a' t b' u x rest s=>
  simp only[c_,codeAmong]at e⊢;split at e
  ·rename_i m;rw[if_pos m];exact .inl e
  ·rename_i m;rw[if_neg m];exact s h e
 |case3 l h1 h2=>exact h.elim
section
variable{X:Cx}{Å:List (À×Obj)}{σ:ă}{H:Hp}{s:Ä}{x:Str}{c P:À}{params:fW}{body:Ç}{scope:û}{pos:Pos}{cl:List (Str×À)}
def FA(I:Inv X Å σ H s)(hx:x∈lams)(ht:Ů X.K x=Α (c,P))(wF:X.env.code=.ref c)(hq:X.env.qual=x++".<locals>.")(Hh:defaultsOf params X.env=([],[]))(L:closureFor scope X.env=pure cl)(h:∀f c' pm AH R s',Inv X Å σ R s'->(∀a,H a=Β->R a=Β\/a=c')->Ù H R->R c'=Α (.DO<|gE x)->s'.heap.get? f=Α (pw "<lambda>" (gE x) params body scope cl pm c' AH)->fq X Å R f->Q (.ref f) s'):
 Ð (Ú X.prog X.w) X.A (eval (.Lambda params body scope pos) X.env) Q E s:=by
 refine BL λV=>?_;obtain⟨C,Z,hB⟩:=I.tb x c P hx ht;obtain⟨ps,hP,W,O⟩:=I.hok P _ Z;refine V ?_;have hg:=I.ok.mod.glob.keeps I.bk;have hgP:đ≠P:=λq=>by obtain⟨o,es,ep,e,hd,_⟩:=hg;rw[q,hP]at e;cases e;cases hd
 have N:s.heap.BuiltinsAt X.mg P:=by obtain⟨bm,ob,b1,b2,b3,b4,b5,b6⟩:=hB;exact⟨bm,ob,b1,b2,b3,b4,I.bk _ _ b5,b6⟩
 refine PySem.W.kla_eval Hh ?_;rw[hq];cases hf:codeAmong pos ps.toList with
 |none=>
  refine PySem.W.kla_makeFunction L I.ok.glob hg wF (C.keeps I.bk) hP W hf hgP N λc' AH B tk Yh Ul kN J za=>?_;have p:=I.hok.fresh Ul;have G:∀b,H b=Β->b≠P:=λb n z=>by rw[z,Z]at n;cases n
  have Y:∀b o,b≠P->s.heap.get? b=Α o->(B.push<|pw "<lambda>" (gE x) params body scope cl ((X.mg "__name__").getD .none) c' AH).get? b=Α o:=λb o w e=>Ć _<|Yh b o w e;have u:Un X.fs [] H (upd H c'<|.DO<|gE x) s.heap (B.push<|pw "<lambda>" (gE x) params body scope cl ((X.mg "__name__").getD .none) c' AH):=by
   refine⟨λb o e n y y=>Y b o (G b n) e,λb o e n y y=>⟨o.slots,Y b o (G b n) e⟩,λb o e n y=>?_,λb o e y=>?_,λb xs e=>by rw[ñ<|Ċ e p];exact e,λb o u e=>by rw[ñ<|Ċ e p];exact e,λb q e=>by rw[ñ<|Ċ e p];exact e⟩
   ·rw[ñ<|Ĕ<|Ţ (ö e) Ul];exact n
   ·by_cases w:b=P
    ·exact⟨_,by rw[w];exact Ć _ za⟩
    ·exact⟨o,Y b o w e⟩
  have hok:oB X.prog X.w (upd H c'<|.DO<|gE x) (B.push<|pw "<lambda>" (gE x) params body scope cl ((X.mg "__name__").getD .none) c' AH):=λb v e=>by
   by_cases w:b=c'
   ·subst w;rw[ā]at e;cases e;refine BL λV=>?_;obtain⟨c2,o,vs,t,z,e1,r⟩:=J;refine V ?_;exact⟨c2,o,vs,t,z,Ć _ e1,r⟩
   ·rw[ñ w]at e;by_cases Uj:b=P
    ·subst Uj;rw[Z]at e;cases e;refine⟨_,Ć _ za,?_,λp2 cv z=>?_⟩
     ·have:=TriplesOk_snoc pos.line pos.col (.ref c') ps.toList W;simpa using this
     ·rcases A3 ps.toList W (by simpa using z)with z|z
      ·obtain⟨d,z1,U⟩:=O p2 cv z;exact⟨d,z1,by rw[ñ<|Ċ U p];exact U⟩
      ·exact⟨c',z,ā⟩
    ·exact(I.hok b v e).stay (fun b2 o Yi q=>Y b2 o (by
      rcases Yi with z|z
      ·rw[z];exact Uj
      ·intro U;rw[U,Z]at z;cases z) q) (λd q=>by rw[ñ<|Ċ q p];exact q) (λd xs q=>by rw[ñ<|Ċ q p];exact q) λd xs q=>by rw[ñ<|Ċ q p];exact q
  have K:=mE<|Nat.lt_of_le_of_lt Ul kN;refine h B.objs.size c' _ AH (upd H c'<|.DO<|gE x) _ (I.un u hok) (λa n=>?_) (λb v e=>by rw[ñ<|Ċ e p];exact e) ā (ĵ _ rfl) (I.rN K (by rw[ñ<|da kN];exact I.hok.fresh K));by_cases ha:a=c'
  ·exact .inr ha
  ·exact .inl (by rw[ñ ha];exact n)
 |some cv=>obtain⟨c',rfl,Ug⟩:=O pos cv hf;refine PySem.W.kla_makeFunctionHit L I.ok.glob hg wF (C.keeps I.bk) hP W hf N λAH B tk hk lh=>?_;exact h B.objs.size c' _ AH H _ (I.kept λb o e=>Ć _<|hk b o e) (λy n=>.inl n) (Ù.refl H) Ug (ĵ _ rfl)<|I.rN lh<|I.hok.fresh lh
end
noncomputable def EL(X:Cx)(N':List Str)(qual:Str)(scope:û)(cl:List (Str×À))(f:À)(c':À)(A:ì)(s:Ä)(H:Hp):Cx where
 prog:=X.prog
 w:=X.w
 K:=X.K
 mg:=X.mg
 base:=X.base
 A:=A.deeper (xP qual scope s.heap.objs.size f (.ref c') cl)
 N:=N'
 s₀:=s
 H₀:=H
 env:=xP qual scope s.heap.objs.size f (.ref c') cl
 outer:=X.stack
 stack:=xP qual scope s.heap.objs.size f (.ref c') cl::X.stack
 ex:=[]
 fn:=λx=>Ε
 calm:=Δ
 pn:=[]
 xe:=λx x=>False
noncomputable def jf(js:List Nat)(σ:ă)(v:V):ă:=js.map (λj:Nat=>(σ[j]?).getD Β)++[Α v]
section
variable{X:Cx}{Å:List (À×Obj)}{σ:ă}{H:Hp}{s:Ä}{params:fW}{body:Ç}{scope sc:û}{cl:List (Str×À)}{N0:List Str}{js:List Nat}{qual px:Str}{f c':À}{A:ì}
def Iv(R:X.env.scope=sc)(hk:scope.kind=.function)(B:gG X sc scope N0 js)(h:js.length=N0.length)(l:∀y∈scope.names,y.2≠.cell)(KE:scope.names.lookup px=Α .local)(hA:A.frames=Α X.stack)(KG:A.handled=Β)(E:∀x c,cl.lookup x=Α c->X.env.cells.lookup x=Α c)(c3:∀y∈scope.names,y.2=.free->∃c,cl.lookup y.1=Α c)(I:Inv X Å σ H s)(r:RelV v u)(hn:h'.Ns s.heap.objs.size (λy=>[(px,u)].reverse.lookup y))(G:∀b o,s.heap.get? b=Α o->h'.get? b=Α o):
 Inv (EL X (N0++[px]) qual scope cl f c' A s H) [] (jf js σ v) H {s with heap:=h',toks:=tk}:=by
 have D:∀y,(scope.names.lookup y=Α .cell\/scope.names.lookup y=Α .free)->∃c,cl.lookup y=Α c:=λy t=>by
  rcases t with t|t
  ·exact absurd rfl<|l _<|jS t
  ·exact c3 _ (jS t) rfl
 refine⟨⟨I.ok.mod,hk,rfl,rfl,õ _,λx y c J k=>I.ok.inj x y c (E x c J)<|E y c k,D,(λa a z a=>absurd (show Ε=Δ from z) oC),λa=>KG,Cd hA,.inr ⟨rfl,rfl⟩,λb C=>absurd C (by simp[EL]),
  I.bs,ţ I.ok.EJ I.sz,λb a a C=>absurd C (by simp[EL]),λb C=>absurd C (by simp[EL]),I.stack,I.xU,I.tb⟩,rfl,I.bare,Un.kept G,⟨_,hn,λi x w J k e3=>?_⟩,λx c e=>?_,I.hok.fresh<|õ _,λx c e=>I.jc x c<|E x c e,λp hp=>absurd hp (by simp[EL]),I.hok.kept G,?_⟩
 ·by_cases hi:i<js.length
  ·have Yj:=by
    have:=J
    rwa [show(EL X (N0++[px]) qual scope cl f c' A s H).N=N0++[px]from rfl,Ϫ<|by lia]at this
   have O:(je js 0 σ)[i]?=Α (Α w):=by unfold je;unfold jf at k;rw[Ϫ<|by simpa using hi]at k⊢;exact k
   refine BL λZ=>?_;obtain⟨j,q1,q2,U,g⟩:=qG B Yj O;obtain⟨m,hm,hl⟩:=I.loc;refine Z ?_;have LH:K_ X.env.scope x:=by
    rw[R];rcases g with g|g
    ·exact .inr<|.inl g
    ·exact .inr<|.inr g
   obtain⟨u',ru,lk⟩:=hl j x w q1 q2 LH;refine⟨u',ru,?_⟩;rcases lk with⟨Y,_⟩|⟨Y,c,hc,ic⟩
   ·exfalso;have Ye:sc.names.lookup x=Α .local:=by rw[<-R];exact Y
    rcases g with g|g<;>(rw[Ye]at g;cases g)
   ·obtain⟨d,hd⟩:=D x<|.inr U;have:=by
     have:=E x d hd;rw[hc]at this;exact(Ň this).symm
    subst this;exact .inr ⟨.inr U,d,hd,by
     obtain⟨o,N,NG⟩:=ic;exact⟨o,G _ _ N,NG⟩⟩
  ·have KH:i=js.length:=by
    have W:=(bz.mp k).1;unfold jf at W;simp at W;lia
   subst KH;unfold jf at k;have ev:=by simpa using k
   subst ev;have ex:=by have:=J;rw[show(EL X (N0++[px]) qual scope cl f c' A s H).N=N0++[px]from rfl,ie (by lia),h]at this;simpa using this
   subst ex;exact⟨u,r,.inl ⟨KE,by simp[eG]⟩⟩
 ·obtain⟨w,o,N,hd⟩:=I.cell x c<|E x c e;exact⟨w,o,G _ _ N,hd⟩
 ·show _=(N0++[px]).length;unfold jf;simp[h]
def FC(N:X.env.scope=sc)(B:scope.kind=.function)(k:gG X sc scope N0 js)(j:js.length=N0.length)(d:∀y∈scope.names,y.2≠.cell)(C:scope.names.lookup px=Α .local)(Rh:scope.isCoroutine=Ε)(Hi:scope.isGenerator=Ε)(Y:A.frames=Α X.stack)(KG:A.handled=Β)(LO:A.depth<sN)(Z:∀x c,cl.lookup x=Α c->X.env.cells.lookup x=Α c)(c3:∀y∈scope.names,y.2=.free->∃c,cl.lookup y.1=Α c)(K:∀u:Á,im (xQ "<lambda>" qual params body scope cl O (.ref c') AH) ⟨[u],[]⟩=pure [(px,u)])(he:∀s H,PE (EL X (N0++[px]) qual scope cl f c' A s H) body L)(I:Inv X Å σ H s)(U:s.heap.get? f=Α (pw "<lambda>" qual params body scope cl O c' AH))(W:H c'=Α (.DO qual))(r:RelV v u)(h:L (jf js σ v) H Q):
 Ð (Ú X.prog X.w) A (call (.ref f) [u]) (EP X Å σ Q) E s:=by
 refine o_<|PySem.W.kla_callFunE LO U rfl Rh Hi rfl (I.hok c' _ W) ?_;rw[K u];refine ď (wpAny_newFunctionEnv d (λy p=>by rw[eJ.mp p];exact C) (λh₁ Av i=>⟨(I.nolimit).fresh _ i,?_⟩) B);have R:=λb o e=>i.extBut b o (Ĕ<|ö e)<|Ć _ e;have J:=Iv (qual:=qual) (f:=f) (c':=c') (tk:=s.toks+[(px,u)].length) N B k j d C Y KG Z c3 I r Av R;refine PySem.W.kla_codeExpr<|ό (he s H [] _ _ H Q J h) (λy s' p=>?_) λa a z=>z.elim;obtain⟨w,H',m,OT,q⟩:=p;exact I.after ⟨w,H',m.os,m.bare,m.base,m.hok,OT,q⟩
end
section
variable{X:Cx}{Å:List (À×Obj)}{σ:ă}{H:Hp}{s:Ä}
def vR{fp:List À}(I:Inv X Å σ H s)(l:∀b∈fp,fq X Å H b)(j:∀b∈fp,∃o,s.heap.get? b=Α o/\∀v,o.data≠.cell v)(g:∀i,Inv X i σ H s->Ð (Ú X.prog X.w) A t (EP X i σ p) (λx x=>False) s)(k:∀y u d s2,Inv X Å σ d s2->RelV y u->p y d->(∀b∈fp,fq X Å d b)->(∀b∈fp,∀o,s.heap.get? b=Α o->s2.heap.get? b=Α o)->R u s2):Ð (Ú X.prog X.w) A t R (λx x=>False) s:=by refine ό (g _<|I.pinned l j) (λu s2 n=>?_) λx x z=>z;obtain⟨y,d,h,r,q⟩:=n;refine k y u d s2 h.lm r q (λb c=>?_) λb c o e=>(h.pin (b,o)<|ž _<|ž _<|dY c e).1;obtain⟨o,e,_⟩:=j b c;exact⟨(h.pin (b,o)<|ž _<|ž _<|dY c e).2.1,(l b c).2⟩
def cK(I:Inv X Å σ H s)(e:fq X Å H b)(k:∀c o,c≠b->s.heap.get? c=Α o->h'.get? c=Α o):Inv X Å σ H {s with heap:=h',toks:=t'}:=
 let ⟨j,i,_,h,g,f⟩:=e
 I.turned k j i h g f
variable{l S It:À}
def CU{h:Ô}(g:h.IsList l ę)(f:h.IsListIter It l i):l≠It:=λz=>by obtain⟨o,e,c,_⟩:=g;obtain⟨o',j,b,_⟩:=f;rw[z,j]at e;cases e;rw[c]at b;exact absurd (tq b) (by decide)
def A4{h:Ô}(b:h.get? S=Α (fP "list" vs n))(d:h.IsListIter It l i):S≠It:=λz=>by obtain⟨o',e,f,_⟩:=d;rw[z,e]at b;cases b;exact absurd (tq f) (by decide)
end
end M5
namespace P
noncomputable def U0:Ç->Bool
 |.Starred .. =>Ε|_=>Δ
def ĥ(h:U0 e=Δ):Î (e::a) env=(Ε,xq e env)::Î a env:=by cases e<;>first|rfl|cases h
def LP(h:U0 a=Δ)(c:U0 b=Δ):Î [a,b] env=[(Ε,xq a env),(Ε,xq b env)]:=by rw[ĥ h,ĥ c];rfl
open PySem PySem.Spec PyProof.Rows L2 M2
structure KK where
 K:Ï
 cm:String->À
noncomputable abbrev kk(X:Cx)(a:String->À):KK:=⟨X.K,a⟩
inductive PV where
 |non|bl (b:Bool)|int (i:Int)|str (x:Str)|tup (xs:List PV)|lst (xs:List PV)
 |ins (C:String) (ns:List Str) (xs:List PV)|xc (C:String) (ns:List Str) (xs:List PV)|ty (n:String)|cls (C:String)|FE (ks:List Str) (xs:List PV)
noncomputable def xo(a C:À)(d:Option À):HO:=.ext λh=>∃o c,h.get? a=Α o/\o.cls=.ref C/\o.dict=d/\o.data=.fields c
def zE(F:Hp)(d:Option À)(fs:List (Str×V)):Prop:=(d=Β/\fs=[])\/∃a,d=Α a/\F a=Α (.xd fs)
mutual
def Ē(K:KK)(F:Hp):PV->V->Prop
 |.non,v=>v=.non|.bl b,v=>v=.bl b|.int i,v=>v=.int i|.str x,v=>v=.str x|.tup ps,v=>∃a xs,v=.ref a/\jH K.K F a xs/\ç K F ps xs|.lst ps,v=>∃a xs,v=.ref a/\ż K.K F a xs/\ç K F ps xs|.ins C ns ps,v=>∃a dx fs,v=.ref a/\F a=Α (.ins (K.cm C) dx fs)/\fs.map (·.1)=ns/\ç K F ps (fs.map (·.2))|.xc C ns ps,v=>∃a d fs,v=.ref a/\F a=Α (xo a (K.cm C) d)/\zE F d fs/\fs.map (·.1)=ns/\ç K F ps (fs.map (·.2))|.ty n,v=>v=.ty n|.cls C,v=>v=.ref (K.cm C)|.FE ks ps,v=>∃a us,v=.ref a/\F a=Α (.dK us)/\us.map (·.1)=ks.map .inr/\ç K F ps (us.map (·.2))
def ç(K:KK)(F:Hp):List PV->List V->Prop
 |[],xs=>xs=[]|p::ps,xs=>∃x r,xs=x::r/\Ē K F p x/\ç K F ps r
end
section
variable{K:KK}{F F':Hp}
def zE.same(e:Ù F F')(h:zE F d fs):zE F' d fs:=by
 rcases h with h|⟨a,c,b⟩
 ·exact .inl h
 ·exact .inr ⟨a,c,e _ _ b⟩
mutual
theorem Ē.same(e:Ù F F'):∀(p:PV) (v:V),Ē K F p v->Ē K F' p v
 |.non,_,h=>by unfold Ē at h⊢;exact h|.bl _,_,h=>by unfold Ē at h⊢;exact h|.int _,_,h=>by unfold Ē at h⊢;exact h|.str _,_,h=>by unfold Ē at h⊢;exact h|.ty _,_,h=>by unfold Ē at h⊢;exact h|.cls _,_,h=>by unfold Ē at h⊢;exact h|.tup ps,_,h=>by unfold Ē at h⊢;obtain⟨a,xs,h1,h2,h3⟩:=h;exact⟨a,xs,h1,Ù.tup e h2,ç.same e ps xs h3⟩|.lst ps,_,h=>by unfold Ē at h⊢;obtain⟨a,xs,h1,h2,h3⟩:=h;exact⟨a,xs,h1,e.seq h2,ç.same e ps xs h3⟩|.ins C ns ps,_,h=>by unfold Ē at h⊢;obtain⟨a,dx,fs,h1,h2,h3,h4⟩:=h;exact⟨a,dx,fs,h1,e _ _ h2,h3,ç.same e ps _ h4⟩|.xc C ns ps,_,h=>by unfold Ē at h⊢;obtain⟨a,d,fs,h1,h2,hd,h3,h4⟩:=h;exact⟨a,d,fs,h1,e _ _ h2,hd.same e,h3,ç.same e ps _ h4⟩|.FE ks ps,_,h=>by unfold Ē at h⊢;obtain⟨a,us,h1,h2,h3,h4⟩:=h;exact⟨a,us,h1,e _ _ h2,h3,ç.same e ps _ h4⟩
theorem ç.same(e:Ù F F'):∀(ps:List PV) (xs:List V),ç K F ps xs->ç K F' ps xs
 |[],_,h=>by unfold ç at h⊢;exact h|p::ps,_,h=>by unfold ç at h⊢;obtain⟨x,r,h1,h2,h3⟩:=h;exact⟨x,r,h1,Ē.same e p x h2,ç.same e ps r h3⟩
end
theorem ç.pr:∀{a:List PV}{vs:List V},ç K F a vs->Paired (Ē K F) a vs
 |[],_,h=>by subst h;exact .nil|p::a,_,h=>by obtain⟨x,r,rfl,c,b⟩:=h;exact .cons c<|ç.pr b
theorem ç.of:∀{a:List PV}{vs:List V},Paired (Ē K F) a vs->ç K F a vs
 |[],_,.nil=>by rfl|p::a,_,.cons h t=>by exact⟨_,_,rfl,h,ç.of t⟩
theorem ç.nil:ç K F [] []:=ç.of .nil
theorem ç.cons(h:Ē K F p v)(t:ç K F a vs):ç K F (p::a) (v::vs):=ç.of<|.cons h t.pr
theorem ç.length(h:ç K F a vs):a.length=vs.length:=Paired.length h.pr
theorem cq{a b:Type}{G:a->b->Prop}:∀{l:List a}{m:List b}{i:Nat}{x:a},Paired G l m->l[i]?=Α x->∃y,m[i]?=Α y/\G x y
 |_,_,_,_,.nil,e=>by simp at e|_,_,0,_,.cons r _,e=>by simp at e;subst e;exact⟨_,rfl,r⟩|_,_,i+1,x,.cons _ t,e=>by obtain⟨y,d,c⟩:=cq t (by simpa using e);exact⟨y,by simpa using d,c⟩
theorem CV{b a:Type}{G:b->a->Prop}:∀{l:List b}{m:List a}{i:Nat}{y:a},Paired G l m->m[i]?=Α y->∃x,l[i]?=Α x/\G x y
 |_,_,_,_,.nil,e=>by simp at e|_,_,0,_,.cons r _,e=>by simp at e;subst e;exact⟨_,rfl,r⟩|_,_,i+1,y,.cons _ t,e=>by obtain⟨x,d,c⟩:=CV t (by simpa using e);exact⟨x,by simpa using d,c⟩
theorem ug{α β:Type}{G:α->β->Prop}:∀{l l2:List α}{m m2:List β},Paired G l m->Paired G l2 m2->Paired G (l++l2) (m++m2)
 |_,_,_,_,.nil,t=>t|_,_,_,_,.cons r s,t=>.cons r<|ug s t
theorem CW{b a:Type}{G:b->a->Prop}:∀{l:List b}{m:List a} (n:Nat),Paired G l m->Paired G (l.take n) (m.take n)
 |_,_,0,_=>.nil|_,_,_+1,.nil=>.nil|_,_,n+1,.cons r t=>.cons r<|CW n t
theorem CY{b a:Type}{G:b->a->Prop}:∀{l:List b}{m:List a} (n:Nat),Paired G l m->Paired G (l.drop n) (m.drop n)
 |_,_,0,h=>h|_,_,_+1,.nil=>.nil|_,_,n+1,.cons _ t=>CY n t
theorem FF{b a:Type}{G:b->a->Prop}:∀{l:List b}{m:List a},Paired G l m->Paired G l.reverse m.reverse
 |_,_,.nil=>.nil|_,_,.cons r t=>by rw[mz,mz];exact ug (FF t)<|.cons r .nil
def ç.append(h:ç K F c vs)(t:ç K F b a):ç K F (c++b) (vs++a):=ç.of<|ug h.pr t.pr
end
inductive Slot where
 |no|sh (p:PV)|ow (ps:List PV)|bw (ps:List PV)|rc (C:String) (ns:List Str) (ps:List PV)|lr (C:String) (ns:List Str) (ps:List PV)|ot (ps qs rs:List PV)|ol (pL:List (List PV))|fr (pL:List (List PV))|bn (qs rows:List PV)|dw (gY:List (List PV×List PV))|rd (C:String) (ns:List Str) (ps:List PV)|pin
abbrev ć:=List Slot
abbrev ŏ:=Slot
noncomputable def Slot.own:Slot->Bool
 |.ow _=>Δ|.rc _ _ _=>Δ|.ot _ _ _=>Δ|.ol _=>Δ|.fr _=>Δ|.rd _ _ _=>Δ|.pin=>Δ|_=>Ε
set_option genInjectivity false in
structure Ctx where
 B:Hp
 F₀:Hp
 L:Hp
 S:À->À->String->Prop
noncomputable def JW(F:Hp)(a b:À):Hp:=λx=>if x=a\/x=b then Β else F x
def nZ(K:KK)(B F:Hp)(t:Bool)(g i c:List PV)(v:V):Prop:=∃a b d f,F a=Α (.lst (.ref b::d))/\F b=Α (.lst f)/\B a=Β/\B b=Β/\a≠b/\ç K (JW F a b) i f/\ç K (JW F a b) c d/\((t=Ε/\g=[]/\v=.ref a)\/t=Δ/\∃p e,v=.ref p/\F p=Α (.tup<|e++[.ref a])/\ç K (JW F a b) g e)
def Ū(K:KK)(c:Ctx)(F H:Hp)(o:Option V):Slot->Prop
 |.no=>True|.sh p=>∃v,o=Α v/\Ē K F p v|.ow f=>∃a e,o=Α (.ref a)/\H a=Α (.lst e)/\F a=Β/\c.B a=Β/\ç K F f e|.bw f=>∃a e,o=Α (.ref a)/\c.L a=Α (.lst e)/\ç K F f e|.lr C i f=>∃a g fs,o=Α (.ref a)/\c.L a=Α (.ins (K.cm C) g fs)/\fs.map (·.1)=i/\ç K F f (fs.map (·.2))/\i≠[]|.rc C i f=>∃a g fs,o=Α (.ref a)/\H a=Α (.ins (K.cm C) g fs)/\F a=Β/\c.B a=Β/\fs.map (·.1)=i/\ç K F f (fs.map (·.2))/\c.S a g C|.ot f l s=>∃p a j e q,o=Α (.ref p)/\F p=Α (.tup (j++.ref a::q))/\ç K F f j/\H a=Α (.lst e)/\F a=Β/\c.B a=Β/\ç K F l e/\ç K F s q|.ol m=>∃(p:À) (h:List À),o=Α (.ref p)/\F p=Α (.lst<|h.map V.ref)/\h.Nodup/\Paired (λ(a:À) (f:List PV)=>∃e,H a=Α (.lst e)/\F a=Β/\c.B a=Β/\ç K F f e) h m
 |.fr m=>∃(p:À) (h:List À),o=Α (.ref p)/\H p=Α (.lst<|h.map V.ref)/\F p=Β/\c.B p=Β/\h.Nodup/\Paired (λ(a:À) (f:List PV)=>∃e,F a=Α (.lst e)/\c.B a=Β/\ç K F f e) h m
 |.bn l k=>∃v,o=Α v/\nZ K c.B F Ε [] l k v|.rd C i f=>∃a g fs,o=Α (.ref a)/\H a=Α (.ins (K.cm C) g fs)/\F a=Β/\c.B a=Β/\fs.map (·.1)=i/\ç K F f (fs.map (·.2))/\c.S a g "2"|.pin=>∃a,o=Α (.ref a)/\c.S a a "#"|.dw u=>∃(a:À) (r:List À),o=Α (.ref a)/\c.L a=Α (.lst<|r.map V.ref)/\Paired (λ(t:À) (d:List PV×List PV)=>∃j b e,F t=Α (.tup<|j++[.ref b])/\ç K F d.1 j/\c.L b=Α (.lst e)/\ç K F d.2 e) r u
def Slot.at_(F:Hp)(x:V)(a:À):Slot->Prop
 |.ot e _ _=>∃p b d,x=.ref p/\F p=Α (.tup (b++.ref a::d))/\b.length=e.length|.ol _=>∃(p:À) (c:List À),x=.ref p/\F p=Α (.lst<|c.map V.ref)/\a∈c|.ow _=>x=.ref a|.fr _=>x=.ref a|.rd _ _ _=>x=.ref a|.rc _ _ _=>x=.ref a|_=>False
def ĳ(F:Hp)(b:ă)(c:ć)(i:Nat)(a:À):Prop:=∃s x,c[i]?=Α s/\b[i]?=Α (Α x)/\s.at_ F x a
structure ē(K:KK)(c:Ctx)(F H:Hp)(σ:ă)(ρ:ć):Prop where
 sub:Ù F H
 base:Ù c.B H
 f0:Ù c.F₀ F
 ge:∀a,c.B a≠Β->c.F₀ a=Β->F a=Β
 lent:∀a u,c.L a=Α u->H a=Α u/\F a=Β
 lb:∀a,c.B a=Β->c.L a=Β
 len:σ.length=ρ.length
 slot:∀(i:Nat) s,ρ[i]?=Α s->Ū K c F H ((σ[i]?).getD Β) s
 sep:∀i j a,ĳ F σ ρ i a->ĳ F σ ρ j a->i=j
def jg(F:Hp)(b:ă)(c:ć)(a:À):Prop:=∀i,¬ĳ F b c i a
section
variable{K:KK}{c:Ctx}{F F' H H':Hp}{σ:ă}{ρ:ć}{a:À}{o:HO}
def lv{s:Slot}(h:s.at_ F x a):s.own=Δ:=by cases s<;>first|rfl|exact h.elim
def CZ{s:Slot}(e:Ù F F')(h:s.at_ F x a):s.at_ F' x a:=by
 cases s with
 |ot ps qs rs=>obtain⟨p,i,g,f,d,b⟩:=h;exact⟨p,i,g,f,e _ _ d,b⟩|ol pL=>obtain⟨p,j,f,d,b⟩:=h;exact⟨p,j,f,e _ _ d,b⟩|_=>exact h
theorem uh:∀{as bs:List À},as.map V.ref=bs.map V.ref->as=bs
 |[],[],_=>rfl|[],_::_,h=>by cases h|_::_,[],h=>by cases h|a::as,b::bs,h=>by
  injection h with d e
  injection d with d
  rw[d,uh e]
def pM(h:(Slot.ot r n m).at_ F x a)(h':(Slot.ot r n m).at_ F x b):a=b:=by
 obtain⟨p,j,l,t,s,l1⟩:=h;obtain⟨q,i,k,g,d,l2⟩:=h';rw[t]at g;cases g;rw[s]at d;have e:j++V.ref a::l=i++V.ref b::k:=by
  injection d with d
  injection d
 have f:=(List.append_inj e<|by lia).2;injection f with f
 injection f
theorem FG{b d:Type}{G:b->d->Prop}:∀{l:List b}{m:List d}{x:b},Paired G l m->x∈l->∃y,y∈m/\G x y
 |_,_,_,.nil,h=>by simp at h|_,_,x,.cons r t,h=>by
  rcases ù.mp h with rfl|h
  ·exact⟨_,ŀ,r⟩
  ·obtain⟨y,f,e⟩:=FG t h;exact⟨y,ð _ f,e⟩
theorem iG{d b:Type}{G e:d->b->Prop}:∀{l:List d}{m:List b},Paired G l m->(∀x y,x∈l->G x y->e x y)->Paired e l m
 |_,_,.nil,_=>.nil|_,_,.cons r t,h=>.cons (h _ _ ŀ r)<|iG t λx y g=>h x y<|ð _ g
def ui(e:Ù F F'):Ù (JW F a b) (JW F' a b):=λx u h=>by
 unfold JW at h⊢;split at h
 ·cases h
 ·rename_i n;rw[if_neg n];exact e x u h
def ym:Ù (JW F a b) F:=λx u h=>by
 unfold JW at h;split at h
 ·cases h
 ·exact h
theorem nZ.same(h:nZ K B F t k j d v)(e:Ù F F'):nZ K B F' t k j d v:=by refine BL λZ=>?_;obtain⟨a,b,f,i,A,y,x,w,u,s,r,q⟩:=h;refine Z ?_;refine⟨a,b,f,i,e _ _ A,e _ _ y,x,w,u,s.same (ui e) j i,r.same (ui e) d f,q.imp id<|by rintro ⟨z,p,g,n,m,l⟩;exact ⟨z,p,g,n,e _ _ m,l.same (ui e) k g⟩⟩
def nZ.base(h:nZ K B F t j i d v)(e:Ù u B):nZ K u F t j i d v:=by obtain⟨a,b,f,g,s,r,q,p,n,m,l,k⟩:=h;exact⟨a,b,f,g,s,r,e.free q,e.free p,n,m,l,k⟩
noncomputable def U1(t:Bool)(f d b:List PV):PV:=if t then .tup (f++[.lst (.lst d::b)])else .lst (.lst d::b)
def nZ.rep(h:nZ K B F t f e d v):Ē K F (U1 t f e d) v:=by
 obtain⟨a,b,j,g,u,s,h3,h4,h5,r,q,n⟩:=h;have w:Ē K F (.lst e) (.ref b):=by exact⟨b,g,rfl,ż.of s,r.same ym e g⟩
 have i:Ē K F (.lst (.lst e::d)) (.ref a):=by exact⟨a,_,rfl,ż.of u,ç.cons w<|q.same ym d j⟩
 rcases n with⟨rfl,rfl,rfl⟩|⟨rfl,p,k,rfl,m,l⟩
 ·exact i
 ·show Ē K F (.tup<|f++[.lst (.lst e::d)]) (.ref p);exact⟨p,_,rfl,jH.of m,ç.append (l.same ym f k)<|ç.cons i ç.nil⟩
def Ū.grow(h:Ū K c F H x s)(j:Ù F F')(u:∀b vs,(∃y,x=Α y/\s.at_ F y b)->H b=Α vs->F b=Β->c.B b=Β->H' b=Α vs/\F' b=Β):Ū K c F' H' x s:=by
 cases s with
 |no=>trivial|sh p=>obtain⟨v,e,f⟩:=h;exact⟨v,e,f.same j p v⟩|ow k=>obtain⟨b,vs,e,f,i,g,q⟩:=h;obtain⟨m,l⟩:=u b _ ⟨_,e,rfl⟩ f i g;exact⟨b,vs,e,m,l,g,q.same j k vs⟩|bw k=>obtain⟨b,vs,e,f,i⟩:=h;exact⟨b,vs,e,f,i.same j k vs⟩|lr C J k=>obtain⟨b,A,fs,e,f,i,g⟩:=h;exact⟨b,A,fs,e,f,i,g.1.same j k _,g.2⟩|rc C J k=>obtain⟨b,A,fs,e,f,i,g,q,n⟩:=h;obtain⟨m,l⟩:=u b _ ⟨_,e,rfl⟩ f i g;exact⟨b,A,fs,e,m,l,g,q,n.1.same j k _,n.2⟩|ot k I U=>obtain⟨p,b,r,vs,D,e,f,i,g,q,n,h7,Z⟩:=h;obtain⟨m,l⟩:=u b _ ⟨_,e,p,r,D,rfl,f,i.length.symm⟩ g q n;exact⟨p,b,r,vs,D,e,j _ _ f,i.same j k r,m,l,n,h7.same j I vs,Z.same j U D⟩|ol X=>obtain⟨p,B,e,f,i,g⟩:=h;refine⟨p,B,e,j _ _ f,i,iG g λb k Y Q=>?_⟩;obtain⟨vs,z,w,t,E⟩:=Q;obtain⟨m,l⟩:=u b _ ⟨_,e,p,B,rfl,f,Y⟩ z w t;exact⟨vs,m,l,t,E.same j k vs⟩
 |fr X=>obtain⟨b,B,e,f,i,g,q,n⟩:=h;obtain⟨m,l⟩:=u b _ ⟨_,e,rfl⟩ f i g;exact⟨b,B,e,m,l,g,q,iG n<|by rintro d k _ ⟨vs,z,w,t⟩;exact ⟨vs,j _ _ z,w,t.same j k vs⟩⟩
 |bn I G=>obtain⟨v,e,f⟩:=h;exact⟨v,e,f.same j⟩|pin=>exact h|rd C J k=>obtain⟨b,A,fs,e,f,i,g,q,n⟩:=h;obtain⟨m,l⟩:=u b _ ⟨_,e,rfl⟩ f i g;exact⟨b,A,fs,e,m,l,g,q,n.1.same j k _,n.2⟩|dw gY=>obtain⟨a,R,e,f,i⟩:=h;exact⟨a,R,e,f,iG i<|by rintro t d _ ⟨r,b,vs,z,w,t,E⟩;exact ⟨r,b,vs,j _ _ z,w.same j d.1 r,t,E.same j d.2 vs⟩⟩
def Ū.owned(h:Ū K c F H (Α y) s)(f:s.at_ F y a):∃u,H a=Α u/\F a=Β/\c.B a=Β:=by
 cases s with
 |no=>exact f.elim|sh p=>exact f.elim|bw k=>exact f.elim|lr C v k=>exact f.elim|bn z t=>exact f.elim|dw gY=>exact f.elim|pin=>exact f.elim|rd C v k=>obtain⟨b,L,fs,d,i,j,g,l,m⟩:=h;rw[show y=.ref a from f]at d;cases d;exact⟨_,i,j,g⟩|fr B=>obtain⟨b,N,d,i,j,g,l,m⟩:=h;rw[show y=.ref a from f]at d;cases d;exact⟨_,i,j,g⟩|ow k=>obtain⟨b,r,d,i,j,g,l⟩:=h;rw[show y=.ref a from f]at d;cases d;exact⟨_,i,j,g⟩|rc C v k=>obtain⟨b,L,fs,d,i,j,g,l,m⟩:=h;rw[show y=.ref a from f]at d;cases d;exact⟨_,i,j,g⟩|ot k z rs=>obtain⟨p,b,x,r,w,d,i,j,g,l,m,h7,h8⟩:=h;cases d;cases pM f ⟨p,x,w,rfl,i,j.length.symm⟩;exact⟨_,g,l,m⟩|ol B=>obtain⟨p,N,d,i,j,g⟩:=h;cases d;obtain⟨q,bs,J,n,I⟩:=f;cases J;rw[i]at n;have e:=uh (by injection n with n;injection n);subst e;obtain⟨k,_,r,G,E,D,_⟩:=FG g I;exact⟨_,G,E,D⟩
def Ū.back(h:Ū K c F H (Α y) s)(e:Ù F F')(g:s.at_ F' y a):s.at_ F y a:=by
 cases s with
 |ot ps qs rs=>obtain⟨p,b,l,vs,k,j,d,i,m,h5,h6,h7,h8⟩:=h;cases j;cases pM g ⟨p,l,k,rfl,e _ _ d,i.length.symm⟩;exact⟨p,l,k,rfl,d,i.length.symm⟩|ol pL=>obtain⟨p,t,j,d,i,m⟩:=h;cases j;obtain⟨q,bs,r,f,n⟩:=g;cases r;rw[e _ _ d]at f;have z:=uh (by injection f with f;injection f);subst z;exact⟨p,t,rfl,d,n⟩
 |_=>exact g
def FH{i:Nat}(e:σ[i]?=Α (Α x)):(σ[i]?).getD Β=Α x:=by rw[e];rfl
def yn{i:Nat}(e:(σ[i]?).getD Β=Α x):σ[i]?=Α (Α x):=by
 cases q:σ[i]?with
 |none=>rw[q]at e;cases e|some y=>rw[q]at e;exact congrArg Α e
theorem ē.owned(r:ē K c F H σ ρ)(h:ĳ F σ ρ i a):(∃u,H a=Α u)/\F a=Β/\c.B a=Β:=by obtain⟨s,x,e,d,b⟩:=h;have q:=r.slot i s e;rw[FH d]at q;obtain⟨u,q⟩:=q.owned b;exact⟨⟨u,q.1⟩,q.2⟩
theorem ē.back(r:ē K c F H σ ρ)(e:Ù F F')(h:ĳ F' σ ρ i a):ĳ F σ ρ i a:=by obtain⟨s,x,d,b,f⟩:=h;have q:=r.slot i s d;rw[FH b]at q;exact⟨s,x,d,b,q.back e f⟩
def ē.zF(r:ē K c F H σ ρ)(e:Ù F F'):∀i j a,ĳ F' σ ρ i a->ĳ F' σ ρ j a->i=j:=λi j a f d=>r.sep i j a (r.back e f)<|r.back e d
def ē.lw(r:ē K c F H σ ρ)(e:Ù F F')(h:jg F σ ρ a):jg F' σ ρ a:=λi q=>h i<|r.back e q
def ē.fresh(r:ē K c F H σ ρ)(h:H a=Β):jg F σ ρ a:=λi q=>by obtain⟨⟨u,e⟩,_⟩:=r.owned q;rw[h]at e;cases e
def ē.alloc(r:ē K c F H σ ρ)(h:H a=Β):ē K c (upd F a o) (upd H a o) σ ρ where
 sub:=λb u e=>by
  by_cases d:b=a
  ·subst d;rw[ā]at e⊢;exact e
  ·rw[ñ d]at e⊢;exact r.sub b u e
 base:=λb u e=>by
  have d:b≠a:=λz=>by rw[z]at e;rw[r.base _ _ e]at h;cases h
  rw[ñ d];exact r.base b u e
 f0:=fun b u e=>by
   have d:b≠a:=λz=>by rw[z]at e;rw[r.sub _ _<|r.f0 _ _ e]at h;cases h
   rw[ñ d];exact r.f0 b u e
 ge:=λb f l=>by
  have d:b≠a:=λz=>by
   subst z;cases q:c.B b with
   |none=>exact f q|some u=>rw[r.base _ _ q]at h;cases h
  rw[ñ d];exact r.ge b f l
 lent:=λb u e=>by
  obtain⟨f,l⟩:=r.lent b u e;have d:b≠a:=λz=>by rw[z,h]at f;cases f
  rw[ñ d,ñ d];exact⟨f,l⟩
 lb:=r.lb
 len:=r.len
 slot:=λi s e=>by
  have t:=r.sub.free h;refine(r.slot i s e).grow (Ù.upd t) λb u x f l h3=>?_;have d:b≠a:=λz=>by rw[z,h]at f;cases f
  rw[ñ d,ñ d];exact⟨f,l⟩
 sep:=r.zF<|Ù.upd<|r.sub.free h
def ē.made(r:ē K c F H σ ρ)(h:H a=Β):ē K c F (upd H a o) σ ρ where
 sub:=r.sub.trans (Ù.upd h)
 base:=r.base.trans (Ù.upd h)
 f0:=r.f0
 ge:=r.ge
 lent:=λb u e=>⟨Ù.upd h b u (r.lent b u e).1,(r.lent b u e).2⟩
 lb:=r.lb
 len:=r.len
 slot:=λi s e=>(r.slot i s e).grow (Ù.refl F) λb u x l k h3=>⟨Ù.upd h b u l,k⟩
 sep:=r.sep
def ē.freeze(r:ē K c F H σ ρ)(h:H a=Α o)(p:c.B a=Β)(l:F a=Β)(v:jg F σ ρ a):ē K c (upd F a o) H σ ρ where
 sub:=λb u e=>by
  by_cases d:b=a
  ·subst d;rw[ā]at e;rw[h];exact e
  ·rw[ñ d]at e;exact r.sub b u e
 base:=r.base
 f0:=r.f0.trans (Ù.upd l)
 ge:=λb k m=>by have d:b≠a:=λz=>k (by rw[z];exact p);rw[ñ d];exact r.ge b k m
 lent:=λb u e=>by
  have d:b≠a:=λz=>by rw[z,r.lb a p]at e;cases e
  rw[ñ d];exact r.lent b u e
 lb:=r.lb
 len:=r.len
 slot:=λi s e=>(r.slot i s e).grow (Ù.upd l)<|by
  rintro x u' ⟨y,A,w⟩ k m h3;have d:x≠a:=λz=>by subst z;exact v i ⟨s,y,e,yn A,w⟩
  rw[ñ d];exact⟨k,m⟩
 sep:=r.zF<|Ù.upd l
def ϛ{e:Type}{l:List e}{x y:e}(h:(l.set i x)[j]?=Α y):(j=i/\y=x/\i<l.length)\/(j≠i/\l[j]?=Α y):=by
 by_cases d:j=i
 ·subst d;have f:=by
   have:=(bz.mp h).1;simpa using this
  rw[oJ f]at h;exact .inl ⟨rfl,(Ň h).symm,f⟩
 ·rw[jK<|Ť d]at h;exact .inr ⟨d,h⟩
def FI{l:ă}(h:i<l.length):((l.set i x)[i]?).getD Β=x:=by rw[oJ h];rfl
def C_{l:ă}(h:j≠i):((l.set i x)[j]?).getD Β=(l[j]?).getD Β:=by rw[jK<|Ť h]
def ĳ.off(h:ĳ F (σ.set i x) (ρ.set i s) j a)(f:j≠i):ĳ F σ ρ j a:=by obtain⟨e,y,d,b,g⟩:=h;rw[jK<|Ť f]at d b;exact⟨e,y,d,b,g⟩
def ē.put(r:ē K c F H σ ρ)(u:s.own=Ε)(h:Ū K c F H x s):ē K c F H (σ.set i x) (ρ.set i s) where
 sub:=r.sub
 base:=r.base
 f0:=r.f0
 ge:=r.ge
 lent:=r.lent
 lb:=r.lb
 len:=by simpa using r.len
 slot:=λj f e=>by
  rcases ϛ e with⟨rfl,rfl,v⟩|⟨w,e⟩
  ·rw[FI (by rw[r.len];exact v)];exact h
  ·rw[C_ w];exact r.slot j f e
 sep:=λj k b m l=>by
  have off:∀{j},ĳ F (σ.set i x) (ρ.set i s) j b->j≠i:=fun{j} q z=>by
   subst z;obtain⟨f,y,t,_,p⟩:=q;rcases ϛ t with⟨_,rfl,_⟩|⟨q,_⟩
   ·have:=lv p;rw[u]at this;cases this
   ·exact q rfl
  exact r.sep j k b (m.off<|off m)<|l.off<|off l
def ē.FJ(r:ē K c F H σ ρ)(t:s.own=Ε)(h:Ū K c F H ((σ[i]?).getD Β) s):ē K c F H σ (ρ.set i s) where
 sub:=r.sub
 base:=r.base
 f0:=r.f0
 ge:=r.ge
 lent:=r.lent
 lb:=r.lb
 len:=by simpa using r.len
 slot:=λj f e=>by
  rcases ϛ e with⟨rfl,rfl,hl⟩|⟨hj,e⟩
  ·exact h
  ·exact r.slot j f e
 sep:=λj k b v u=>by
  have off:∀{j},ĳ F σ (ρ.set i s) j b->ĳ F σ ρ j b:=fun{j} ⟨f,y,p,n,g⟩=>by
   rcases ϛ p with⟨_,rfl,_⟩|⟨_,q⟩
   ·have:=lv g;rw[t]at this;cases this
   ·exact⟨f,y,q,n,g⟩
  exact r.sep j k b (off v)<|off u
def ē.A5(r:ē K c F H σ ρ)(h:Ū K c F H (Α x) s)(A:∀a,s.at_ F x a->jg F σ ρ a):ē K c F H (σ.set i<|some x) (ρ.set i s) where
 sub:=r.sub
 base:=r.base
 f0:=r.f0
 ge:=r.ge
 lent:=r.lent
 lb:=r.lb
 len:=by simpa using r.len
 slot:=λj u e=>by
  rcases ϛ e with⟨rfl,rfl,L⟩|⟨g,e⟩
  ·rw[FI (by rw[r.len];exact L)];exact h
  ·rw[C_ g];exact r.slot j u e
 sep:=λj k b N B=>by
  have p:∀{j},ĳ F (σ.set i<|some x) (ρ.set i s) j b->(j=i/\s.at_ F x b)\/(j≠i/\ĳ F σ ρ j b):=fun{j} q=>by
   by_cases g:j=i
   ·subst g;obtain⟨u,y,J,I,G⟩:=q;rcases ϛ I with⟨_,e,_⟩|⟨z,_⟩
    ·cases e;rcases ϛ J with⟨_,e,_⟩|⟨z,_⟩
     ·cases e;exact .inl ⟨rfl,G⟩
     ·exact absurd rfl z
    ·exact absurd rfl z
   ·exact .inr ⟨g,q.off g⟩
  rcases p N with⟨C,D⟩|⟨C,v⟩
  ·rcases p B with⟨l,t⟩|⟨l,n⟩
   ·rw[C,l]
   ·exact absurd n<|A b D k
  ·rcases p B with⟨l,t⟩|⟨l,n⟩
   ·exact absurd v<|A b t j
   ·exact r.sep j k b v n
def ē.LR(r:ē K c F H σ ρ)(m:ĳ F σ ρ i a)(h:Ū K c F (upd H a o) ((σ[i]?).getD Β) s)(D:∀x b,σ[i]?=Α (Α x)->s.at_ F x b->ĳ F σ ρ i b):ē K c F (upd H a o) σ (ρ.set i s) where
 sub:=λb u e=>by
  have g:b≠a:=λz=>by rw[z,(r.owned m).2.1]at e;cases e
  rw[ñ g];exact r.sub b u e
 base:=λb u e=>by
  have g:b≠a:=λz=>by rw[z,(r.owned m).2.2]at e;cases e
  rw[ñ g];exact r.base b u e
 f0:=r.f0
 ge:=r.ge
 lent:=λb u e=>by
  have g:b≠a:=λz=>by rw[z,r.lb a (r.owned m).2.2]at e;cases e
  rw[ñ g];exact r.lent b u e
 lb:=r.lb
 len:=by simpa using r.len
 slot:=λj l e=>by
  rcases ϛ e with⟨rfl,rfl,hl⟩|⟨E,e⟩
  ·exact h
  ·refine(r.slot j l e).grow (Ù.refl F) ?_;rintro b u ⟨y,I,G⟩ t p h3;have g:b≠a:=λz=>by
    subst z;exact E<|r.sep j i b ⟨l,y,e,yn I,G⟩ m
   exact⟨by rw[ñ g];exact t,p⟩
 sep:=λj k b t p=>by
  have off:∀{j},ĳ F σ (ρ.set i s) j b->ĳ F σ ρ j b:=fun{j} ⟨l,y,C,v,w⟩=>by
   rcases ϛ C with⟨e,rfl,_⟩|⟨_,q⟩
   ·subst e;exact D y b v w
   ·exact⟨l,y,q,v,w⟩
  exact r.sep j k b (off t)<|off p
def ē.write(r:ē K c F H σ ρ)(f:ĳ F σ ρ i a)(d:σ[i]?=Α (Α<|.ref a))(h:Ū K c F (upd H a o) (Α<|.ref a) s)(j:∀b,s.at_ F (.ref a) b->b=a):ē K c F (upd H a o) σ (ρ.set i s):=
 r.LR f (by rw[d];exact h) λx b e q=>by rw[d]at e;cases e;rw[j b q];exact f
structure Gr(F H F' H':Hp):Prop where
 h:Ù H H'
 f:Ù F F'
 sub:Ù F' H'
 out:∀a,H a≠Β->F a=Β->F' a=Β
def ē.call(r:ē K c F H σ ρ)(g:Gr F H F' H'):ē K c F' H' σ ρ where
 sub:=g.sub
 base:=r.base.trans g.h
 f0:=r.f0.trans g.f
 ge:=λb f h=>by
  refine g.out b (λz=>f ?_)<|r.ge b f h;cases q:c.B b with
  |none=>rfl|some u=>rw[r.base _ _ q]at z;cases z
 lent:=λb u e=>⟨g.h b u (r.lent b u e).1,g.out b (by rw[(r.lent b u e).1];intro z;cases z) (r.lent b u e).2⟩
 lb:=r.lb
 len:=r.len
 slot:=λi s e=>(r.slot i s e).grow g.f λb u x f h h3=>⟨g.h b u f,g.out b (by rw[f];intro z;cases z) h⟩
 sep:=r.zF g.f
noncomputable def cu(F H:Hp):Ctx:=⟨H,F,λa=>match F a with
 |none=>H a|some _=>Β,λx x x=>True⟩
def Ϣ(h:(cu F H).L a=Α u):H a=Α u/\F a=Β:=by
 unfold cu at h;dsimp only at h;cases q:F a with
 |none=>rw[q]at h;exact⟨h,rfl⟩|some o=>rw[q]at h;cases h
def ē.gr(r:ē K (cu F H) F' H' σ ρ):Gr F H F' H':=⟨r.base,r.f0,r.sub,r.ge⟩
def du(K:KK)(F H:Hp):Slot->V->Prop
 |.sh p,v=>Ē K F p v|.lr C i f,v=>∃a k fs,v=.ref a/\H a=Α (.ins (K.cm C) k fs)/\F a=Β/\fs.map (·.1)=i/\ç K F f (fs.map (·.2))/\i≠[]|.bw f,v=>∃a e,v=.ref a/\H a=Α (.lst e)/\F a=Β/\ç K F f e|.dw j,v=>∃(a:À) (h:List À),v=.ref a/\H a=Α (.lst<|h.map V.ref)/\F a=Β/\Paired (λ(t:À) (d:List PV×List PV)=>∃g b e,F t=Α (.tup<|g++[.ref b])/\ç K F d.1 g/\(H b=Α (.lst e)/\F b=Β)/\ç K F d.2 e) h j
 |_,_=>False
def du.slot(h:du K F H s v):Ū K (cu F H) F H (Α v) s/\s.own=Ε:=by
 cases s with
 |sh p=>exact⟨⟨v,rfl,h⟩,rfl⟩|bw e=>obtain⟨a,j,rfl,i,g,f⟩:=h;refine⟨⟨a,j,rfl,?_,f⟩,rfl⟩;show(match F a with|none=>H a|some _=>Β)=_;rw[g];exact i
 |lr C l e=>obtain⟨a,G,fs,rfl,i,g,f⟩:=h;refine⟨⟨a,G,fs,rfl,?_,f⟩,rfl⟩;show(match F a with|none=>H a|some _=>Β)=_;rw[g];exact i
 |no=>exact h.elim|ow e=>exact h.elim|rc C l e=>exact h.elim|ot e t rs=>exact h.elim|ol y=>exact h.elim|fr y=>exact h.elim|rd C l e=>exact h.elim|pin=>exact h.elim|bn t k=>exact h.elim|dw gY=>
  obtain⟨a,r,rfl,i,g,f⟩:=h;have lt:∀{x:À}{u:HO},H x=Α u->F x=Β->(cu F H).L x=Α u:=fun{x u} E D=>by show(match F x with|none=>H x|some _=>Β)=_;rw[D];exact E
  exact⟨⟨a,r,rfl,lt i g,iG f<|by rintro t d _ ⟨q,b,j,B,A,m,z⟩;exact ⟨q,b,j,B,A,lt m.1 m.2,z⟩⟩,rfl⟩
noncomputable def Ğ(n:Nat)(as:List Slot):ć:=as++ý (n-as.length) .no
theorem ē.start(s:Ù F H)(h:Paired (du K F H) as vs):ē K (cu F H) F H (L2.start N vs) (Ğ N.length as) where
 sub:=s
 base:=Ù.refl H
 f0:=Ù.refl F
 ge:=λz z h=>h
 lent:=λz z e=>Ϣ e
 lb:=fun a e=>by
   cases q:(cu F H).L a with
   |none=>rfl|some u=>have p:H a=Β:=e;rw[(Ϣ q).1]at p;cases p
 len:=by unfold L2.start Ğ;simp[Paired.length h]
 slot:=λi t e=>by
  unfold Ğ at e;by_cases g:i<as.length
  ·rw[Ϫ g]at e;obtain⟨v,d,f⟩:=cq h e;have w:((L2.start N vs)[i]?).getD Β=Α v:=by
    unfold L2.start;rw[Ϫ (by simpa[<-Paired.length h]using g),œ,d];rfl
   rw[w];exact(du.slot f).1
  ·rw[ie (by lia),ig]at e;split at e
   ·cases e;trivial
   ·cases e
 sep:=λi j a d z=>by
  obtain⟨t,y,d,_,f⟩:=d;have f:=lv f;unfold Ğ at d;by_cases g:i<as.length
  ·rw[Ϫ g]at d;obtain⟨v,_,x⟩:=cq h d;rw[(du.slot x).2]at f;cases f
  ·rw[ie (by lia),ig]at d;split at d
   ·cases d;cases f
   ·cases d
end
structure PX where
 C:String
 ns:List Str
 ps:List PV
def yo(K:KK)(F:Hp)(x:PX)(C:Á)(d:Option À):Prop:=C=.ref (K.cm x.C)/\∃fs,zE F d fs/\fs.map (·.1)=x.ns/\ç K F x.ps (fs.map (·.2))/\(x.ns=[]->d=Β)
inductive Ĳ(α:Type) where
 |ok (a:α) (ρ:ć)|exc (x:PX) (ρ:ć)|bad
noncomputable def Ĳ.bind{α β:Type}(r:Ĳ α)(f:α->ć->Ĳ β):Ĳ β:=match r with
 |.ok a ρ=>f a ρ|.exc x ρ=>.exc x ρ|.bad=>.bad
@[simp]theorem Ĳ.bM{c d:Type}{a:c}{b:ć}{f:c->ć->Ĳ d}:(Ĳ.ok a b).bind f=f a b:=rfl
@[simp]theorem Ĳ.O1{b c:Type}{x:PX}{a:ć}{f:b->ć->Ĳ c}:(Ĳ.exc x a:Ĳ b).bind f=.exc x a:=rfl
@[simp]theorem Ĳ.O2{a b:Type}{f:a->ć->Ĳ b}:(Ĳ.bad:Ĳ a).bind f=.bad:=rfl
noncomputable def Ĳ.zG{b:Type}(o:Option b)(ρ:ć):Ĳ b:=match o with
 |some a=>.ok a ρ|none=>.bad
@[simp]theorem Ĳ.O3{c:Type}{a:c}{b:ć}:Ĳ.zG (Α a) b=.ok a b:=rfl
@[simp]theorem Ĳ.O4{b:Type}{a:ć}:Ĳ.zG (Β:Option b) a=.bad:=rfl
abbrev M(a:Type):=ć->Ĳ a
inductive RV where
 |sh (p:PV)|ow (ps:List PV)|ot (ps qs rs:List PV)|bn (t:Bool) (ps qs rows:List PV)
def RV.val:RV->PV
 |.sh p=>p|.ow b=>.lst b|.ot b c d=>.tup (b++.lst c::d)|.bn t b c a=>U1 t b c a
def RV.slot:RV->Slot
 |.sh p=>.sh p|.ow b=>.ow b|.ot b c d=>.ot b c d|.bn t b c a=>if t then .sh (U1 t b c a)else .bn c a
abbrev RR(b a:Type):=Ctx->ă->ć->Hp->Hp->b->a->Prop
def rV(K:KK):RR PV V:=λx x x F x p v=>Ē K F p v
def C0(K:KK)(F H:Hp)(p:PV)(v:V):Prop:=match p with
 |.lst b=>∃a c,v=.ref a/\H a=Α (.lst c)/\ç K F b c|.ins C d b=>∃a e fs,v=.ref a/\H a=Α (.ins (K.cm C) e fs)/\fs.map (·.1)=d/\ç K F b (fs.map (·.2))|_=>False
def rR(K:KK):RR PV V:=λx x x F H p v=>Ē K F p v\/C0 K F H p v
def rA(K:KK):RR (List Slot) (List V):=λx x x F H c b=>Paired (du K F H) c b
def Hj(K:KK)(c:Ctx)(b:ă)(d:ć)(F H:Hp)(f:List PV)(v:V):Prop:=∃a e,v=.ref a/\H a=Α (.lst e)/\F a=Β/\c.B a=Β/\jg F b d a/\ç K F f e
def C1(K:KK)(c:Ctx)(b:ă)(d:ć)(F H:Hp)(j i h:List PV)(v:V):Prop:=∃p a f g e,v=.ref p/\F p=Α (.tup (f++.ref a::e))/\ç K F j f/\H a=Α (.lst g)/\F a=Β/\c.B a=Β/\jg F b d a/\ç K F i g/\ç K F h e
def rO(K:KK):RR RV V:=λc a b F H r v=>match r with
 |.sh p=>Ē K F p v|.ow e=>Hj K c a b F H e v|.ot e f h=>C1 K c a b F H e f h v|.bn t e f d=>nZ K c.B F t e f d v
def rL(K:KK):RR (List PV) (List V):=λx x x F x p v=>ç K F p v
def LS(K:KK):RR (List PV) (List V):=λc a b F H p v=>Paired (rR K c a b F H) p v
def rB:RR Bool Bool:=λx x x x x p v=>p=v
def rI:RR (Option Int) (Option Int):=λx x x x x p v=>p=v
def ϰ{h g:Type}(K:KK)(E:ă->XK)(R:RR h g)(c:Ctx)(F H:Hp)(b:ă)(Q:g->Hp->Prop):Ĳ h->Prop
 |.ok p a=>∀v f e,ē K c f e b a->Ù F f->Ù H e->R c b a f e p v->Q v e|.exc x a=>∀C d f e,ē K c f e b a->Ù F f->yo K f x C d->E b C d e|.bad=>False
def tG{e d:Type}(K:KK)(E:ă->XK)(R:RR e d)(m:M e):ă->Hp->(d->Hp->Prop)->Prop:=λa H Q=>∃c F b,ē K c F H a b/\ϰ K E R c F H a Q (m b)
section
variable{α β α' β':Type}{K:KK}{E:ă->XK}{R:RR α β}{R':RR α' β'}{c:Ctx}{F F1 H H1:Hp}{σ:ă}
def ϰ.mono{Q:β->Hp->Prop}{r:Ĳ α}(h:ϰ K E R c F H σ Q r)(sF:Ù F F1)(sH:Ù H H1):ϰ K E R c F1 H1 σ Q r:=by
 cases r with
 |ok p a=>exact λv F' H' rel s1 s2 q=>h v F' H' rel (sF.trans s1) (sH.trans s2) q
 |exc x a=>exact λC d F' H' rel s1 q=>h C d F' H' rel (sF.trans s1) q
 |bad=>exact h
theorem ϰ.bind(h:ϰ K E R' c F H σ d (r.bind f))
 (k:∀p a v F1 H1,ē K c F1 H1 σ a->Ù F F1->Ù H H1->R c σ a F1 H1 p v->ϰ K E R' c F1 H1 σ d (f p a)->Q v H1):ϰ K E R c F H σ Q r:=by
 cases r with
 |ok p b=>exact λv l j rel s1 s2 q=>k p b v l j rel s1 s2 q<|ϰ.mono (show ϰ K E R' c F H σ d (f p b)from h) s1 s2
 |exc x b=>exact h|bad=>exact h
theorem ϰ.rel{R2:RR α β}(h:ϰ K E R c F H σ Q r)(k:∀p a v d b,ē K c d b σ a->R2 c σ a d b p v->R c σ a d b p v):ϰ K E R2 c F H σ Q r:=by
 cases r with
 |ok p a=>exact λv d b rel s1 s2 q=>h v d b rel s1 s2<|k p a v d b rel q
 |exc x a=>exact h|bad=>exact h
end
abbrev tV(K:KK)(E:ă->XK)(m:M PV):TE:=tG K E (rV K) m
abbrev tR(K:KK)(E:ă->XK)(m:M PV):TE:=tG K E (rR K) m
abbrev tO(K:KK)(E:ă->XK)(m:M RV):TE:=tG K E (rO K) m
abbrev tL(K:KK)(E:ă->XK)(m:M (List PV)):TA:=tG K E (rL K) m
abbrev tA(K:KK)(E:ă->XK)(m:M (List Slot)):TA:=tG K E (rA K) m
abbrev FK(K:KK)(E:ă->XK)(m:M (List PV)):TA:=tG K E (LS K) m
abbrev tB(K:KK)(E:ă->XK)(m:M Bool):TT:=tG K E rB m
inductive Fl where
 |nx|bk|ct|rt (r:RV)
def ϑ(K:KK)(E:ă->XK)(c:Ctx)(F:Hp)(D:Ends):Ĳ Fl->Prop
 |.ok .nx b=>∀a e f,ē K c e f a b->Ù F e->D.nx a f|.ok .bk b=>∀a e f,ē K c e f a b->Ù F e->D.bk a f|.ok .ct b=>∀a e f,ē K c e f a b->Ù F e->D.ct a f|.ok (.rt r) b=>∀v a e f,ē K c e f a b->Ù F e->rO K c a b e f r v->D.rt v f|.exc x b=>∀a C d e f,ē K c e f a b->Ù F e->yo K e x C d->E a C d f|.bad=>False
def tS(K:KK)(E:ă->XK)(m:M Fl):TS:=λD b H=>∃c F a,ē K c F H b a/\ϑ K E c F D (m a)
section
variable{K:KK}{E:ă->XK}{c:Ctx}{F F1:Hp}{D:Ends}
def ϑ.mono{r:Ĳ Fl}(h:ϑ K E c F D r)(sF:Ù F F1):ϑ K E c F1 D r:=by
 cases r with
 |ok f b=>
  cases f with
  |rt v=>exact λv a F' H' rel s1 q=>h v a F' H' rel (sF.trans s1) q
  |nx=>exact λa F' H' rel s1=>h a F' H' rel<|sF.trans s1
  |bk=>exact λa F' H' rel s1=>h a F' H' rel<|sF.trans s1
  |ct=>exact λa F' H' rel s1=>h a F' H' rel<|sF.trans s1
 |exc x b=>exact λa C d F' H' rel s1 q=>h a C d F' H' rel (sF.trans s1) q
 |bad=>exact h
theorem ϑ.bind{g m:Type}{R:RR g m}{Q:m->Hp->Prop}{r:Ĳ g}{f:g->ć->Ĳ Fl}(h:ϑ K E c F D (r.bind f))
 (k:∀p a v F1 i,ē K c F1 i e a->Ù F F1->R c e a F1 i p v->ϑ K E c F1 D (f p a)->Q v i):ϰ K E R c F H e Q r:=by
 cases r with
 |ok p b=>exact λv l j rel s1 s2 q=>k p b v l j rel s1 q<|ϑ.mono (show ϑ K E c F D (f p b)from h) s1
 |exc x b=>exact λC d l j rel s1 q=>h e C d l j rel s1 q
 |bad=>exact h
end
open PySem PySem.Spec PyProof.Rows L2 M2
noncomputable def í(i:Nat):M PV:=λρ=>match ρ[i]?with
 |some (.sh p)=>.ok p ρ|some (.ow d)=>.ok (.lst d)<|ρ.set i<|.sh<|.lst d|some (.bn e a)=>.ok (.lst (.lst e::a)) ρ|_=>.bad
noncomputable def Â(i:Nat):M PV:=λρ=>match ρ[i]?with
 |some (.sh p)=>.ok p ρ|some (.ow a)=>.ok (.lst a) ρ|some (.bw a)=>.ok (.lst a) ρ|some (.rc C d a)=>.ok (.ins C d a) ρ|some (.bn f c)=>.ok (.lst (.lst f::c)) ρ|some (.rd C d a)=>.ok (.ins C d a) ρ|some (.lr C d a)=>.ok (.ins C d a) ρ|_=>.bad
noncomputable def fE(i:Nat):M RV:=λρ=>match ρ[i]?with
 |some (.sh p)=>.ok (.sh p) ρ|some (.ow c)=>.ok (.ow c)<|ρ.set i .no|_=>.bad
@[simp]def mC(p:PV)(a:ć):Ĳ PV:=.ok p a
abbrev Æ(i:Int):M PV:=mC (.int i)
@[simp]def ņ(m:M PV)(b:ć):Ĳ RV:=(m b).bind λp a=>.ok (.sh p) a
@[simp]def Ñ(m:M RV)(b:ć):Ĳ PV:=(m b).bind λr a=>.ok r.val a
section
variable{K:KK}{c:Ctx}{F H:Hp}{σ:ă}{ρ:ć}
def Ŀ{i:Nat}(h:(σ[i]?).getD Β=Α x):σ[i]?=Α (Α x):=by
 cases q:σ[i]?with
 |none=>rw[q]at h;cases h|some y=>rw[q]at h;exact congrArg Α h
theorem ē.ow(r:ē K c F H σ ρ)(e:ρ[i]?=Α (.ow d)):∃a vs,σ[i]?=Α (Α<|.ref a)/\H a=Α (.lst vs)/\F a=Β/\c.B a=Β/\ç K F d vs/\ĳ F σ ρ i a:=by refine BL λZ=>?_;obtain⟨a,vs,b,j,h,g,f⟩:=r.slot i _ e;refine Z ?_;exact⟨a,vs,Ŀ b,j,h,g,f,⟨_,_,e,Ŀ b,rfl⟩⟩
def ē.move(r:ē K c F H σ ρ)(h:ĳ F σ ρ i a):ē K c F H σ (ρ.set i .no)/\jg F σ (ρ.set i .no) a:=by
 refine⟨r.FJ rfl trivial,λj e=>?_⟩;obtain⟨s,y,g,f,b⟩:=e;rcases ϛ g with⟨_,rfl,_⟩|⟨k,q⟩
 ·exact b.elim
 ·exact k<|r.sep j i a ⟨s,y,q,f,b⟩ h
def ē.share(r:ē K c F H σ ρ)(e:ρ[i]?=Α (.ow b)):∃a vs,σ[i]?=Α (Α<|.ref a)/\F a=Β/\Ē K (upd F a<|.lst vs) (.lst b) (.ref a)/\ē K c (upd F a<|.lst vs) H σ (ρ.set i<|.sh<|.lst b):=by
 refine BL λZ=>?_;obtain⟨a,vs,g,n,d,m,l,k⟩:=r.ow e;obtain⟨j,h⟩:=r.move k;refine Z ?_;have f:Ē K (upd F a<|.lst vs) (.lst b) (.ref a):=by exact⟨a,vs,rfl,ż.of ā,l.same (Ù.upd d) b vs⟩
 have q:=(j.freeze n m d h).FJ rfl (show Ū K c _ H _ (.sh<|.lst b)from⟨.ref a,by rw[g];rfl,f⟩);rw[List.set_set]at q;exact⟨a,vs,g,d,f,q⟩
def C0.mono{F1 H1:Hp}{p:PV}{v:V}(h:C0 K F H p v)(sF:Ù F F1)(sH:Ù H H1):C0 K F1 H1 p v:=by
 cases p with
 |lst ps=>obtain⟨a,vs,h2,h3,h4⟩:=h;exact⟨a,vs,h2,sH _ _ h3,h4.same sF ps vs⟩|ins C ns ps=>obtain⟨a,dx,fs,h2,h3,h4,h5⟩:=h;exact⟨a,dx,fs,h2,sH _ _ h3,h4,h5.same sF ps _⟩|_=>exact h.elim
theorem rR.mono(h:rR K c σ ρ F H p v)(b:Ù F f)(d:Ù H e):rR K c σ a f e p v:=by
 rcases h with h|h
 ·exact .inl<|h.same b p v
 ·exact .inr<|h.mono b d
def rR.of(h:Ē K F p v):rR K c σ ρ F H p v:=.inl h
theorem rR.lst(s:Ù F H)(h:rR K c σ ρ F H (.lst f) v):∃a vs,v=.ref a/\ż K.K H a vs/\ç K F f vs:=by
 rcases h with h|⟨a,vs,d,b,g⟩
 ·unfold Ē at h;obtain⟨a,e,i,d,b⟩:=h;exact⟨a,e,i,s.seq d,b⟩
 ·exact⟨a,vs,d,ż.of b,g⟩
theorem rR.tup(s:Ù F H)(h:rR K c σ ρ F H (.tup d) v):∃a vs,v=.ref a/\jH K.K H a vs/\ç K F d vs:=by
 rcases h with h|h
 ·unfold Ē at h;obtain⟨a,b,g,f,e⟩:=h;exact⟨a,b,g,Ù.tup s f,e⟩
 ·exact h.elim
theorem rR.int(h:rR K c σ ρ F H (.int i) v):v=.int i:=by
 rcases h with h|h
 ·unfold Ē at h;exact h
 ·exact h.elim
theorem rR.str(h:rR K c σ ρ F H (.str i) v):v=.str i:=by
 rcases h with h|h
 ·unfold Ē at h;exact h
 ·exact h.elim
theorem rR.bl(h:rR K c σ ρ F H (.bl i) v):v=.bl i:=by
 rcases h with h|h
 ·unfold Ē at h;exact h
 ·exact h.elim
theorem rR.non(h:rR K c σ ρ F H .non v):v=.non:=by
 rcases h with h|h
 ·unfold Ē at h;exact h
 ·exact h.elim
theorem rR.ty(h:rR K c σ ρ F H (.ty n) v):v=.ty n:=by
 rcases h with h|h
 ·unfold Ē at h;exact h
 ·exact h.elim
theorem Ē.int:Ē K F (.int i) (.int i):=by unfold Ē;rfl
theorem Ē.str:Ē K F (.str i) (.str i):=by unfold Ē;rfl
theorem Ē.bl:Ē K F (.bl i) (.bl i):=by unfold Ē;rfl
theorem Ē.non:Ē K F .non .non:=by unfold Ē;rfl
end
section
variable{X:Cx}{cm:String->À}{E:ă->XK}{a b e:Ç}{es:List Ç}{pos:Pos}{m ma mb mc:M PV}{mo:M RV}
def PT.wk(h:PT X e t)(i:∀c H Q,t' c H Q->t c H Q):PT X e t':=λÅ s c H Q I q=>h Å s c H Q I<|i c H Q q
def PA.wk(h:PA X es t)(i:∀c H Q,t' c H Q->t c H Q):PA X es t':=λpos f s c H Q I q=>h pos f s c H Q I<|i c H Q q
def PW.wk(h:PW X e t)(i:∀c H Q,t' c H Q->t c H Q):PW X e t':=λwh f s c H Q I q=>h wh f s c H Q I<|i c H Q q
def b_.wk{st:List æ}(h:b_ X st t)(i:∀D c H,t' D c H->t D c H):b_ X st t':=λÅ s c H D I q=>h Å s c H D I<|i D c H q
set_option tactic.hygienic true
def v_var(i:Nat){x:Str}{pos:Pos}(l:autoParam (EK X i x=Δ) Ζ):PE X (.Name x pos) (tV ∅ E<|í i):=PE.wk (pE l)<|by
 rintro d H Q ⟨c,F,f,rel,h⟩;unfold í at h;split at h
 ·rename_i p e;obtain⟨v,j,g⟩:=rel.slot i _ e;exact⟨v,Ŀ j,h v F H rel (Ù.refl F) (Ù.refl H) g⟩
 ·rename_i ps e;obtain⟨a,vs,j,g,o,n⟩:=rel.share e;exact⟨.ref a,j,h _ _ H n (Ù.upd g) (Ù.refl H) o⟩
 ·rename_i qs k e;obtain⟨v,j,g⟩:=rel.slot i _ e;exact⟨v,Ŀ j,h v F H rel (Ù.refl F) (Ù.refl H) g.rep⟩
 ·exact h.elim
def Ã(i:Nat){x:Str}{pos:Pos}(w:autoParam (EK X i x=Δ) Ζ):PE X (.Name x pos) (tR ∅ E<|Â i):=PE.wk (pE w)<|by
 rintro d H Q ⟨c,F,f,rel,h⟩;unfold Â at h;split at h
 ·rename_i p e;obtain⟨v,j,g⟩:=rel.slot i _ e;exact⟨v,Ŀ j,h v F H rel (Ù.refl F) (Ù.refl H)<|.inl g⟩
 ·rename_i o e;obtain⟨a,r,j,g,k,q,l,_⟩:=rel.ow e;exact⟨.ref a,j,h _ F H rel (Ù.refl F) (Ù.refl H)<|.inr ⟨a,r,rfl,g,l⟩⟩
 ·rename_i o e;obtain⟨a,r,j,g,k⟩:=rel.slot i _ e;exact⟨.ref a,Ŀ j,h _ F H rel (Ù.refl F) (Ù.refl H)<|.inr ⟨a,r,rfl,(rel.lent a _ g).1,k⟩⟩
 ·rename_i C u o e;obtain⟨a,n,fs,j,g,k,q,l,s⟩:=rel.slot i _ e;exact⟨.ref a,Ŀ j,h _ F H rel (Ù.refl F) (Ù.refl H)<|.inr ⟨a,n,fs,rfl,g,l,s.1⟩⟩
 ·rename_i qs t e;obtain⟨v,j,g⟩:=rel.slot i _ e;exact⟨v,Ŀ j,h v F H rel (Ù.refl F) (Ù.refl H)<|.inl g.rep⟩
 ·rename_i C u o e;obtain⟨a,n,fs,j,g,k,q,l,s⟩:=rel.slot i _ e;exact⟨.ref a,Ŀ j,h _ F H rel (Ù.refl F) (Ù.refl H)<|.inr ⟨a,n,fs,rfl,g,l,s.1⟩⟩
 ·rename_i C u o e;obtain⟨a,n,fs,j,g,k,q⟩:=rel.slot i _ e;exact⟨.ref a,Ŀ j,h _ F H rel (Ù.refl F) (Ù.refl H)<|.inr ⟨a,n,fs,rfl,(rel.lent a _ g).1,k,q.1⟩⟩
 ·exact h.elim
set_option tactic.hygienic false
def jh(i:Nat){x:Str}{pos:Pos}(o:autoParam (EK X i x=Δ) Ζ):PE X (.Name x pos) (tO ∅ E<|fE i):=PE.wk (pE o)<|by
 rintro d H Q ⟨c,F,f,rel,h⟩;unfold fE at h;split at h
 ·rename_i p e;obtain⟨v,j,g⟩:=rel.slot i _ e;exact⟨v,Ŀ j,h v F H rel (Ù.refl F) (Ù.refl H) g⟩
 ·rename_i ps e;obtain⟨a,k,j,g,t,s,r,q⟩:=rel.ow e;obtain⟨n,l⟩:=rel.move q;exact⟨.ref a,j,h _ F H n (Ù.refl F) (Ù.refl H) ⟨a,k,rfl,g,t,s,l,r⟩⟩
 ·exact h.elim
def JX{v:V}(p:PV)(h:PE X e (tC v))(g:∀F,Ē ∅ F p v:=by intro _;unfold Ē;rfl):PE X e (tV ∅ E<|mC p):=PE.wk h<|by rintro d H Q ⟨c,F,f,rel,h⟩;exact h v F H rel (Ù.refl F) (Ù.refl H)<|g F
def ī{i j pos}:PE X (.Constant (.int i) j pos) (tV ∅ E<|mC<|.int i):=JX _ xV
def pN{i j pos}:PE X (.Constant (.bool i) j pos) (tV ∅ E<|mC<|.bl i):=JX _ OC
def pO{j pos}:PE X (.Constant .none j pos) (tV ∅ E<|mC .non):=JX _ K4
def Ŋ{x j pos}:PE X (.Constant (.str x) j pos) (tV ∅ E<|mC<|.str x):=JX _ K5
def å(h:PE X e (tV ∅ E m)):PE X e (tR ∅ E m):=PE.wk h λf H Q ⟨c,F,d,rel,h⟩=>⟨c,F,d,rel,h.rel λx x x x x x q=>.inl q⟩
def ϱ(h:PE X e (tV ∅ E m)):PE X e (tO ∅ E<|ņ m):=PE.wk h<|by rintro g H Q ⟨c,F,d,rel,h⟩;exact ⟨c,F,d,rel,h.bind λp f v n l j s1 s2 q k=>k v n l j Č Č q⟩
def Hj.share{K:KK}(rel:ē K c F H d f)(h:Hj K c d f F H k v):∃i,Ù F i/\ē K c i H d f/\Ē K i (.lst k) v:=by refine BL λZ=>?_;obtain⟨a,j,rfl,p,g,o,n,l⟩:=h;refine Z ?_;refine⟨_,Ù.upd g,rel.freeze p o g n,?_⟩;exact⟨a,j,rfl,ż.of ā,l.same (Ù.upd g) k j⟩
def C1.share{K:KK}(rel:ē K c F H d f)(h:C1 K c d f F H n j l v):∃k,Ù F k/\ē K c k H d f/\Ē K k (.tup (n++.lst j::l)) v:=by
 refine BL λZ=>?_;obtain⟨p,a,q,i,o,rfl,z,s,y,g,x,w,u,t⟩:=h;refine Z ?_;refine⟨_,Ù.upd g,rel.freeze y x g w,?_⟩;have r:Ē K (upd F a<|.lst i) (.lst j) (.ref a):=by exact⟨a,i,rfl,ż.of ā,u.same (Ù.upd g) j i⟩
 exact⟨p,_,rfl,jH.of<|Ù.upd g _ _ z,ç.append (s.same (Ù.upd g) n q)<|ç.cons r<|t.same (Ù.upd g) l o⟩
def ò(h:PE X e (tO ∅ E mo)):PE X e (tV ∅ E<|Ñ mo):=PE.wk h<|by rintro g H Q ⟨c,F,d,rel,h⟩;exact ⟨c,F,d,rel,h.bind λr f v u j g s1 s2 q i=>by
 cases r with
 |sh p=>exact i v u j g Č Č q|ow s=>obtain⟨n,s3,k,l⟩:=Hj.share g q;exact i v n j k s3 Č l|ot s y rs=>obtain⟨n,s3,k,l⟩:=C1.share g q;exact i v n j k s3 Č l|bn t s y o=>exact i v u j g Č Č<|nZ.rep q⟩
def Ê(f:PV->PV->Option PV)(ma mb:M PV):M PV:=λg=>(ma g).bind λp c=>(mb c).bind λq d=>Ĳ.zG (f p q) d
def ô(f:PV->PV->Option RV)(ma mb:M PV):M RV:=λg=>(ma g).bind λp c=>(mb c).bind λq d=>Ĳ.zG (f p q) d
def kZ(K:KK)(r:R2)(f:PV->PV->Option PV):Prop:=∀{c:Ctx}{F H:Hp}{d:ă}{g:ć}{p q pv:PV}{v u:V}{Q:VK},ē K c F H d g->rR K c d g F H p v->rR K c d g F H q u->f p q=Α pv->
 (∀z i h,ē K c i h d g->Ù F i->Ù H h->Ē K i pv z->Q z h)->r v u H Q
def U2(K:KK)(r:R2)(f:PV->PV->Option RV):Prop:=∀{c:Ctx}{F H:Hp}{d:ă}{g:ć}{p q:PV}{pv:RV}{v u:V}{Q:VK},ē K c F H d g->rR K c d g F H p v->rR K c d g F H q u->f p q=Α pv->
 (∀z i h,ē K c i h d g->Ù F i->Ù H h->rO K c d g i h pv z->Q z h)->r v u H Q
def zH(D:kZ ∅ r f)(h:tV ∅ E (Ê f ma mb) g H Q):HQ r (tR ∅ E ma) (tR ∅ E mb) g H Q:=by
 obtain⟨c,F,i,rel,h⟩:=h;refine⟨c,F,i,rel,h.bind λp d v J H1 w a a B G=>⟨c,J,d,w,G.bind λq j u F2 H2 t y x A k=>?_⟩⟩;cases e:f p q with
 |none=>rw[e]at k;exact k.elim|some pv=>rw[e]at k;exact D t (B.mono y x) A e λz K I s s1 s2 C=>k z K I s s1 s2 C
def O5(D:U2 ∅ r f)(h:tO ∅ E (ô f ma mb) g H Q):HQ r (tR ∅ E ma) (tR ∅ E mb) g H Q:=by
 obtain⟨c,F,i,rel,h⟩:=h;refine⟨c,F,i,rel,h.bind λp d v J H1 w a a B G=>⟨c,J,d,w,G.bind λq j u F2 H2 t y x A k=>?_⟩⟩;cases e:f p q with
 |none=>rw[e]at k;exact k.elim|some pv=>rw[e]at k;exact D t (B.mono y x) A e λz K I s s1 s2 C=>k z K I s s1 s2 C
def fF{op:oX}{r:R2}{f:PV->PV->Option PV}(hf:kZ ∅ r f)(ho:aQ X (ŉ op) r)(ha:PE X a (tR ∅ E ma))(hb:PE X b (tR ∅ E mb)):PE X (.BinOp a op b pos) (tV ∅ E<|Ê f ma mb):=PE.wk (JQ ho ha hb) λx x x h=>zH hf h
def O6(i:U2 ∅ r f)(g:aQ X (ŉ d) r)(k:PE X a (tR ∅ E ma))(j:PE X b (tR ∅ E mb)):PE X (.BinOp a d b pos) (tO ∅ E<|ô f ma mb):=PE.wk (JQ g k j) λx x x h=>O5 i h
def ny{op:df}{r:R2}{f:PV->PV->Option PV}(hf:kZ ∅ r f)(ho:aQ X (Ĵ op) r)(ha:PE X a (tR ∅ E ma))(hb:PE X b (tR ∅ E mb))(hm:ik op b=Ε):PE X (.Compare a [op] [b] pos) (tV ∅ E<|Ê f ma mb):=
 PE.wk (CJ ho ha hb hm) λx x x h=>zH hf h
def O7{r:R2}{f:PV->PV->Option PV}(hf:kZ ∅ r f)(hr:Az X r)(ha:PE X a (tR ∅ E ma))(hb:PE X b (tR ∅ E mb))(hs:tF b):PE X (.Subscript a b pos) (tV ∅ E<|Ê f ma mb):=
 PE.wk (Fe hr ha hb hs) λx x x h=>zH hf h
@[simp]def ϥ(f:PV->Option PV)(ma:M PV)(d:ć):Ĳ PV:=(ma d).bind λp c=>Ĳ.zG (f p) c
def U3(K:KK)(r:V->Hp->VK->Prop)(f:PV->Option PV):Prop:=∀{c:Ctx}{F H:Hp}{d:ă}{g:ć}{p pv:PV}{v:V}{Q:VK},ē K c F H d g->rR K c d g F H p v->f p=Α pv->
 (∀z i h,ē K c i h d g->Ù F i->Ù H h->Ē K i pv z->Q z h)->r v H Q
def lx(w:U3 ∅ r f)(u:Hq X (unaryOp t) r)(x:PE X a (tR ∅ E ma)):PE X (.UnaryOp t a pos) (tV ∅ E<|ϥ f ma):=PE.wk (JR u x) λi H Q ⟨c,F,d,rel,h⟩=>
 ⟨c,F,d,rel,h.bind fun p g v F1 H1 o _ _ q j=>by
   cases e:f p with
   |none=>rw[e]at j;exact j.elim|some pv=>rw[e]at j;exact w o q e λz A y n s1 s2 s=>j z A y n s1 s2 s⟩
noncomputable def LU:PV->Option Bool
 |.bl b=>Α b|.int i=>Α<|i !=0|.non=>Α Ε|.str y=>if y.length<=sizeLine then Α ((y.length:Int) !=0)else Β|.lst d=>Α<|!d.isEmpty|.tup d=>Α<|!d.isEmpty|_=>Β
@[simp]def dU(m:M PV)(d:ć):Ĳ Bool:=(m d).bind λp c=>Ĳ.zG (LU p) c
def JY{K:KK}(s:Ù F H)(r:rR K c σ ρ F H p v)(h:LU p=Α k):Ll K.K v H k:=by
 cases p with
 |bl b=>cases r.bl;cases h;rfl|int i=>cases r.int;cases h;rfl|non=>cases r.non;cases h;rfl|str y=>
  cases r.str;have o:(if y.length<=sizeLine then Α ((y.length:Int) !=0)else Β)=Α k:=h;split at o
  ·rename_i t;cases o;exact⟨t,rfl⟩
  ·cases o
 |lst g=>
  obtain⟨a,f,rfl,l,j⟩:=r.lst s;cases h;have e:g.isEmpty=f.isEmpty:=by cases j.pr<;>rfl
  exact .inl ⟨f,l,by rw[e]⟩
 |tup g=>
  obtain⟨a,f,rfl,l,j⟩:=r.tup s;cases h;have e:g.isEmpty=f.isEmpty:=by cases j.pr<;>rfl
  exact .inr (.inl ⟨f,l,by rw[e]⟩)
 |ins C q g=>cases h|xc C q g=>cases h|ty n=>cases h|cls C=>cases h|FE _ _=>cases h
def cR(r:PE X a (tR ∅ E ma))(he:autoParam (∀g,isTrue a X.env g=(do let v<-g;fU a.pos;cI [v] (truthy v))) Ν):PT X a (tB ∅ E<|dU ma):=PT.wk (zt r he) λg H Q ⟨c,F,d,rel,h⟩=>
 ⟨c,F,d,rel,h.bind fun p f v t s n _ _ q l=>by
   cases e:LU p with
   |none=>rw[e]at l;exact l.elim|some k=>rw[e]at l;exact⟨k,JY n.sub q e,l k t s n Č Č rfl⟩⟩
@[simp]def ϐ(m:M PV)(d:ć):Ĳ Bool:=(m d).bind fun p c=>match p with
  |.bl b=>.ok b c|_=>.bad
def JZ(h:tB ∅ E (ϐ m) d H Q):M2.Fi (tV ∅ E m) d H Q:=by
 obtain⟨c,F,f,rel,h⟩:=h;refine⟨c,F,f,rel,h.bind λp g v q o l x x n j=>?_⟩;cases p with
 |bl b=>
  have e:=by have i:=n;exact i
  subst e;exact j b q o l Č Č rfl
 |_=>exact j.elim
def Ϝ{op:df}{r:R2}{f:PV->PV->Option PV}(hf:kZ ∅ r f)(ho:aQ X (Ĵ op) r)(ha:PE X a (tR ∅ E ma))(hb:PE X b (tR ∅ E mb))(hm:ik op b=Ε):PT X (.Compare a [op] [b] pos) (tB ∅ E<|ϐ<|Ê f ma mb):=
 PT.wk (Fj ho ha hb hm) fun g H Q h=>by obtain⟨c,F,d,rel,h⟩:=JZ h;exact zH hf ⟨c,F,d,rel,h⟩
@[simp]def n_(f g:PV→PV→Option PV)(ma mb mc:M PV)(j:ć):Ĳ PV:=(ma j).bind fun p d=>(mb d).bind fun q h=>(Ĳ.zG (f p q) h).bind fun z c=>match z with
  |.bl Δ=>(mc c).bind λw i=>Ĳ.zG (g q w) i
  |.bl Ε=>.ok (.bl Ε) c|_=>.bad
def J_(hf:kZ ∅ r f)(hg:kZ ∅ Z g)(h:tV ∅ E (n_ f g ma mb mc) j H Q):M2.AY r Z (tR ∅ E ma) (tR ∅ E mb) (tR ∅ E mc) j H Q:=by
 obtain⟨c,F,l,rel,h⟩:=h;refine⟨c,F,l,rel,h.bind λp d v F1 H1 N a a Y h1=>⟨c,F1,d,N,h1.bind λq i u F2 H2 L U R G o=>?_⟩⟩;cases e:f p q with
 |none=>rw[e]at o;exact o.elim|some pv=>
  rw[e]at o;refine hf L (Y.mono U R) G e λz A D t s1 s2 s=>?_;cases pv with
  |bl k=>
   have ez:=by exact s
   subst ez;cases k with
   |false=>exact o _ A D t s1 s2 s|true=>
    refine⟨c,A,i,t,ϰ.bind (ϰ.mono o s1 s2) λw n x F4 H4 O s3 s4 W y=>?_⟩;cases C:g q w with
    |none=>rw[C]at y;exact y.elim|some pv'=>rw[C]at y;exact hg O (G.mono (s1.trans s3)<|s2.trans s4) W C λz A D t s1 s2 s=>y z A D t s1 s2 s
  |_=>exact o.elim
def pP{op BJ:df}{r r':R2}{f g:PV->PV->Option PV}{c:Ç}(hf:kZ ∅ r f)(hg:kZ ∅ r' g)(ho:aQ X (Ĵ op) r)(BE:aQ X (Ĵ BJ) r')(ha:PE X a (tR ∅ E ma))(hb:PE X b (tR ∅ E mb))(hc:PE X c (tR ∅ E mc))
 (hm:autoParam (lastMarks [op,BJ] [b,c]=Ε) Υ):PE X (.Compare a [op,BJ] [b,c] pos) (tV ∅ E<|n_ f g ma mb mc):=PE.wk (Fk ho BE ha hb hc hm) λx x x h=>J_ hf hg h
def FL{op BJ:df}{r r':R2}{f g:PV->PV->Option PV}{c:Ç}(hf:kZ ∅ r f)(hg:kZ ∅ r' g)(ho:aQ X (Ĵ op) r)(BE:aQ X (Ĵ BJ) r')(ha:PE X a (tR ∅ E ma))(hb:PE X b (tR ∅ E mb))(hc:PE X c (tR ∅ E mc))
 (hm:autoParam (lastMarks [op,BJ] [b,c]=Ε) Υ):PT X (.Compare a [op,BJ] [b,c] pos) (tB ∅ E<|ϐ<|n_ f g ma mb mc):=PT.wk (Fm ho BE ha hb hc hm) λi H Q h=>by
 obtain⟨c,F,d,rel,h⟩:=JZ h;exact J_ hf hg ⟨c,F,d,rel,h⟩
@[simp]def iH(m:M Bool)(d:ć):Ĳ Bool:=(m d).bind λb c=>.ok (!b) c
def nA{m:M Bool}(h:PT X a (tB ∅ E m)):PT X (.UnaryOp .Not a pos) (tB ∅ E<|iH m):=PT.wk (EX h) λg H Q ⟨c,F,d,rel,h⟩=>
 ⟨c,F,d,rel,h.bind λp f v p o k x x l n=>n _ p o k Č Č (by have e:=l;rw[e];rfl)⟩
@[simp]def ji(ma mb:M Bool)(d:ć):Ĳ Bool:=(ma d).bind λb c=>if b=Δ then mb c else .ok Ε c
@[simp]def qI(ma mb:M Bool)(d:ć):Ĳ Bool:=(ma d).bind λb c=>if b=Δ then .ok Δ c else mb c
variable{ta tb:M Bool}{rest:List Ç}
def kq(h:PT X a (tB ∅ E ta)):PW X (.BoolOp .And [a] pos) (tB ∅ E ta):=CC h
def pQ(h:PT X a (tB ∅ E ta)):PW X (.BoolOp .Or [a] pos) (tB ∅ E ta):=EV h
def w_and(o:PT X a (tB ∅ E ta))(n:PW X (.BoolOp .And (b::rest) pos) (tB ∅ E tb)):PW X (.BoolOp .And (a::b::rest) pos) (tB ∅ E<|ji ta tb):=PW.wk (EW o n) λg H Q ⟨c,F,f,rel,h⟩=>
 ⟨c,F,f,rel,h.bind fun p d v j q g _ _ l i=>by
   have e:=l;subst e;cases p with
   |true=>exact⟨c,j,d,g,i⟩|false=>exact i Ε j q g Č Č rfl⟩
def w_or(o:PT X a (tB ∅ E ta))(n:PW X (.BoolOp .Or (b::rest) pos) (tB ∅ E tb)):PW X (.BoolOp .Or (a::b::rest) pos) (tB ∅ E<|qI ta tb):=PW.wk (JP o n) λg H Q ⟨c,F,f,rel,h⟩=>
 ⟨c,F,f,rel,h.bind fun p d v j q g _ _ l i=>by
   have e:=l;subst e;cases p with
   |false=>exact⟨c,j,d,g,i⟩|true=>exact i Δ j q g Č Č rfl⟩
def gf(ma mb:M PV):M PV:=λd=>(ma d).bind λp c=>match p with
 |.bl Δ=>mb c|.bl Ε=>.ok (.bl Ε) c|_=>.bad
def R7(ma mb:M PV):M PV:=λd=>(ma d).bind λp c=>match p with
 |.bl Δ=>.ok (.bl Δ) c|.bl Ε=>mb c|_=>.bad
@[simp]def O8(ma:M PV)(d:ć):Ĳ PV:=(ma d).bind fun p c=>match p with
  |.bl b=>.ok (.bl<|!b) c|_=>.bad
def qJ{K:KK}{b:Bool}(h:Ē K F (.bl b) v):v=.bl b:=by unfold Ē at h;exact h
def iI{c}(h:PE X a (tV ∅ E ma)):PE X (.BoolOp c [a] pos) (tV ∅ E ma):=K6 h
def v_and(q:PE X a (tV ∅ E ma))(o:PE X (.BoolOp .And (b::rest) pos) (tV ∅ E mb)):PE X (.BoolOp .And (a::b::rest) pos) (tV ∅ E<|gf ma mb):=PE.wk (Fn q o) λg H Q ⟨c,F,f,rel,h⟩=>
 ⟨c,F,f,rel,h.bind fun p d v l r i _ _ j g=>by
   cases p with
   |bl k=>
    cases qJ j;cases k with
    |true=>exact⟨c,l,d,i,g⟩|false=>exact g _ l r i Č Č j
   |_=>exact g.elim⟩
def v_or(q:PE X a (tV ∅ E ma))(o:PE X (.BoolOp .Or (b::rest) pos) (tV ∅ E mb)):PE X (.BoolOp .Or (a::b::rest) pos) (tV ∅ E<|R7 ma mb):=PE.wk (OZ q o) λg H Q ⟨c,F,f,rel,h⟩=>
 ⟨c,F,f,rel,h.bind fun p d v l r i _ _ j g=>by
   cases p with
   |bl k=>
    cases qJ j;cases k with
    |false=>exact⟨c,l,d,i,g⟩|true=>exact g _ l r i Č Č j
   |_=>exact g.elim⟩
def v_not(n:PE X a (tV ∅ E ma)):PE X (.UnaryOp .Not a pos) (tV ∅ E<|O8 ma):=PE.wk (Lz n) λg H Q ⟨c,F,d,rel,h⟩=>
 ⟨c,F,d,rel,h.bind fun p f v q o j _ _ l g=>by
   cases p with
   |bl k=>cases qJ l;exact g _ q o j Č Č Ē.bl|_=>exact g.elim⟩
def au{f:Type}(t:M Bool)(ma mb:M f):M f:=λd=>(t d).bind λb c=>if b=Δ then ma c else mb c
def FM{g:Type}{R:RR g V}{ma mb:M g}(o:PT X c' (tB ∅ E ta))(r:PE X a (tG ∅ E R ma))(q:PE X b (tG ∅ E R mb)):PE X (.IfExp c' a b pos) (tG ∅ E R<|au ta ma mb):=PE.wk (EY o r q) λg H Q ⟨c,F,f,rel,h⟩=>
 ⟨c,F,f,rel,h.bind fun p d v k H1 i _ _ n j=>by
   have e:=n;subst e;cases p with
   |true=>exact⟨c,k,d,i,j⟩|false=>exact⟨c,k,d,i,j⟩⟩
@[simp]def á(c:ć):Ĳ (List PV):=.ok [] c
@[simp]def É(ma:M PV)(mr:M (List PV))(f:ć):Ĳ (List PV):=(ma f).bind λp c=>(mr c).bind λps d=>.ok (p::ps) d
variable{mr:M (List PV)}
def î:PA X [] (tL ∅ E á):=PA.wk aZ λd H Q ⟨c,F,f,rel,h⟩=>h [] F H rel Č Č ç.nil
def Í(w:PE X e (tV ∅ E ma))(u:PA X es (tL ∅ E mr))(t:autoParam (Î (e::es) X.env=(Ε,eval e X.env)::Î es X.env) Θ):PA X (e::es) (tL ∅ E<|É ma mr):=PA.wk (ŧ w u t) λi H Q ⟨c,F,f,rel,h⟩=>
 ⟨c,F,f,rel,h.bind λp d v B H1 o a a s y=>⟨c,B,d,o,y.bind λps g vs A z n q sH r x=>x _ A z n Č Č<|ç.cons (Ē.same q p v s) r⟩⟩
def ê:PA X [] (FK ∅ E á):=PA.wk aZ λd H Q ⟨c,F,f,rel,h⟩=>h [] F H rel Č Č .nil
def Ý(w:PE X e (tR ∅ E ma))(u:PA X es (FK ∅ E mr))(t:autoParam (Î (e::es) X.env=(Ε,eval e X.env)::Î es X.env) Θ):PA X (e::es) (FK ∅ E<|É ma mr):=PA.wk (ŧ w u t) λi H Q ⟨c,F,f,rel,h⟩=>
 ⟨c,F,f,rel,h.bind λp d v B H1 o a a s y=>⟨c,B,d,o,y.bind λps g vs A z n q p r x=>x _ A z n Č Č<|.cons (rR.mono s q p) r⟩⟩
@[simp]def Ö(c:ć):Ĳ (List Slot):=.ok [] c
@[simp]def Ü(ma:M PV)(mr:M (List Slot))(f:ć):Ĳ (List Slot):=(ma f).bind λp c=>(mr c).bind λas d=>.ok (.sh p::as) d
noncomputable def ϲ:Slot->Option Slot
 |.sh p=>Α<|.sh p|.ow c=>Α<|.bw c|.bw c=>Α<|.bw c|.rc C (n::f) c=>Α<|.lr C (n::f) c|.lr C f c=>Α<|.lr C f c|.rd C (n::f) c=>Α<|.lr C (n::f) c|.bn g d=>Α<|.sh<|.lst (.lst g::d)|.dw h=>Α<|.dw h|_=>Β
@[simp]def Ì(i:Nat)(mr:M (List Slot))(d:ć):Ĳ (List Slot):=match(d[i]?).bind ϲ with
  |none=>.bad|some _=>(mr d).bind λas c=>match(c[i]?).bind ϲ with
   |some s=>.ok (s::as) c|none=>.bad
variable{ms:M (List Slot)}
def Ò:PA X [] (tA ∅ E Ö):=PA.wk aZ λd H Q ⟨c,F,f,rel,h⟩=>h [] F H rel Č Č .nil
def Õ(w:PE X e (tV ∅ E ma))(u:PA X es (tA ∅ E ms))(t:autoParam (Î (e::es) X.env=(Ε,eval e X.env)::Î es X.env) Θ):PA X (e::es) (tA ∅ E<|Ü ma ms):=PA.wk (ŧ w u t) λi H Q ⟨c,F,f,rel,h⟩=>
 ⟨c,F,f,rel,h.bind λp d v B H1 o a a s y=>⟨c,B,d,o,y.bind λas g vs A z n q sH r x=>x _ A z n Č Č<|.cons (show du _ _ _ (.sh p) v from Ē.same q p v s) r⟩⟩
def mZ{K:KK}{i:Nat}(rel:ē K c F H g f)(h:(f[i]?).bind ϲ=Α s):∃v,g[i]?=Α (Α v)/\du K F H s v:=by
 cases e:f[i]?with
 |none=>rw[e]at h;cases h|some G=>
  rw[e]at h;have l:=h;cases G with
  |sh p=>cases l;obtain⟨v,k,j⟩:=rel.slot i _ e;exact⟨v,Ŀ k,j⟩|ow t=>cases l;obtain⟨a,r,k,j,o,z,u,_⟩:=rel.ow e;exact⟨.ref a,k,a,r,rfl,j,o,u⟩|bw t=>cases l;obtain⟨a,r,k,j,o⟩:=rel.slot i _ e;exact⟨.ref a,Ŀ k,a,r,rfl,(rel.lent a _ j).1,(rel.lent a _ j).2,o⟩|no=>cases l|rc C q t=>
   cases q with
   |nil=>cases l|cons n q=>cases l;obtain⟨a,w,fs,k,j,o,z,u,x⟩:=rel.slot i _ e;exact⟨.ref a,Ŀ k,a,w,fs,rfl,j,o,u,x.1,nofun⟩
  |lr C q t=>cases l;obtain⟨a,w,fs,k,j,o⟩:=rel.slot i _ e;exact⟨.ref a,Ŀ k,a,w,fs,rfl,(rel.lent a _ j).1,(rel.lent a _ j).2,o⟩|ot t I rs=>cases l|ol L=>cases l|fr L=>cases l|rd C q t=>
   cases q with
   |nil=>cases l|cons n q=>cases l;obtain⟨a,w,fs,k,j,o,z,u,x⟩:=rel.slot i _ e;exact⟨.ref a,Ŀ k,a,w,fs,rfl,j,o,u,x.1,nofun⟩
  |pin=>cases l|bn I y=>cases l;obtain⟨v,k,j⟩:=rel.slot i _ e;exact⟨v,Ŀ k,j.rep⟩|dw gY=>cases l;obtain⟨a,D,k,j,o⟩:=rel.slot i _ e;exact⟨.ref a,Ŀ k,a,D,rfl,(rel.lent a _ j).1,(rel.lent a _ j).2,iG o<|by rintro t d _ ⟨B,b,r,R,Q,O,N⟩;exact ⟨B,b,r,R,Q,rel.lent b _ O,N⟩⟩
def Iw(i:Nat){x:Str}{k:Pos}(z:autoParam (EK X i x=Δ) Ζ)(y:PA X es (tA ∅ E ms))(w:autoParam (Î (.Name x k::es) X.env=(Ε,eval (.Name x k) X.env)::Î es X.env) Θ):PA X (.Name x k::es) (tA ∅ E<|Ì i ms):=
 PA.wk (ŧ (pE z) y w)<|by
   rintro g H Q ⟨c,F,f,rel,h⟩;unfold Ì at h;cases e:(f[i]?).bind ϲ with
   |none=>rw[e]at h;exact h.elim|some s0=>
    rw[e]at h;obtain⟨v,p,_⟩:=mZ rel e;refine⟨v,p,c,F,f,rel,ϰ.bind h λas d vs C B o sF sH t j=>?_⟩;cases l:(d[i]?).bind ϲ with
    |none=>simp only[l]at j;exact j.elim|some s=>simp only[l]at j;obtain⟨v',r,u⟩:=mZ o l;rw[p]at r;cases r;exact j _ C B o Č Č<|.cons u t
@[simp]def Ϧ(mr:M (List PV))(d:ć):Ĳ PV:=(mr d).bind λps c=>if ps.length<=16777216then .ok (.tup ps) c else .bad
@[simp]def ϧ(mr:M (List PV))(d:ć):Ĳ RV:=(mr d).bind λps c=>if ps.length<=16777216then .ok (.ow ps) c else .bad
def ġ:sizeLine=16777216:=cH
def ŝ{x1}(h:PA X es (tL ∅ E mr)):PE X (.Tuple es x1 pos) (tV ∅ E<|Ϧ mr):=PE.wk (Fb h) λg H Q ⟨c,F,d,rel,h⟩=>
 ⟨c,F,d,rel,h.bind fun q f k F1 H1 i _ _ l j=>by
   split at j
   ·rename_i r;refine⟨by rw[<-ç.length l,ġ];exact r,λp g=>j _ _ _ (i.alloc g) (Ù.upd<|i.sub.free g) (Ù.upd g) ?_⟩;exact⟨p,k,rfl,jH.of ā,ç.same (Ù.upd<|i.sub.free g) q k l⟩
   ·exact j.elim⟩
def gH{K:KK}{a:À}(rel:ē K c F H d f)(g:H a=Β)(r:ç K F h vs):ē K c F (upd H a<|.lst vs) d f/\Hj K c d f F (upd H a<|.lst vs) h (.ref a):=
 ⟨rel.made g,a,vs,rfl,ā,rel.sub.free g,rel.base.free g,rel.fresh g,r⟩
def Ŏ(h:PA X es (tL ∅ E mr)):PE X (.List es pos) (tO ∅ E<|ϧ mr):=PE.wk (AV h) λg H Q ⟨c,F,d,rel,h⟩=>
 ⟨c,F,d,rel,h.bind fun ps f vs F1 H1 n _ _ i g=>by
   split at g
   ·rename_i q;refine⟨by rw[<-ç.length i,ġ];exact q,λp j=>?_⟩;obtain⟨p,o⟩:=gH n j i;exact g _ _ _ p Č (Ù.upd j) o
   ·exact g.elim⟩
@[simp]def a_(f:List PV->Option PV)(mr:M (List PV))(d:ć):Ĳ PV:=(mr d).bind λps c=>Ĳ.zG (f ps) c
@[simp]def uk(f:List PV->Option RV)(mr:M (List PV))(d:ć):Ĳ RV:=(mr d).bind λps c=>Ĳ.zG (f ps) c
def eZ(K:KK)(r:List V->Hp->VK->Prop)(f:List PV->Option PV):Prop:=∀{c:Ctx}{F H:Hp}{d:ă}{g:ć}{k:List PV}{pv:PV}{j:List V}{Q:VK},ē K c F H d g->LS K c d g F H k j->f k=Α pv->
 (∀z i h,ē K c i h d g->Ù F i->Ù H h->Ē K i pv z->Q z h)->r j H Q
def FN(K:KK)(r:List V->Hp->VK->Prop)(f:List PV->Option RV):Prop:=∀{c:Ctx}{F H:Hp}{d:ă}{g:ć}{k:List PV}{pv:RV}{j:List V}{Q:VK},ē K c F H d g->LS K c d g F H k j->f k=Α pv->
 (∀z i h,ē K c i h d g->Ù F i->Ù H h->rO K c d g i h pv z->Q z h)->r j H Q
def O9(t:eZ ∅ r f)(h:tV ∅ E (a_ f mr) d H Q):R3 r (FK ∅ E mr) d H Q:=by
 obtain⟨c,F,g,rel,h⟩:=h;refine⟨c,F,g,rel,h.bind λp i v F1 H1 o x x q j=>?_⟩;cases e:f p with
 |none=>rw[e]at j;exact j.elim|some pv=>rw[e]at j;exact t o q e λz w u n s1 s2 s=>j z w u n s1 s2 s
def U4(t:FN ∅ r f)(h:tO ∅ E (uk f mr) d H Q):R3 r (FK ∅ E mr) d H Q:=by
 obtain⟨c,F,g,rel,h⟩:=h;refine⟨c,F,g,rel,h.bind λp i v F1 H1 o x x q j=>?_⟩;cases e:f p with
 |none=>rw[e]at j;exact j.elim|some pv=>rw[e]at j;exact t o q e λz w u n s1 s2 s=>j z w u n s1 s2 s
end
open M3
@[simp]def cL(a:ć):Ĳ Fl:=.ok .nx a
def ä(a b:M Fl):M Fl:=λd=>(a d).bind λf c=>match f with
 |.nx=>b c|f=>.ok f c
@[simp]def Ą(i:Nat)(m:M RV)(b:ć):Ĳ Fl:=(m b).bind λr a=>.ok .nx<|a.set i r.slot
@[simp]def Ā(m:M RV)(b:ć):Ĳ Fl:=(m b).bind λr a=>.ok (.rt r) a
@[simp]def zI(m:M PV)(b:ć):Ĳ Fl:=(m b).bind λx a=>.ok .nx a
section
variable{X:Cx}{cm:String->À}{E:ă->XK}{a b e:Ç}{st:æ}{rest:List æ}{es:List Ç}{pos:Pos}{m1 m2:M Fl}{mo:M RV}{mv:M PV}
def Ă:b_ X [] (tS ∅ E cL):=b_.wk CD λD d H ⟨c,F,f,rel,h⟩=>h d F H rel<|Ù.refl F
def ø(h:PS X st (tS ∅ E m1)):b_ X [st] (tS ∅ E m1):=kh h
def Ix(h:ϑ ∅ E c F D (r.bind λf d=>match f with|.nx=>m2 d|f=>.ok f d)):ϑ ∅ E c F {D with nx:=tS ∅ E m2 D} r:=by
 cases r with
 |ok f d=>
  cases f with
  |nx=>exact λg n H' j s=>⟨c,n,d,j,ϑ.mono h s⟩
  |bk=>exact h|ct=>exact h|rt v=>exact h
 |exc x d=>exact h|bad=>exact h
def Ø(h1:PS X st (tS ∅ E m1))(h2:b_ X rest (tS ∅ E m2)):b_ X (st::rest) (tS ∅ E<|ä m1 m2):=b_.wk (gF h1 h2)<|by rintro D f H ⟨c,F,d,rel,h⟩;exact ⟨c,F,d,rel,Ix h⟩
def ē.LW{K:KK}(r:ē K c F H d f)(q:nZ K c.B F t h j g v):ē K c F H (d.set i<|some v) (f.set i (RV.bn t h j g).slot):=by
 cases t with
 |true=>exact r.put rfl ⟨v,rfl,nZ.rep q⟩|false=>
  have e:h=[]:=by
   obtain⟨_,_,_,_,_,_,_,_,_,_,_,z⟩:=q;rcases z with⟨_,z,_⟩|⟨z,_⟩
   ·exact z
   ·cases z
  subst e;exact r.put rfl ⟨v,rfl,q⟩
def Pa{i:Nat}{x:Str}{L:Pos}(hN:X.N.Nodup)(Y:X.N[i]?=Α x)(U:Loc X.env.scope x)(he:PE X e (tO ∅ E mo))(W:autoParam (ť e (Α<|.Name x L) pos.line X.env=pure Ε) Ζ)(Z:autoParam (X.fn x=Δ\/X.env.scope.names.lookup x=Α .local) Μ):
 PS X (.Assign [.Name x L] e pos) (tS ∅ E<|Ą i mo):=PS.wk (ub hN Y U he W Z)<|by rintro D g H ⟨c,F,d,rel,h⟩;exact ⟨c,F,d,rel,ϑ.bind h λr f v m l j s1 q k=>by
 cases r with
 |sh p=>exact k _ m l (j.put rfl ⟨v,rfl,q⟩) Č|ow K=>obtain⟨a,o,rfl,A,y,w,u,s⟩:=q;exact k _ m l (j.A5 ⟨a,o,rfl,A,y,w,s⟩ λb z=>V.ref.inj z▸u) Č
 |ot K Q rs=>obtain⟨p,a,C,o,B,rfl,I,G,A,y,w,u,s,R⟩:=q;exact k _ m l (j.A5 ⟨p,a,C,o,B,rfl,I,G,A,y,w,s,R⟩ λb z=>pM z ⟨p,C,B,rfl,I,G.length.symm⟩▸u) Č
 |bn t K Q D=>exact k _ m l (j.LW q) Č⟩
def Pb(he:PE X e (tO ∅ E mo)):PS X (.Return (Α e) pos) (tS ∅ E<|Ā mo):=PS.wk (EZ he)<|by rintro D d H ⟨c,F,f,rel,h⟩;exact ⟨c,F,f,rel,ϑ.bind h λr g v n m k s1 q l=>l v d n m k Č q⟩
def yq(he:PE X e (tV ∅ E mv))(m:autoParam (ť e Β pos.line X.env=pure Ε) Ζ):PS X (.Expr e pos) (tS ∅ E<|zI mv):=PS.wk (Ŧ he m)<|by rintro D d H ⟨c,F,f,rel,h⟩;exact ⟨c,F,f,rel,ϑ.bind h λr g v p o l s1 q n=>n d p o l Č⟩
def Ŗ(o:PT X a (tB ∅ E t))(s:b_ X n (tS ∅ E m1))(p:b_ X u (tS ∅ E m2)):PS X (.If a n u pos) (tS ∅ E<|au t m1 m2):=PS.wk (CG o s p)<|by rintro D g H ⟨c,F,f,rel,h⟩;exact ⟨c,F,f,rel,ϑ.bind h λr d v k H1 i s1 q j=>by
 have e:=q;subst e;cases r with
 |true=>exact⟨c,k,d,i,j⟩|false=>exact⟨c,k,d,i,j⟩⟩
noncomputable def dA{d:Type}:M d:=λx=>.bad
def Ļ:PS X st (tS ∅ E dA):=PS.wk E_ λD d H ⟨c,F,f,rel,h⟩=>h
abbrev Tg:=PV->ć->Option ć
abbrev EM:=List PV->ć->Option ć
def LX(K:KK)(c:Ctx)(F H:Hp)(Q:ă->Hp->Prop):Option ć->Prop
 |some f=>∀d,ē K c F H d f->Q d H|none=>False
def tT(K:KK)(g:Tg):TG:=λv f H Q=>∃c F d p,ē K c F H f d/\Ē K F p v/\LX K c F H Q (g p d)
def Pd(K:KK)(g:EM):E0:=λv f H Q=>∃c F d p,ē K c F H f d/\ç K F p v/\LX K c F H Q (g p d)
noncomputable def gN(i:Nat):Tg:=λp c=>Α<|c.set i<|.sh p
noncomputable def Ş:EM:=λps d=>match ps with
 |[]=>Α d|_=>Β
noncomputable def ë(g:Tg)(j:EM):EM:=λps i=>match ps with
 |p::ps=>(g p i).bind λρ1=>j ps ρ1
 |[]=>Β
noncomputable def gT(n:Nat)(gs:EM):Tg:=λp ρ=>match p with
 |.tup ps=>if ps.length=n then gs ps ρ else Β|_=>Β
def PG.U5(h:PG X f t)(i:∀v c H Q,t' v c H Q->t v c H Q):PG X f t':=λÅ s c H v u Q I r q=>h Å s c H v u Q I r<|i v c H Q q
def Ay.wk(h:Ay X f t)(i:∀v c H Q,t' v c H Q->t v c H Q):Ay X f t':=λÅ s c H v u Q I r q=>h Å s c H v u Q I r<|i v c H Q q
def FO{i:Nat}{x:Str}(n:X.N.Nodup)(l:X.N[i]?=Α x)(k:Loc X.env.scope x)(m:autoParam (X.fn x=Δ\/X.env.scope.names.lookup x=Α .local) Μ):PG X (.Name x pos) (tT ∅<|gN i):=
 PG.U5 (mW n l k m)<|by rintro v d H Q ⟨c,F,f,p,rel,j,h⟩;exact h _<|rel.put rfl ⟨v,rfl,j⟩
def dB:Ay X [] (Pd ∅ Ş):=Ay.wk xW<|by
 rintro v d H Q ⟨c,F,f,p,rel,g,h⟩;cases p with
 |nil=>
  have e:=by have:=g;exact this
  exact⟨e,h d rel⟩
 |cons _ _=>exact h.elim
def ě{es:List Ç}{g:Tg}{gs:EM}(h1:PG X e (tT ∅ g))(h2:Ay X es (Pd ∅ gs))(hs:autoParam ((ϫ (e::es) X.env).map (·.2)=assign e X.env::(ϫ es X.env).map (·.2)) Η):Ay X (e::es) (Pd ∅<|ë g gs):=
 Ay.wk (jd h1 h2 hs)<|by
  rintro v j H Q ⟨c,F,f,p,rel,rp,h⟩;cases p with
  |nil=>exact h.elim|cons p ps=>
   obtain⟨x,r,rfl,r1,r2⟩:=rp;refine⟨x,r,rfl,c,F,f,p,rel,r1,?_⟩;unfold ë at h;dsimp only at h;cases eg:g p f with
   |none=>rw[eg]at h;exact h.elim|some d=>rw[eg]at h;exact λi ű=>⟨c,F,d,ps,ű,r2,h⟩
def kP{es:List Ç}{k:Nat}{gs:EM}{n:Nat}(hc:X.calm=Δ)(h:Ay X es (Pd ∅ gs))(hn:autoParam ((ϫ es X.env).length=n) Η)(fJ:autoParam ((ϫ es X.env).findIdx? (·.1)=Β) Η):PG X (.Tuple es k pos) (tT ∅<|gT n gs):=
 PG.U5 (xX hc h hn fJ)<|by
   rintro v f H Q ⟨c,F,d,p,rel,rp,h⟩;cases p with
   |tup ps=>
    obtain⟨a,xs,h1,h2,h3⟩:=rp;unfold gT at h;dsimp only at h;split at h
    ·rename_i hl;exact⟨a,xs,h1,Ù.tup rel.sub h2,by rw[<-h3.length];exact hl,c,F,d,ps,rel,h3,h⟩
    ·exact h.elim
   |_=>exact h.elim
@[simp]def LY(g:Tg)(m:M PV)(f:ć):Ĳ Fl:=(m f).bind fun p c=>match g p c with
  |some d=>.ok .nx d|none=>.bad
def J0{n:Ç}{g:Tg}(he:PE X e (tV ∅ E mv))(D:PG X n (tT ∅ g))(C:autoParam (swapsWithSole [n] e pos.line X.env=pure Ε) Η)(B:autoParam (swappedStores [n] e X.env=pure Β) Η)
 (o:autoParam ((ϫ [n] X.env).map (·.2)=[assign n X.env]) Η):PS X (.Assign [n] e pos) (tS ∅ E<|LY g mv):=PS.wk (K8 he D C B o) λD k H ⟨c,F,i,rel,h⟩=>⟨c,F,i,rel,ϑ.bind h λr d v u G A s1 q o=>by
 refine⟨c,u,d,r,A,q,?_⟩;cases t:g r d with
 |none=>rw[t]at o;exact o.elim|some j=>rw[t]at o;exact λf z=>o f u G z Č⟩
@[simp]def nr(i:Nat)(m:M PV)(d:ć):Ĳ Fl:=match d[i]?with
  |some (.ow _)=>(m d).bind λp c=>match c[i]?with
   |some (.ow f)=>if f.length<16777216then .ok .nx (c.set i<|.ow<|f++[p])else .bad|_=>.bad
  |_=>.bad
set_option tactic.hygienic true in
def bN(h:tS ∅ E (nr i mv) D g H):t_ (N8 X.K "list" pH (dR i) (tL ∅ E<|É mv á)) D g H:=by
 obtain⟨c,F,j,rel,h⟩:=h;unfold nr at h;cases n:j[i]?with
 |none=>rw[n]at h;exact h.elim|some N=>
  rw[n]at h;cases N with
  |ow R=>
   refine BL λZ=>?_;obtain⟨a,L,k,B,z3,z4,z5,z6⟩:=rel.ow n;refine Z ?_;refine⟨.ref a,k,.inl ⟨rfl,_,ż.of B⟩,c,F,j,rel,?_⟩;unfold É;cases l:mv j with
   |bad=>rw[l]at h;exact h|exc x f=>rw[l]at h;exact λC d F' H' A s1 q=>h g C d F' H' A s1 q
   |ok p f=>
    rw[l]at h;intro us F1 H1 o s1 s2 Q;have U:=Q;cases U.pr with
    |cons O t=>
     rename_i v gZ;cases t;cases m:f[i]?with
     |none=>simp only[Ĳ.bM,m]at h;exact h.elim|some Hk=>
      simp only[Ĳ.bM,m]at h;cases Hk with
      |ow ps=>
       obtain⟨a2,u,s,K,J,I,r,G⟩:=o.ow m;rw[k]at s;cases s;dsimp only at h;split at h
       ·rename_i W;refine⟨a,u,v,rfl,rfl,K,by rw[<-r.length,ġ];exact W,h g F1 _ (o.write G k ⟨a,u++[v],rfl,ā,J,I,ç.append r<|ç.cons O ç.nil⟩ λy z=>(V.ref.inj z).symm) s1⟩
       ·exact h.elim
      |_=>exact h.elim
  |_=>exact h.elim
noncomputable def Į(mc:M Bool)(mb:M Fl):Nat->ć->Ĳ Fl
 |0,_=>.bad|n+1,h=>(mc h).bind λb d=>if b=Δ then(mb d).bind λf c=>match f with
  |.nx=>Į mc mb n c|.ct=>Į mc mb n c|.bk=>.ok .nx c|.rt r=>.ok (.rt r) c else .ok .nx d
theorem cM(n:Nat)(g:ć):Į mc mb (n+1) g=(mc g).bind λb d=>if b=Δ then(mb d).bind λf c=>match f with
 |.nx=>Į mc mb n c|.ct=>Į mc mb n c|.bk=>.ok .nx c|.rt r=>.ok (.rt r) c else .ok .nx d:=rfl
open Classical in
noncomputable def aK(mc:M Bool)(mb:M Fl):M Fl:=λρ=>if h:∃n,Į mc mb n ρ≠.bad then Į mc mb (BK h) ρ else .bad
theorem ly:∀(n:Nat) (d:ć),Į mc mb n d≠.bad->Į mc mb (n+1) d=Į mc mb n d
 |0,d,h=>absurd rfl h|n+1,d,h=>by
  rw[cM]at h;rw[cM<|n+1,cM n];cases e:mc d with
  |bad=>rfl|exc x g=>rfl|ok b g=>
   rw[e]at h;dsimp only[Ĳ.bM]at h⊢;cases b with
   |false=>rfl|true=>
    cases l:mb g with
    |bad=>rfl|exc x c=>rfl|ok f c=>
     rw[l]at h;cases f with
     |nx=>exact ly n c h|ct=>exact ly n c h|bk=>rfl|rt r=>rfl
def vS(h:Į mc mb n c≠.bad)(f:n<=m):Į mc mb m c=Į mc mb n c:=by
 induction f with
 |refl=>rfl|step _ d=>rw[ly _ _ (by rw[d];exact h),d]
def bO(n:Nat)(h:Į mc mb n c≠.bad):aK mc mb c=Į mc mb n c:=by
 unfold aK;have i:∃n,Į mc mb n c≠.bad:=⟨n,h⟩;rw[dif_pos i];have j:=Classical.choose_spec i;rcases Nat.le_total n (BK i)with d|d
 ·exact vS h d
 ·exact(vS j d).symm
theorem cS:aK mc mb d=(mc d).bind λb g=>if b=Δ then(mb g).bind λf c=>match f with
 |.nx=>aK mc mb c|.ct=>aK mc mb c|.bk=>.ok .nx c|.rt r=>.ok (.rt r) c else .ok .nx g:=by
 have v:∀c,aK mc mb c=.bad\/∃n,aK mc mb c=Į mc mb n c/\Į mc mb n c≠.bad:=λc=>by
  by_cases G:∃n,Į mc mb n c≠.bad
  ·obtain⟨n,h⟩:=G;exact .inr ⟨n,bO n h,h⟩
  ·left;unfold aK;rw[dif_neg G]
 have N:∀c,aK mc mb c=.bad->∀n,Į mc mb n c=.bad:=λc h n=>by refine BL λz=>?_;rw[bO n z]at h;exact z h
 have K:∀n,Į mc mb (n+1) d≠.bad->aK mc mb d=Į mc mb (n+1) d:=λn h=>bO _ h;cases e:mc d with
 |bad=>rcases v d with h|⟨n,u,j⟩
       ·rw[h];rfl
       ·cases n with
        |zero=>exact absurd rfl j|succ n=>rw[cM,e]at j;exact absurd rfl j
 |exc x g=>
  have h:Į mc mb 1 d=.exc x g:=by rw[cM,e];rfl
  rw[bO 1 (by rw[h];intro z;cases z),h];rfl
 |ok b g=>
  rw[Ĳ.bM];cases b with
  |false=>
   have h:Į mc mb 1 d=.ok .nx g:=by rw[cM,e];rfl
   rw[bO 1 (by rw[h];intro z;cases z),h];rfl
  |true=>
   have one:∀n,Į mc mb (n+1) d=(mb g).bind λf c=>match f with
    |.nx=>Į mc mb n c|.ct=>Į mc mb n c|.bk=>.ok .nx c|.rt r=>.ok (.rt r) c:=λn=>by rw[cM,e];rfl
   cases q:mb g with
   |bad=>
    rcases v d with h|⟨n,u,j⟩
    ·rw[h];rfl
    ·cases n with
     |zero=>exact absurd rfl j|succ n=>rw[one,q]at j;exact absurd rfl j
   |exc x c=>
    have h:Į mc mb 1 d=.exc x c:=by rw[one,q];rfl
    rw[bO 1 (by rw[h];intro z;cases z),h];rfl
   |ok f c=>
    have m:(∀n,Į mc mb (n+1) d=Į mc mb n c)->aK mc mb d=aK mc mb c:=λhn=>by
     rcases v c with h|⟨n,u,j⟩
     ·rcases v d with L|⟨n,u,j⟩
      ·rw[h,L]
      ·cases n with
       |zero=>exact absurd rfl j|succ n=>rw[hn,N c h n]at j;exact absurd rfl j
     ·rw[u,<-hn n];exact K n (by rw[hn n];exact j)
    cases f with
    |nx=>exact m λn=>by rw[one,q];rfl
    |ct=>exact m λn=>by rw[one,q];rfl
    |bk=>
     have h:Į mc mb 1 d=.ok .nx c:=by rw[one,q];rfl
     rw[bO 1 (by rw[h];intro z;cases z),h];rfl
    |rt r=>
     have h:Į mc mb 1 d=.ok (.rt r) c:=by rw[one,q];rfl
     rw[bO 1 (by rw[h];intro z;cases z),h];rfl
def C3(hp:oY (Ú X.prog X.w) X.A X.env X.xe)(hc:PT X c (tB ∅ E mc))(hb:b_ X A (tS ∅ E mb)):PS X (.While c A [] pos) (tS ∅ E<|aK mc mb):=PS.wk (E2 hp hc hb)<|by
 rintro D p H ⟨c,F,j,rel,h⟩;obtain⟨n,C⟩:∃n,ϑ ∅ E c F D (Į mc mb n j):=by
  by_cases O:∃n,Į mc mb n j≠.bad
  ·obtain⟨n,C⟩:=O;rw[bO n C]at h;exact⟨n,h⟩
  ·unfold aK at h;rw[dif_neg O]at h;exact h.elim
 refine⟨λm g w=>∃s d,ē ∅ c s w g d/\Ù F s/\ϑ ∅ E c s D (Į mc mb m d),⟨n,F,j,rel,Ù.refl _,C⟩,?_⟩;rintro m l H1 ⟨F1,o,Û,s1,Q⟩;cases m with
 |zero=>exact Q.elim|succ m=>
  refine⟨c,F1,o,Û,ϑ.bind Q λk d v s H2 I s2 q t=>?_⟩;have e:=q;subst e;cases k with
  |false=>exact t l s H2 I Č|true=>
   refine⟨_,λg w z=>z,c,s,d,I,?_⟩;have R:∀{i:ć},ϑ ∅ E c s D (Į mc mb m i)->∀g B w,ē ∅ c B w g i->Ù s B->∃N,N<m+1/\∃s d,ē ∅ c s w g d/\Ù F s/\ϑ ∅ E c s D (Į mc mb N d):=
    fun{i} h3 g B w Z L=>⟨m,oR m,B,i,Z,(s1.trans s2).trans L,ϑ.mono h3 L⟩
   cases G:mb d with
   |bad=>rw[G]at t;exact t|exc x i=>rw[G]at t;exact t|ok f i=>
    rw[G]at t;cases f with
    |nx=>exact R t|ct=>exact R t|bk=>exact t|rt r=>exact t
def lz(K:KK)(k F:Hp)(J:It)(items:List PV):Prop:=∀(c:Ctx) (i:Nat) (j H:Hp) (d:ă) (f:ć),ē K c j H d f->Ù F j->Ù k H->
 (∀p,items[i]?=Α p->J.go i H/\∀x g,J.OH i H x g->∃h,ē K c h g d f/\Ù j h/\Ù H g/\Ē K h p x)/\(i=items.length->J.stop i H)
def rIt(K:KK):RR (List PV) It:=λc x x F x d J=>lz K c.L F J d
abbrev tI(K:KK)(E:ă->XK)(m:M (List PV)):TI:=tG K E (rIt K) m
noncomputable def Ŭ(g:Tg)(mb:M Fl):List PV->M Fl
 |[],h=>.ok .nx h|p::i,h=>match g p h with
  |none=>.bad|some d=>(mb d).bind λf c=>match f with
   |.nx=>Ŭ g mb i c|.ct=>Ŭ g mb i c|.bk=>.ok .nx c|.rt r=>.ok (.rt r) c
def d_(j:M (List PV))(g:Tg)(mb:M Fl):M Fl:=λd=>(j d).bind λitems c=>Ŭ g mb items c
def av{w O:Ç}{A:List æ}{mi:M (List PV)}{g:Tg}{mb:M Fl}(hp:oY (Ú X.prog X.w) X.A X.env X.xe)(hc:X.calm=Δ)(hi:PI X O w (tI ∅ E mi))(hg:PG X O (tT ∅ g))(hb:b_ X A (tS ∅ E mb))
 (hs:autoParam (∀x,de w X.env x=pure x) Ν):PS X (.For O w A [] pos) (tS ∅ E<|d_ mi g mb):=PS.wk (E4 hp hc hi hg hb hs) λD s H ⟨c,F,p,rel,h⟩=>⟨c,F,p,rel,ϑ.bind h λitems o J W H1 Û s1 Rj h1=>by
 refine⟨λi m j C=>∃y d,i<=items.length/\m=items.length-i/\ē ∅ c y C j d/\Ù W y/\ϑ ∅ E c y D (Ŭ g mb (items.drop i) d),⟨_,W,o,bB _,rfl,Û,Ù.refl _,h1⟩,?_⟩;rintro i m l H2 ⟨y,d,hle,rfl,N,s2,v⟩;obtain⟨go,I⟩:=Rj c i y H2 l d N s2 λb u e=>(N.lent b u e).1;by_cases Q:i<items.length
 ·obtain⟨g1,g2⟩:=go items[i] (Ĩ Q);rw[sv Q]at v;dsimp only[Ŭ]at v;refine .inr ⟨g1,_,λj C z=>z,λx H3 hy=>?_⟩;refine BL λZ=>?_;obtain⟨U,g_,s3,_,rp⟩:=g2 x H3 hy;refine Z ?_;refine⟨c,U,d,items[i],g_,rp,?_⟩;cases eg:g items[i] d with
  |none=>rw[eg]at v;exact v.elim|some n=>
   rw[eg]at v;dsimp only at v;intro q uj;refine⟨c,U,n,uj,?_⟩;have Ri:∀{k:ć},ϑ ∅ E c y D (Ŭ g mb (items.drop<|i+1) k)->∀j L C,ē ∅ c L C j k->Ù U L->∃m',m'<items.length-i/\∃y d,i+1<=items.length/\m'=items.length-(i+1)/\ē ∅ c y C j d/\Ù W y/\ϑ ∅ E c y D (Ŭ g mb (items.drop<|i+1) d):=
    fun{k} h3 j L C ű Y=>⟨items.length-(i+1),by omega,L,k,Q,rfl,ű,(s2.trans s3).trans Y,ϑ.mono h3<|s3.trans Y⟩
   have K:=ϑ.mono v s3;cases R:mb n with
   |bad=>rw[R]at v;exact v|exc x k=>rw[R]at K;exact K|ok f k=>
    rw[R]at v K;cases f with
    |nx=>exact Ri v|ct=>exact Ri v|bk=>exact K|rt r=>exact K
 ·have e:i=items.length:=by lia
  refine .inl ⟨I e,?_⟩;rw[wQ<|by lia]at v;exact v l y H2 N Č⟩
end
inductive FR where
 |ret (r:RV)|exc (x:PX)|bad
abbrev MF:=List Slot->FR
noncomputable def FR.of:Ĳ Fl->FR
 |.ok (.rt r) _=>.ret r|.ok .nx _=>.ret<|.sh .non|.exc x _=>.exc x|_=>.bad
def Ď(n k:Nat)(mb:M Fl):MF:=λas=>if as.length=n then FR.of (mb<|Ğ k as)else .bad
def rF(K:KK)(H b i:Hp):RV->V->Prop
 |.sh p,v=>Ē K b p v|.ow e,v=>∃a c,v=.ref a/\i a=Α (.lst c)/\b a=Β/\H a=Β/\ç K b e c|.ot e f j,v=>∃p a h c g,v=.ref p/\b p=Α (.tup (h++.ref a::g))/\ç K b e h/\i a=Α (.lst c)/\b a=Β/\H a=Β/\ç K b f c/\ç K b j g|.bn t e f d,v=>nZ K H b t e f d v
def U7(K:KK)(E:XK)(F H:Hp)(Q:VK):FR->Prop
 |.ret r=>∀v b a,Gr F H b a->rF K H b a r v->Q v a|.exc x=>∀C d b a,Gr F H b a->yo K b x C d->E C d a|.bad=>False
def rj(K:KK)(n:Nat)(c:MF):Sp:=λvs H Q E=>∃F a,a.length=n/\Ù F H/\Paired (du K F H) a vs/\U7 K E F H Q (c a)
def ϝ(CX:gX)(X:Cx)(E:ă->XK):Prop:=∀(c:List (À×Obj)) (a:ă) (H:Hp) (s:Ä) (e:Á) (b:Ä),Inv X c a H s->CX X.stack H s (E a) e b->X.xe e b
def gJ:ϝ ze X E:=λx x x x x x x h=>h.elim
section
variable{P:ï}{w:ã}{K:Ï}{cm:String->À}{mg:Str->Option Á}{base:Ô}{CX:gX}
def fnP{st:æ}(F:CN K x qual st f fd)(S:ı N m (è st))
 (dO:∀(i:Á) (A:ì) (g:List Env) (s:Ä) (H:Hp) (E:XK),Ń k (A.deeper<|ň qual (è st) s.heap.objs.size f i)→
   b_ (kj CX P w K mg base N qual (è st) f i A g s H E) (Ō st) (tS ⟨K,cm⟩ (λn=>E) mb)):Ϲ P w K mg base CX (k+1) f fd m (rj ⟨K,cm⟩ m.length<|Ď m.length N.length mb):=by
 refine BL λW=>?_;obtain⟨oc,od,kV,doc,pm,an,i,ct,AG,rfl,lk,vf⟩:=F.ex;refine W ?_;refine zy lk vf S (by rintro vs H Q E ⟨F,B,y,_,u,_⟩;rw[<-Paired.length u];exact y) λA g s H vs Q E hr vB=>?_;refine BL λW=>?_;obtain⟨F,B,y,u,h3,h⟩:=vB;refine W ?_;refine⟨_,dO i A g s H E hr,cu F H,F,Ğ N.length B,ē.start u h3,?_⟩;unfold Ď at h;rw[if_pos y]at h;cases e:mb (Ğ N.length B)with
 |bad=>rw[e]at h;exact h|exc x c=>rw[e]at h;exact λb C d j l rel s1 q=>h C d j l rel.gr q
 |ok fl c=>
  rw[e]at h;cases fl with
  |nx=>exact λb j l rel s1=>h .non j l rel.gr<|Ē.non (K:=⟨K,cm⟩) (F:=j)
  |bk=>exact h.elim|ct=>exact h.elim|rt r=>
   intro v b j l rel s1 q;refine h v j l rel.gr ?_;cases r with
   |sh p=>exact q|ow U=>obtain⟨a,z,L,J,I,G,_,D⟩:=q;exact⟨a,z,L,J,I,G,D⟩|ot U ts rs=>obtain⟨p,a,Z,z,Y,L,e0,ex,J,I,G,_,D⟩:=q;exact⟨p,a,Z,z,Y,L,e0,ex,J,I,G,D⟩|bn t m U R=>exact q
def fnQ{st:æ}(F:CN K x qual st f l)(S:ı N c (è st))(g:c.length=n)(h:N.length=j)(i:e=Ď n j mb)
 (m:∀(b:Á) (A:ì) (a:List Env) (s:Ä) (H:Hp) (E:XK),Ń k (A.deeper<|ň qual (è st) s.heap.objs.size f b)→
   b_ (kj CX P w K mg base N qual (è st) f b A a s H E) (Ō st) (tS ⟨K,cm⟩ (λy=>E) mb)):Ϲ P w K mg base CX (k+1) f l c (rj ⟨K,cm⟩ n e):=by
 subst g h i;exact fnP F S m
end
@[simp]def ß(e:MF)(d:M (List Slot))(b:ć):Ĳ RV:=(d b).bind fun c a=>match e c with
  |.ret r=>.ok r a|.exc x=>.exc x a|.bad=>.bad
section
variable{X:Cx}{cm:String->À}{E:ă->XK}{CX:gX}{k n:Nat}{f:À}{fd:ą}{ps:List Str}{mf:MF}{mr:M (List Slot)}{x:Str}{p pos:Pos}{e:Ç}{es:List Ç}
def pR(F:Ϲ X.prog X.w X.K X.mg X.base CX k f fd ps sp)(t:Ń k X.A)(w:Binds X.K fd ps [])(q:ϝ CX X E)
 (I:Inv X g a H s)(r:Ő vs b)(h:sp vs H Q (E a)):Ð (Ú X.prog X.w) X.A (call (.ref f) b) (EP X g a Q) X.xe s:=by
 have v:(b++[]).length=ps.length:=by rw[cZ,<-r.length];exact F.len _ _ _ _ h
 have j:=w s b I.vk v;rw[cZ]at j;refine o_<|jV (F.run X.A X.stack s H ⟨b,[]⟩ b vs Q (E a) t I.env0 j r h) λr m c=>?_;cases r with
 |error e=>exact q g a H s e m I c|ok y=>
  cases y with
  |ret u=>exact I.after c|next=>exact ų c|brk=>exact ų c|cont=>exact ų c
def pS{ps:List Slot}(l:(∃r,mf ps=r/\∀z,r=z->z≠.bad)->ps.length=n)(j:ē ∅ c G B i b)(W:Paired (du ∅ G B) ps vs)
 (h:ϰ ∅ E (rO<|kk X cm) c G B i Q (match mf ps with|.ret r=>.ok r b|.exc x=>.exc x b|.bad=>.bad)):rj ∅ n mf vs B Q (E i):=by
 refine⟨G,ps,?_,j.sub,W,?_⟩
 ·refine l ⟨_,rfl,λz Y Z=>?_⟩;rw[Y,Z]at h;exact h
 ·cases s:mf ps with
  |bad=>rw[s]at h;exact h|exc x=>rw[s]at h;exact λC d H D g R=>h C d H D (j.call g) g.f R
  |ret r=>
   rw[s]at h;intro v H D g o;refine h v H D (j.call g) g.f g.h ?_;cases r with
   |sh p=>exact o|ow J=>obtain⟨a,q,A,y,w,m,u⟩:=o;exact⟨a,q,A,y,w,j.base.free m,j.lw g.f<|j.fresh m,u⟩|ot J ts rs=>obtain⟨p,a,O,q,N,A,e0,ex,y,w,m,u⟩:=o;exact⟨p,a,O,q,N,A,e0,ex,y,w,j.base.free m,j.lw g.f<|j.fresh m,u⟩|bn t ps J I=>exact nZ.base o j.base
def lA{ps:List Slot}(h:∃r,Ď n k mb ps=r/\∀z,r=z->z≠.bad):ps.length=n:=by
 obtain⟨r,c,j⟩:=h;unfold Ď at c;by_cases g:ps.length=n
 ·exact g
 ·rw[if_neg g]at c;exact absurd c.symm (λz=>j .bad (by rw[<-c]) rfl)
def LZ(F:Ϲ X.prog X.w X.K X.mg X.base CX k f fd ps (rj ∅ n mf))(g:∀{ps:List Slot},(∃r,mf ps=r/\∀z,r=z->z≠.bad)->ps.length=n)(C:Ń k X.A)(J:Gl X x)(D:X.mg x=Α (.ref f))(G:bJ X.K (.ref f)=Δ)(K:Binds X.K fd ps [])(B:ϝ CX X E)
 (L:PA X (e::es) (tA ∅ E mr))(A:autoParam ((x==("__debug__":Str))=Ε) Ζ)(he:autoParam (Î (e::es) X.env=(Ε,eval e X.env)::Î es X.env) Θ)(O:autoParam ((ü pos<|Î es X.env).any (·.1)=Ε) Ζ):
 PE X (.Call (.Name x p) (e::es) [] pos) (tO ∅ E<|ß mf mr):=by
 intro w s a H Q I h;refine BL λZ=>?_;obtain⟨c,F,b,rel,h⟩:=h;refine Z ?_;refine io<|pF I J D ?_ A;refine kc I.ok.mod.EU G (Ż (L pos w s a H (λvs i=>rj ∅ n mf vs i Q<|E a) I ⟨c,F,b,rel,h.bind λgW d vs F1 i v j j y N=>pS g v y N⟩) λus s1 ⟨vs,i,u,r,q⟩=>⟨u.vk,?_⟩) he O;exact pR (by assumption) C K B u r q
end
@[simp]def ϔ(m:M PV)(b:ć):Ĳ (List PV):=(m b).bind fun p a=>match p with
  |.lst d=>.ok d a|.tup d=>.ok d a|.str z=>.ok (z.cps.toList.map λc=>.str ⟨#[c]⟩) a
  |_=>.bad
section
variable{X:Cx}{cm:String->À}{E:ă->XK}{tg:Ç}
def U8(K:Ï)(g:TE):TI:=λb H R=>g b H λx c=>(∃a,x=.ref a/\(∃d,ż K c a d)/\R (HP K a) c)\/(∃a,x=.ref a/\(∃d,jH K c a d)/\R (Y7 K a) c)\/∃z,x=.str z/\R (Its z) c
def A6(hl:PE X l tl):PI X tg l (U8 X.K tl):=by
 intro Å s c H R I h;refine Ż (hl Å s c H _ I h) λv s1 zz=>?_;obtain⟨x,H1,r,r1,q1⟩:=zz;rcases q1 with⟨a,e,⟨xs,hq⟩,q⟩|⟨a,e,⟨xs,hq⟩,q⟩|⟨z,e,q⟩
 ·subst e;cases r1;refine BL λZ=>?_;obtain⟨ę,rv,p,hz⟩:=r.list hq;refine Z ?_;refine jW p.isList ?_;refine⟨s1.heap.objs.size,[s1.heap.objs.size],_,_,H1,rfl,r.kept (t':=s1.toks) λb o e=>Ć _ e,DT a _,⟨_,ĵ _ rfl,rfl,rfl⟩,λb hb=>?_,q⟩;have e:b=s1.heap.objs.size:=by simpa using hb
  subst e;exact r.rN (õ _)<|r.hok.fresh<|õ _
 ·subst e;cases r1;obtain⟨ę,rv,p,hz⟩:=r.tuple hq;refine wpAny_pyIter_tuple (show s1.heap.IsTuple a ę.toArray from p) ?_;refine⟨s1.heap.objs.size,[s1.heap.objs.size],_,_,H1,rfl,r.kept (t':=s1.toks) λb o e=>Ć _ e,AJ a _,⟨_,ĵ _ rfl,rfl,rfl⟩,λb hb=>?_,q⟩;have e:b=s1.heap.objs.size:=by simpa using hb
  subst e;exact r.rN (õ _)<|r.hok.fresh<|õ _
 ·subst e;obtain⟨t,rfl⟩:=r1;have nU:∀ty,(∀A:ì,A.handled=Β->Walks X.prog X.w A s1.heap.objs.size [s1.heap.objs.size] [s1.heap.objs.size] z.cps.size (SignAt z) (λi h=>h.IsStrIter s1.heap.objs.size ty z t i))->
   (∀(A:ì) (i:Nat) (s:Ä) (Q:Á->Ä->Prop) (E:Á->Ä->Prop),s.heap.IsStrIter s1.heap.objs.size ty z t i->Q (.ref s1.heap.objs.size) s->Ð (Ú X.prog X.w) A (jR<|.ref s1.heap.objs.size) Q E s)->
   (["enumerate","zip","dict_itemiterator","dict_reverseitemiterator","odict_iterator","itertools.zip_longest","itertools.pairwise"].contains ty=Ε)->
   Uh X Å c tg R (.ref s1.heap.objs.size) {s1 with heap:=s1.heap.push {cls:=.type ty,data:=.fields #[.str z t,.int 0 0]}}:=λty hW hS lY=>by
   refine⟨s1.heap.objs.size,[s1.heap.objs.size],_,_,H1,rfl,r.kept (t':=s1.toks) λb o e=>Ć _ e,Ea _ z t ty hW hS lY,⟨_,ĵ _ rfl,rfl,rfl⟩,λb hb=>?_,q⟩;have e:b=s1.heap.objs.size:=by simpa using hb
   subst e;exact r.rN (õ _)<|r.hok.fresh<|õ _
  cases ha:z.cps.all (·<128)with
  |true=>exact wpAny_pyIter_ascii ha (nU _ (λA hA=>Walks.strAscii hA _ z t) (λA i s Q E st q=>wpAny_pyIter_striter_ascii st q)<|by decide)
  |false=>exact wpAny_pyIter_wide ha (nU _ (λA hA=>Walks.strWide hA _ z t) (λA i s Q E st q=>wpAny_pyIter_striter_wide st q)<|by decide)
def e_(hl:PE X l (tV ∅ E m)):PI X tg l (tI ∅ E<|ϔ m):=λÅ s e H R I h=>A6 hl Å s e H R I (by
 obtain⟨c,F,f,rel,h⟩:=h;refine⟨c,F,f,rel,h.bind λp g v W U A s1 s2 q L=>?_⟩;cases p with
 |lst ps=>have o:=q;obtain⟨a,j,rfl,J,G⟩:=o;refine .inl ⟨a,rfl,⟨j,A.sub.seq J⟩,L _ W U A Č Č ?_⟩;intro c' i K H2 b d t x _;have w:=(x.trans t.sub).seq J;refine⟨λp k=>?_,λhi=>⟨j,w,by rw[hi,G.length];exact õ _⟩⟩;obtain⟨u,C,Q⟩:=cq G.pr k;refine⟨⟨j,u,w,C⟩,λx H' O=>?_⟩;obtain⟨D,B⟩:=O;subst D;have:=B j w;rw[C]at this;cases this;exact⟨K,t,Ù.refl _,Ù.refl _,Ē.same x p u Q⟩
 |tup ps=>have o:=q;obtain⟨a,j,rfl,J,G⟩:=o;refine .inr<|.inl ⟨a,rfl,⟨j,Ù.tup A.sub J⟩,L _ W U A Č Č ?_⟩;intro c' i K H2 b d t x _;have w:=Ù.tup (x.trans t.sub) J;refine⟨λp k=>?_,λhi=>⟨j,w,by rw[hi,G.length];exact õ _⟩⟩;obtain⟨u,C,Q⟩:=cq G.pr k;refine⟨⟨j,u,w,C⟩,λx H' O=>?_⟩;obtain⟨D,B⟩:=O;subst D;have:=B j w;rw[C]at this;cases this;exact⟨K,t,Ù.refl _,Ù.refl _,Ē.same x p u Q⟩
 |str z=>
  have o:=by have o:=q;exact o
  subst o;refine .inr<|.inr ⟨z,rfl,L _ W U A Č Č ?_⟩;intro c' i K H2 b d t x _;refine⟨λp k=>?_,λhi=>by rw[hi,ģ];show _=_;simp⟩;rw[œ]at k;cases N:z.cps.toList[i]?with
  |none=>rw[N]at k;cases k|some cc=>rw[N]at k;cases k;refine⟨by have:=(bz.mp N).1;show i<z.cps.size;simpa using this,?_⟩;rintro x H' ⟨D,c2,hc,B⟩;subst D B;rw[N]at hc;cases hc;exact⟨K,t,Ù.refl _,Ù.refl _,Ē.str⟩
 |_=>exact L.elim)
noncomputable def ĸ(i:Nat):M (List PV):=λρ=>match ρ[i]?with
 |some (.bw a)=>.ok a ρ|some (.sh<|.lst a)=>.ok a ρ|some (.sh<|.tup a)=>.ok a ρ|some (.sh<|.str z)=>.ok (z.cps.toList.map λc=>.str ⟨#[c]⟩) ρ
 |some (.ow a)=>.ok a<|ρ.set i<|.sh<|.lst a|_=>.bad
def ř(i:Nat){x:Str}{y:Pos}(D:autoParam (EK X i x=Δ) Ζ):PI X tg (.Name x y) (tI ∅ E<|ĸ i):=λÅ s b H R I h=>by
 refine BL λV=>?_;obtain⟨c,F,d,rel,h⟩:=h;refine V ?_;cases e:d[i]?with
 |none=>unfold ĸ at h;rw[e]at h;exact h.elim|some W=>
  have m:ϰ ∅ E (rIt<|kk X cm) c F H b R (ϔ (í i) d)->Ð (Ú X.prog X.w) X.A (eval (.Name x y) X.env) (λv s1=>Ð (Ú X.prog X.w) X.A (jR v) (Uh X Å b tg R) X.xe s1) X.xe s:=λh'=>
   e_ (v_var i D) Å s b H R I ⟨c,F,d,rel,h'⟩
  unfold ĸ at h;rw[e]at h;cases W with
  |no=>exact h.elim|lr C A k=>exact h.elim|rc C A k=>exact h.elim|ot k qs rs=>exact h.elim|ol pL=>exact h.elim|fr pL=>exact h.elim|rd C A k=>exact h.elim|pin=>exact h.elim|bn qs w=>exact h.elim|dw gY=>exact h.elim|ow k=>exact m (by unfold ϔ í;rw[e];exact h)|sh p=>
   cases p with
   |lst k=>exact m (by unfold ϔ í;rw[e];exact h)|tup k=>exact m (by unfold ϔ í;rw[e];exact h)|str z=>exact m (by unfold ϔ í;rw[e];exact h)|_=>exact h.elim
  |bw k=>obtain⟨a,l,h1,J,G⟩:=rel.slot i _ e;refine A6 (pE D) Å s b H R I ⟨.ref a,Ŀ h1,.inl ⟨a,rfl,⟨l,ż.of (rel.lent a _ J).1⟩,h _ F H rel Č Č ?_⟩⟩;intro c' j F2 H2 f g Q Z Y;have n:ż X.K H2 a l:=ż.of<|Y a _ J;refine⟨λp hp=>?_,λhi=>⟨l,n,by rw[hi,G.length];exact õ _⟩⟩;obtain⟨u,B,ru⟩:=cq G.pr hp;refine⟨⟨l,u,n,B⟩,λx H' U=>?_⟩;obtain⟨hH,hx⟩:=U;subst hH;have:=hx l n;rw[B]at this;cases this;exact⟨F2,Q,Ù.refl _,Ù.refl _,Ē.same Z p u ru⟩
noncomputable def lB(a:Int)(n:Nat)(c:Int):List PV:=(ú n).map λ(i:Nat)=>.int<|a+i*c
noncomputable def ul(i:Int):Bool:=decide<|i.natAbs<1152921504606846976
def aR:List PV->Option (List PV)
 |[.int j]=>if ul j=Δ then Α (lB 0 j.toNat 1)else Β|_=>Β
@[simp]def aL(f:List PV->Option (List PV))(d:M (List PV))(b:ć):Ĳ (List PV):=(d b).bind λps a=>Ĳ.zG (f ps) a
def A7{d c:Int}(h:(lB d n c)[i]?=Α p):i<n/\p=.int (d+i*c):=by
 unfold lB at h;by_cases b:i<n
 ·rw[œ,List.getElem?_range b]at h;exact⟨b,(Ň h).symm⟩
 ·rw[wR<|by simpa using b]at h;cases h
def A8{a c:Int}:(lB a n c).length=n:=by simp[lB]
def L_{K:KK}(d:Int)(n:Nat):lz K Lh F (R_ d n) (lB d n 1):=λc i o H a b rel sF x=>
 ⟨fun p h=>by obtain⟨k,rfl⟩:=A7 h;refine⟨k,λx H' g=>?_⟩;obtain⟨m,l⟩:=g;subst m l;exact⟨o,rel,Ù.refl _,Ù.refl _,by rw[Int.mul_one];exact Ē.int⟩,λhi=>by rw[A8]at hi;subst hi;exact õ _⟩
def Ec(h:ul i=Δ): -(2^60)<=i/\i<2^60:=by unfold ul at h;rw[decide_eq_true_eq]at h;lia
variable{a:Ç}{p pos:Pos}{mr:M (List PV)}
def FP{K:KK}(h:ç K F c vs):(∀i r,c=.int i::r->∃b,vs=.int i::b/\ç K F r b)/\(c=[]->vs=[]):=by
 refine⟨λi r e=>?_,λe=>?_⟩
 ·subst e;obtain⟨x,b,k,j,g⟩:=h;exact⟨b,by rw[k,j],g⟩
 ·subst e;exact h
set_option tactic.hygienic true in
def ū(t:Gl X "range")(o:X.mg "range"=Β)(u:PA X [a] (tL ∅ E mr))(n:autoParam (Î [a] X.env=[(Ε,eval a X.env)]) Θ):PI X tg (.Call (.Name "range" p) [a] [] pos) (tI ∅ E<|aL aR mr):=
 λÅ s b H R I h=>DU t o u n Å s b H R I (by
  obtain⟨c,F,d,rel,h⟩:=h;refine⟨c,F,d,rel,h.bind λps e vs y x l s1 s2 q f=>?_⟩;have m:=q;unfold aR at f;split at f
  ·rename_i j;split at f
   ·rename_i r;obtain⟨r',w,v⟩:=(FP m).1 _ _ rfl;cases(FP v).2 rfl;obtain⟨k1,k2⟩:=Ec r;exact⟨j,w,by lia,by lia,f _ y x l Č Č<|L_ 0 j.toNat⟩
   ·exact f.elim
  ·exact f.elim)
end
noncomputable def dW:Slot->Slot
 |.sh p=>.sh p|.ow a=>.bw a|.bw a=>.bw a|.rc C (n::b) a=>.lr C (n::b) a|.lr C b a=>.lr C b a|.rd C (n::b) a=>.lr C (n::b) a|_=>.no
def iZ(js:List Nat)(nl:Nat)(ρ:ć):ć:=js.map (λ(j:Nat)=>dW<|(ρ[j]?).getD .no)++ý nl .no
noncomputable def ĝ{e:Type}(g:e->ć->Option ć)(mt:M Bool)(me:M PV):List e->ć->List PV->Option (List PV)
 |[],_,a=>Α a|p::f,i,a=>match g p i with
  |none=>Β|some d=>match mt d with
   |.ok Δ b=>match me b with
     |.ok q c=>if a.length<16777216then ĝ g mt me f c (a++[q])else Β|_=>Β
   |.ok Ε b=>ĝ g mt me f b a|_=>Β
@[simp]def Ģ{d:Type}(js:List Nat)(nl:Nat)(h:M (List d))(g:d→ć→Option ć)(mt:M Bool)(me:M PV)(b:ć):Ĳ RV:=(h b).bind fun c a=>match ĝ g mt me c (iZ js nl a) []with
  |some f=>.ok (.ow f) a|none=>.bad
abbrev EF:ă->XK:=λx x x x=>False
@[simp]def Ę(a:ć):Ĳ Bool:=.ok Δ a
section
variable{K:KK}{c:Ctx}{F H:Hp}{σ:ă}{ρ:ć}
def A9(F H b:Hp):Ctx:=⟨b,F,(cu F H).L,λx x x=>True⟩
set_option tactic.hygienic true in
def ē.cap(js:List Nat)(nl:Nat)(rel:ē K c F H σ ρ)(E:H D=Β):ē K (A9 F H<|upd H D o) F (upd H D o) (je js nl σ) (iZ js nl ρ) where
 sub:=rel.sub.trans (Ù.upd E)
 base:=Ù.refl _
 f0:=Ù.refl _
 ge:=λw w z=>z
 lent:=λa u e=>⟨Ù.upd E a u (Ϣ e).1,(Ϣ e).2⟩
 lb:=fun a e=>by
   cases q:(A9 F H<|upd H D o).L a with
   |none=>rfl|some u=>have r:upd H D o a=Β:=e;rw[Ù.upd E a u (Ϣ q).1]at r;cases r
 len:=by simp[je,iZ]
 slot:=λi s e=>by
  unfold iZ at e;by_cases l:i<js.length
  ·rw[Ϫ (by simpa using l),œ]at e;cases m:js[i]?with
   |none=>rw[m]at e;cases e|some j=>
    rw[m]at e;have r:dW ((ρ[j]?).getD .no)=s:=Ň e;subst r;have Y:((je js nl σ)[i]?).getD Β=(σ[j]?).getD Β:=by unfold je;rw[Ϫ (by simpa using l),œ,m];rfl
    rw[Y];cases Z:ρ[j]?with
    |none=>trivial|some I=>
     have q:=rel.slot j I Z;cases I with
     |no=>trivial|sh p=>exact q|ow k=>obtain⟨a,x,b,d,g,N,t⟩:=q;refine⟨a,x,b,?_,t⟩;show(match F a with|none=>H a|some _=>Β)=_;rw[g];exact d
     |bw k=>obtain⟨a,x,b,d,g⟩:=q;obtain⟨B,A⟩:=rel.lent a _ d;refine⟨a,x,b,?_,g⟩;show(match F a with|none=>H a|some _=>Β)=_;rw[A];exact B
     |rc C h k=>
      cases h with
      |nil=>trivial|cons n h=>obtain⟨a,v,fs,b,d,g,N,t,G⟩:=q;refine⟨a,v,fs,b,?_,t,G.1,nofun⟩;show(match F a with|none=>H a|some _=>Β)=_;rw[g];exact d
     |lr C h k=>obtain⟨a,v,fs,b,d,g⟩:=q;obtain⟨B,A⟩:=rel.lent a _ d;refine⟨a,v,fs,b,?_,g⟩;show(match F a with|none=>H a|some _=>Β)=_;rw[A];exact B
     |ot k U rs=>trivial|ol X=>trivial|fr X=>trivial|rd C h k=>
      cases h with
      |nil=>trivial|cons n h=>obtain⟨a,v,fs,b,d,g,N,t,G⟩:=q;refine⟨a,v,fs,b,?_,t,G.1,nofun⟩;show(match F a with|none=>H a|some _=>Β)=_;rw[g];exact d
     |pin=>trivial|bn U J=>trivial|dw gY=>trivial
  ·rw[ie (by simpa using l),ig]at e;split at e
   ·cases e;trivial
   ·cases e
 sep:=λi j a b w=>by
  obtain⟨s,y,b,_,d⟩:=b;unfold iZ at b;by_cases l:i<js.length
  ·rw[Ϫ (by simpa using l),œ]at b;cases m:js[i]?with
   |none=>rw[m]at b;cases b|some j=>rw[m]at b;have r:dW ((ρ[j]?).getD .no)=s:=Ň b;subst r;cases q:(ρ[j]?).getD .no<;>rw[q]at d<;>first|cases d|(rename_i C h k;cases h<;>cases d)
  ·rw[ie (by simpa using l),ig]at b;split at b
   ·cases b;cases d
   ·cases b
def ē.rebase(hD:g D=Β)(hF:A D=Β)(rel:ē K (A9 A g<|upd g D<|.lst ys) F H σ ρ):ē K (A9 A g<|upd g D<|.lst x) F (upd H D<|.lst x) σ ρ:=by
 have fD:=rel.ge D (by show upd g D _ D≠Β;rw[ā];intro z;cases z) hF;have lD:∀b u,(A9 A g<|upd g D<|.lst ys).L b=Α u->b≠D:=λb u e z=>by have q:=(Ϣ e).1;rw[z,hD]at q;cases q
 have n:∀b,(A9 A g<|upd g D<|.lst ys).B b=Β->b≠D:=λb z q=>by subst q;have m:upd g b (.lst ys) b=Β:=z;rw[ā]at m;cases m
 have back:=λb d z=>by have m:upd g D (.lst ys) b=Β:=z;show upd g D (.lst x) b=Β;rw[ñ d]at m⊢;exact m
 refine⟨λb u e=>?_,λb u e=>?_,rel.f0,λb N L=>?_,λb u e=>?_,λb e=>?_,rel.len,λi s e=>?_,rel.sep⟩
 ·have d:b≠D:=λz=>by rw[z,fD]at e;cases e
  rw[ñ d];exact rel.sub b u e
 ·by_cases d:b=D
  ·subst d;have y:upd g b (.lst x) b=Α u:=e;rw[ā]at y⊢;exact y
  ·have y:upd g D (.lst x) b=Α u:=e;rw[ñ d]at y⊢;exact rel.base b u (by show upd g D _ b=Α u;rw[ñ d];exact y)
 ·refine rel.ge b (λz=>N ?_) L;exact back b (n b z) z
 ·rw[ñ<|lD b u e];exact rel.lent b u e
 ·refine rel.lb b ?_;have m:upd g D (.lst x) b=Β:=e;have d:b≠D:=λq=>by rw[q,ā]at m;cases m
  show upd g D (.lst ys) b=Β;rw[ñ d]at m⊢;exact m
 ·have q:=rel.slot i s e;cases s with
  |no=>trivial|sh p=>exact q|lr C U t=>exact q|bw t=>exact q|ow t=>obtain⟨a,o,j,l,k,f,r⟩:=q;have d:=n a f;exact⟨a,o,j,by rw[ñ d];exact l,k,back a d f,r⟩|rc C U t=>obtain⟨a,O,fs,j,l,k,f,r⟩:=q;have d:=n a f;exact⟨a,O,fs,j,by rw[ñ d];exact l,k,back a d f,r⟩|ot t qs rs=>obtain⟨p,a,xs,o,ys,j,J,qx,l,k,f,r⟩:=q;have d:=n a f;exact⟨p,a,xs,o,ys,j,J,qx,by rw[ñ d];exact l,k,back a d f,r⟩|ol pL=>obtain⟨p,Q,j,J,I,G⟩:=q;refine⟨p,Q,j,J,I,iG G λa t w zz=>?_⟩;obtain⟨o,l,k,f,r⟩:=zz;have d:=n a f;exact⟨o,by rw[ñ d];exact l,k,back a d f,r⟩
  |fr pL=>obtain⟨p,Q,j,l,k,f,I,G⟩:=q;have d:=n p f;exact⟨p,Q,j,by rw[ñ d];exact l,k,back p d f,I,iG G<|by rintro a t _ ⟨o,k1,W,k3⟩;exact ⟨o,k1,back a (n a W) W,k3⟩⟩
  |dw gY=>exact q|pin=>exact q|rd C U t=>obtain⟨a,O,fs,j,l,k,f,r⟩:=q;have d:=n a f;exact⟨a,O,fs,j,by rw[ñ d];exact l,k,back a d f,r⟩|bn qs R=>obtain⟨v,j,a,b,ys,o,N,L,Y,X,h5⟩:=q;exact⟨v,j,a,b,ys,o,N,L,back a (n a Y) Y,back b (n b X) X,h5⟩
end
section
variable{X:Cx}{cm:String->À}{E:ă->XK}{tg iter:Ç}{mi:M (List PV)}{mt:M Bool}
def Ħ:CP X [] (tB ∅ E Ę):=λÅ s a H Q I h=>Ik Å s a H Q I (by
 obtain⟨c,F,b,rel,h⟩:=h;exact h Δ F H rel Č Č rfl)
def yr(h:PT X a (tB ∅ E mt)):CP X [a] (tB ∅ E mt):=Il h
def FQ(K:KK):RR (List PV) It:=λx x x F H a J=>lz K (cu F H).L F J a
def FS{K:KK}(rel:ē K c F H a d)(e:c.L b=Α u):(cu F H).L b=Α u:=by obtain⟨g,f⟩:=rel.lent b u e;show(match F b with|none=>H b|some _=>Β)=Α u;rw[f];exact g
def J1(h:PI X tg iter (tI ∅ E mi)):PI X tg iter (tG ∅ E (FQ<|kk X cm) mi):=by rintro Å s j H R I ⟨c,F,a,rel,q⟩;exact h Å s j H R I ⟨c,F,a,rel,ϰ.bind (R':=FQ<|kk X cm) (f:=λp a=>.ok p a) (by revert q;cases mi a<;>exact id) λp k v D B r s1 s2 q z=>z v D B r Č Č λc' i C A d g w y x=>q c' i C A d g w y λb u e=>x b u<|FS r e⟩
end
abbrev Oa(a:Type):=Ctx->Hp->a->V->Prop
def Pe{g:Type}(K:KK)(j:Oa g)(h F:Hp)(J:It)(items:List g):Prop:=∀(c:Ctx) (i:Nat) (f H:Hp) (a:ă) (b:ć),ē K c f H a b->Ù F f->Ù h H->Ù h c.L->
 (∀p,items[i]?=Α p->J.go i H/\∀x d,J.OH i H x d->∃e,ē K c e d a b/\Ù f e/\Ù H d/\j c e p x)/\(i=items.length->J.stop i H)
def Iz{b:Type}(K:KK)(d:Oa b):RR (List b) It:=λx x x F H a J=>Pe K d (cu F H).L F J a
def R8{d:Type}(K:KK)(f:Oa d)(g:d->ć->Option ć):TG:=λv b H Q=>∃c F a p,ē K c F H b a/\f c F p v/\LX K c F H Q (g p a)
section
variable{α:Type}{RI:Oa α}{X:Cx}{cm:String->À}{E:ă->XK}{mi:M (List α)}{g:α->ć->Option ć}{mt:M Bool}{me:M PV}
def vT(hJ:∀{c j p F H items J},RJ c j p F H items J->Iz ∅ RI c j p F H items J)(h:tO ∅ E (Ģ js nl mi g mt me) j H Q):vN js nl (tG ∅ E RJ mi) (R8 ∅ RI g) (tB ∅ EF mt) (tV ∅ EF me) j H Q:=by
 refine BL λL=>?_;obtain⟨c,F,p,rel,h⟩:=h;refine L ?_;refine⟨c,F,p,rel,h.bind λitems r J F1 C G s1 s2 Rj W=>?_⟩;intro D I;have hF:=G.sub.free I;cases ec:ĝ g mt me items (iZ js nl r) []with
 |none=>rw[ec]at W;exact W.elim|some Z=>
  rw[ec]at W;refine⟨λi m k H'=>∃F' l A v,i<=items.length/\m=items.length-i/\ē ∅ (A9 F1 C<|upd C D<|.lst A) F' H' k l/\ç ∅ F' v A/\ĝ g mt me (items.drop i) l v=Α Z,
   ⟨_,F1,_,[],[],bB _,rfl,?_,ç.nil,ec⟩,?_⟩
  ·exact G.cap js nl I
  ·rintro i m s H2 ⟨F2,d,A,v,hle,rfl,B,ra,f⟩;have Y:=B.f0;obtain⟨go,N⟩:=hJ Rj _ i F2 H2 s d B Y (λb u e=>(B.lent b u e).1) Č;have hH2:=B.base D _ (show upd C D _ D=_ from ā);have fD:=B.ge D (by show upd C D _ D≠Β;rw[ā];intro z;cases z) hF;by_cases U:i<items.length
   ·obtain⟨g1,g2⟩:=go items[i] (Ĩ U);rw[sv U]at f;dsimp only[ĝ]at f;refine .inr ⟨g1,_,λk H' z=>z,λx H3 hy=>?_⟩;refine BL λV=>?_;obtain⟨F3,g_,s3,sH3,rp⟩:=g2 x H3 hy;refine V ?_;refine⟨_,F3,d,items[i],g_,rp,?_⟩;cases eg:g items[i] d with
    |none=>rw[eg]at f;cases f|some n=>
     rw[eg]at f;dsimp only at f;intro t uj;refine⟨_,F3,n,uj,?_⟩;cases em:mt n with
     |bad=>rw[em]at f;cases f|exc x a=>rw[em]at f;cases f|ok b a=>
      rw[em]at f;intro b' F5 H5 Ba s5 FT eb;have eb':=eb;subst eb';cases b with
      |false=>exact⟨items.length-(i+1),by lia,F5,a,A,v,U,rfl,Ba,ç.same (s3.trans s5) v A ra,f⟩|true=>
       dsimp only at f;refine⟨_,F5,a,Ba,?_⟩;cases ee:me a with
       |bad=>rw[ee]at f;cases f|exc x o=>rw[ee]at f;cases f|ok q o=>
        rw[ee]at f;dsimp only at f;intro y F6 H6 IA s6 s6' rq;split at f
        ·rename_i hz;have O:=ç.same ((s3.trans s5).trans s6) v A ra;refine⟨A,IA.base D _<|show upd C D _ D=_ from ā,by rw[<-O.length,ġ];exact hz,?_⟩;exact⟨items.length-(i+1),by lia,F6,o,A++[y],v++[q],U,rfl,IA.rebase I hF,ç.append O<|ç.cons rq ç.nil,f⟩
        ·cases f
   ·have e:i=items.length:=by lia
    refine .inl ⟨N e,?_⟩;rw[wQ<|by lia]at f;cases f;have gr:Gr F1 C F2 H2:=⟨λb u e=>B.base b u (by show upd C D _ b=_;rw[ñ<|Ċ e I];exact e),Y,B.sub,λb hb hf=>B.ge b (by
     show upd C D _ b≠Β;by_cases R:b=D
     ·rw[R,ā];intro z;cases z
     ·rw[ñ R];exact hb) hf⟩
    have U9:=G.call gr;exact W _ F2 H2 U9 Y gr.h ⟨D,A,rfl,hH2,fD,G.base.free I,G.lw gr.f<|G.fresh I,ra⟩
end
section
variable{X:Cx}{cm:String->À}{E:ă->XK}{elt tg iter:Ç}{ifs:List Ç}{scope:û}{pos:Pos}{mi:M (List PV)}{g:Tg}{mt:M Bool}{me:M PV}
def zJ(h:tO ∅ E (Ģ js nl mi g mt me) d H Q):vN js nl (tG ∅ E (FQ<|kk X cm) mi) (tT ∅ g) (tB ∅ EF mt) (tV ∅ EF me) d H Q:=
 vT (λh c i j H d e r a b x=>h c i j H d e r a b) h
def IB(N':List Str)(js:List Nat)(nl:Nat)(sc:û)(l:X.env.scope=sc)(e:X.calm=Δ)
 (p:PI X.ar tg iter (tG ∅ E (FQ<|kk X cm) mi))(q:∀cl C s H fp,PG (km X.ar N' scope cl C s H fp) tg<|tT ∅ g)(m:∀cl C s H fp,CP (km X.ar N' scope cl C s H fp) ifs<|tB ∅ EF mt)(he:∀cl C s H fp,PE (km X.ar N' scope cl C s H fp) elt<|tV ∅ EF me)
 (i:gG X.ar sc scope N' js)(f:autoParam (js.length+nl=N'.length) Η)
 (o:autoParam (scope.kind=.function) Η)(d:autoParam (∀y∈scope.names,y.2=.cell->scope.names.lookup y.1=Α .cell) Κ)(b:autoParam (∀y∈scope.names,y.2=.local->scope.names.lookup y.1=Α .local) Κ)
 (c:autoParam (∀y∈scope.names,y.2=.free->(sc.names.lookup y.1=Α .cell\/sc.names.lookup y.1=Α .free)) Κ)
 (n:autoParam (∀x,de iter X.env x=pure x) Ν):
 PE X (.ListComp elt [⟨tg,iter,ifs,0⟩] scope pos) (tO ∅ E<|Ģ js nl mi g mt me):=
 PE.wk (PE.ar<|CQ N' js nl sc l e p q m he i f o d b c n) λz z z h=>zJ h
end
open M4
noncomputable abbrev bits(x:Int):Nat:=sS x
section
variable{X:Cx}{cm:String->À}{K:KK}
def J2(K:Ï):R2:=λx y H Q=>∃l b d c,x=.ref l/\y=.ref b/\ż K H l d/\ż K H b c/\d.length+c.length<=sizeLine/\∀p,H p=Β->Q (.ref p) (upd H p<|.lst<|d++c)
def IC:aQ X (ŉ .Add) (J2 X.K):=by
 intro Å s a H x y v u Q I w t h;refine BL λZ=>?_;obtain⟨l,b,xs,zs,rfl,rfl,E,G,hz,q⟩:=h;cases w;cases t;obtain⟨j,r,A,z⟩:=I.list E;obtain⟨k,m,N,z2⟩:=I.list G;obtain⟨⟨c1,d1,t1,O⟩,n,e,D,hd,C⟩:=A;obtain⟨⟨c2,d2,t2,U⟩,B,o,R,L,p⟩:=N;refine Z ?_;subst D hd C R L p;have hl:=r.length;have HD:=m.length;have J:j.toArray++k.toArray=(j++k).toArray:=by simp
 refine concat_meets ⟨_,e,rfl⟩ ⟨_,o,rfl⟩ noFill_list_add seq_list_add PySem.F.slot_list_add PySem.F.entry_list_add (PySem.F.args_list_add_2 _ _) (list_addW l b j.toArray k.toArray n B Β Β O U (by simp only[Ł];lia)) ⟨e,o,?_⟩;rw[J];exact⟨.ref _,_,I.UP (r.append m) (by rw[ŭ];lia),rfl,q _ I.fresh⟩
def J3(K:Ï):R2:=λx y H Q=>∃l b d c,x=.ref l/\y=.ref b/\jH K H l d/\jH K H b c/\d≠[]/\c≠[]/\d.length+c.length<=sizeLine/\∀p,H p=Β->Q (.ref p) (upd H p<|.tup<|d++c)
def ID:aQ X (ŉ .Add) (J3 X.K):=by
 intro Å s a H x y v u Q I L J h;refine BL λV=>?_;obtain⟨l,b,G,E,rfl,rfl,Y,Z,R,O,hz,q⟩:=h;cases L;cases J;obtain⟨j,r,N,z⟩:=I.tuple Y;obtain⟨k,w,Va,z2⟩:=I.tuple Z;obtain⟨⟨c1,d1,t1,Pf⟩,e,W,n,hd⟩:=N;obtain⟨⟨c2,d2,t2,Hk⟩,B,NT,U,Yk⟩:=Va;refine V ?_;subst W hd NT Yk;have A:=r.length;have C:=w.length;have t:j≠[]:=λz=>by rw[z]at A;exact R<|oO.mp A
 have p:k≠[]:=λz=>by rw[z]at C;exact O<|oO.mp C
 have ea:j.toArray++k.toArray=(j++k).toArray:=by simp
 refine concat_meets ⟨_,e,rfl⟩ ⟨_,B,rfl⟩ noFill_tuple_add seq_tuple_add PySem.F.slot_tuple_add PySem.F.entry_tuple_add (PySem.F.args_tuple_add_2 _ _) (tuple_addW2 l b j.toArray k.toArray n U d1 d2 Pf Hk (by simpa using t) (by simpa using p) (by simp only[Ł];lia)) ⟨e,B,?_⟩;rw[ea];exact⟨.ref _,_,I.laid (o:=.tup<|G++E) (λc c q=>Ć _ q) (õ _) ⟨by rw[ŭ];lia,(j++k),r.append w,⟨_,ĵ _ rfl,rfl,_,rfl⟩⟩,rfl,q _ I.fresh⟩
noncomputable def é:PV->PV->Option RV
 |.int i,.int j=>Α<|.sh<|.int<|i+j|.str i,.str j=>if i.length+j.length<=16777216then Α (.sh<|.str<|i++j)else Β|.lst b,.lst a=>if b.length+a.length<=16777216then Α (.ow<|b++a)else Β|.tup (p::b),.tup (q::a)=>if(p::b).length+(q::a).length<=16777216then Α (.sh<|.tup<|(p::b)++(q::a))else Β|_,_=>Β
def J4(K:Ï):R2:=λx y H Q=>O_ x y H Q\/(J2 K x y H Q\/J3 K x y H Q)
def L0:aQ X (ŉ .Add) (J4 X.K):=LA.or<|IC.or ID
def L7:U2 K (J4 K.K) é:=by
 intro c F H f g p q pv v u Q rel o n e k;unfold é at e;split at e
 ·cases e;cases o.int;cases n.int;exact .inl<|k _ F H rel Č Č<|Ē.int (K:=K) (F:=F)
 ·split at e
  ·rename_i d;cases e;cases o.str;cases n.str;exact .inl ⟨by exact d,k _ F H rel Č Č<|Ē.str (K:=K) (F:=F)⟩
  ·cases e
 ·split at e
  ·rename_i d;cases e;refine BL λZ=>?_;obtain⟨a,m,rfl,y,i⟩:=o.lst rel.sub;obtain⟨b,j,rfl,x,h⟩:=n.lst rel.sub;refine Z ?_;refine .inr (.inl ⟨a,b,m,j,rfl,rfl,y,x,by rw[<-i.length,<-h.length,ġ];exact d,λd hd=>?_⟩);obtain⟨D,C⟩:=gH rel hd<|ç.append i h;exact k _ F _ D Č (Ù.upd hd) C
  ·cases e
 ·split at e
  ·rename_i d;cases e;obtain⟨a,m,rfl,y,i⟩:=o.tup rel.sub;obtain⟨b,j,rfl,x,h⟩:=n.tup rel.sub;have w:=i.length;have t:=h.length;refine .inr (.inr ⟨a,b,m,j,rfl,rfl,y,x,(λz=>by rw[z]at w;cases w),(λz=>by rw[z]at t;cases t),by rw[<-w,<-t,ġ];exact d,λl r=>k _ _ _ (rel.alloc r) (Ù.upd<|rel.sub.free r) (Ù.upd r) ?_⟩);exact⟨l,m++j,rfl,jH.of ā,ç.same (Ù.upd<|rel.sub.free r) _ _<|ç.append i h⟩
  ·cases e
 ·cases e
noncomputable def zr(g:Int->Int->Int):PV->PV->Option PV
 |.int i,.int j=>Α<|.int<|g i j|_,_=>Β
noncomputable def CH(C:Int->Int->Bool)(g:Int->Int->Int):PV->PV->Option PV
 |.int i,.int j=>if C i j=Δ then Α (.int<|g i j)else Β|_,_=>Β
noncomputable def Ph(g:Int->Int->Bool):PV->PV->Option PV
 |.int i,.int j=>Α<|.bl<|g i j|_,_=>Β
def J5:kZ K (D8 λi j=>.int<|g i j) (zr g):=by
 intro c F H a b p q pv v u Q rel h f e k;unfold zr at e;split at e
 ·cases e;cases h.int;cases f.int;exact k _ F H rel Č Č Ē.int
 ·cases e
def L8:kZ K (D8 λi j=>.bl<|g i j) (Ph g):=by
 intro c F H a b p q pv v u Q rel h f e k;unfold Ph at e;split at e
 ·cases e;cases h.int;cases f.int;exact k _ F H rel Č Č Ē.bl
 ·cases e
def FU(m:∀i j,C i j=Δ->n i j):kZ K (mI n λi j=>.int<|g i j) (CH C g):=by
 intro c F H a b p q pv v u Q rel h f e k;unfold CH at e;split at e
 ·split at e
  ·rename_i l;cases e;cases h.int;cases f.int;exact⟨m _ _ l,k _ F H rel Č Č Ē.int⟩
  ·cases e
 ·cases e
def Ϻ:=zr λi j=>i-j
def L9:kZ K (D8 λi j=>.int<|i-j) Ϻ:=J5
def pU(_ j:Int):Bool:=decide (j≠0)&&decide (bits j<=8000)
def cT:=CH pU λi j=>i.fdiv j
def Ma:kZ K (mI Fo λi j=>.int<|i.fdiv j) cT:=FU λi j h=>by unfold pU at h;simpa[Fo]using h
noncomputable def C4(_ j:Int):Bool:=decide<|j≠0
def Ĭ:=CH C4 λi j=>i.fmod j
def Mb:kZ K (mI (λx j=>j≠0) λi j=>.int<|i.fmod j) Ĭ:=FU λi j h=>by unfold C4 at h;simpa using h
noncomputable def zK(i j:Int):Bool:=decide (0<=j)&&decide (j.natAbs<=1000000)&&decide (i.natAbs<18446744073709551616)
def zL:=CH zK λi j=>i^j.toNat
def FV:kZ K (mI DX λi j=>.int<|i^j.toNat) zL:=FU λi j h=>by unfold zK at h;simp only[þ,decide_eq_true_eq]at h;exact⟨h.1.1,by lia,by have:=h.2;simpa using this⟩
noncomputable def um(i j:Int):Bool:=decide (0<=j)&&decide (j.natAbs<=1000000)&&decide (i.natAbs<18446744073709551616)
def zM:=CH um λi j=>i*2^j.toNat
def Bb:kZ K (mI DX λi j=>.int<|i*2^j.toNat) zM:=FU λi j h=>by unfold um at h;simp only[þ,decide_eq_true_eq]at h;exact⟨h.1.1,by lia,by have:=h.2;simpa using this⟩
noncomputable def pV(_ j:Int):Bool:=decide<|0<=j
def pX:=CH pV λi j=>i/2^j.toNat
def Bc:kZ K (mI (λx j=>0<=j) λi j=>.int<|i/2^j.toNat) pX:=FU λi j h=>by unfold pV at h;simpa using h
def fv:=zr λi j=>dn i j
def tJ:kZ K (D8 λi j=>.int<|dn i j) fv:=J5
def Bd:aQ X (ŉ .LShift) (mI DX λi j=>.int<|i*2^j.toNat):=aQ.wk Li vM
def Be:aQ X (ŉ .RShift) (mI (λx j=>0<=j) λi j=>.int<|i/2^j.toNat):=aQ.wk Lj vM
def tK:aQ X (ŉ .BitAnd) (D8 λi j=>.int<|dn i j):=aQ.wk Lk uf
def lC:=Ph λi j=>decide<|i<j
def gi:=Ph λi j=>decide<|i<=j
def Bf:=Ph λi j=>decide<|j<i
def iJ:kZ K (D8 λi j=>.bl<|decide<|i<j) lC:=L8
def cb:kZ K (D8 λi j=>.bl<|decide<|i<=j) gi:=L8
def zN:kZ K (D8 λi j=>.bl<|decide<|j<i) Bf:=L8
def Ŷ(i j:Int):Bool:=decide (i.natAbs<18446744073709551616)||decide (j.natAbs<18446744073709551616)||(decide (bits i<=1048576)&&decide (bits j<=1048576))
def FX(h:Ŷ i j=Δ):zC i j:=by
 unfold Ŷ at h;simp only[oE,þ,decide_eq_true_eq]at h;rcases h with(h|h)|h
 ·exact .inl (.inl ⟨by lia,by lia⟩)
 ·exact .inl (.inr ⟨by lia,by lia⟩)
 ·exact .inr h
def Ĝ:PV->PV->Option PV
 |.int i,.int j=>if Ŷ i j=Δ then Α (.int<|i*j)else Β|.str z,.int n=>if 0<=n/\n<=1000/\z.length<=1000then Α (.str<|S (ý n.toNat z.cps.toList).flatten)else Β|_,_=>Β
def Mc:kZ K Fy Ĝ:=by
 intro c F H a b p q pv v u Q rel g f e k;unfold Ĝ at e;split at e
 ·split at e
  ·rename_i d;cases e;cases g.int;cases f.int;exact⟨FX d,k _ F H rel Č Č Ē.int⟩
  ·cases e
 ·split at e
  ·rename_i d;cases e;cases g.str;cases f.int;exact⟨d,k _ F H rel Č Č Ē.str⟩
  ·cases e
 ·cases e
variable{E:ă->XK}{a b e:Ç}{pos:Pos}{ma:M PV}
noncomputable def ϳ:PV->Option PV
 |.int i=>Α<|.int<|-i|_=>Β
def cr:U3 K (mU λi=>.int<|-i) ϳ:=by
 intro c F H d f p pv v Q rel h e k;unfold ϳ at e;split at e
 ·cases e;cases h.int;exact k _ F H rel Č Č Ē.int
 ·cases e
mutual
def ck:PV->PV->Bool
 |.non,.non=>Δ|.bl a,.bl b=>a==b|.bl a,.int j=>(if a then 1 else 0)==j|.int i,.bl b=>i==(if b then 1 else 0)|.int i,.int j=>i==j|.str x,.str y=>x==y|.lst xs,.lst ys=>hV xs ys|.tup xs,.tup ys=>hV xs ys|_,_=>Ε
def hV:List PV->List PV->Bool
 |[],[]=>Δ|x::xs,y::ys=>ck x y&&hV xs ys|_,_=>Ε
end
mutual
def Ų:PV->Bool
 |.non|.bl _|.int _=>Δ|.str x=>ė x|.lst xs=>Ϩ xs|.tup xs=>Ϩ xs|_=>Ε
def Ϩ:List PV->Bool
 |[]=>Δ|x::xs=>Ų x&&Ϩ xs
end
mutual
def oz:PV->Nat
 |.lst xs=>jj xs+1|.tup xs=>jj xs+1|_=>0
def jj:List PV->Nat
 |[]=>0|x::xs=>max (oz x)<|jj xs
end
mutual
def jG:PV->aO
 |.non=>.none|.bl b=>.bool b|.int i=>.int i|.str x=>.str x|.lst xs=>.list<|jk xs|.tup xs=>.tuple<|jk xs|_=>.none
def jk:List PV->List aO
 |[]=>[]|x::xs=>jG x::jk xs
end
mutual
theorem kr:∀p:PV,Ų p=Δ->(jG p).canLay0=Δ
 |.non,_=>rfl|.bl _,_=>rfl|.int _,_=>rfl|.str x,h=>by unfold Ų at h;unfold jG xG;exact h|.lst xs,h=>by unfold Ų at h;unfold jG xG;exact lE xs h|.tup xs,h=>by unfold Ų at h;unfold jG xG;exact lE xs h|.ins _ _ _,h=>by simp[Ų]at h|.xc _ _ _,h=>by simp[Ų]at h|.ty _,h=>by simp[Ų]at h|.cls _,h=>by simp[Ų]at h|.FE _ _,h=>by simp[Ų]at h
theorem lE:∀ps:List PV,Ϩ ps=Δ->j_ (jk ps)=Δ
 |[],_=>rfl|p::ps,h=>by unfold Ϩ at h;rw[þ]at h;unfold jk j_;rw[kr p h.1,lE ps h.2];rfl
end
mutual
theorem kt:∀p:PV,(jG p).depth=oz p
 |.non=>rfl|.bl _=>rfl|.int _=>rfl|.str x=>rfl|.lst xs=>by unfold jG PyData.depth oz;rw[uo xs]|.tup xs=>by unfold jG PyData.depth oz;rw[uo xs]|.ins _ _ _=>rfl|.xc _ _ _=>rfl|.ty _=>rfl|.cls _=>rfl|.FE _ _=>rfl
theorem uo:∀ps:List PV,PyData.depthAll (jk ps)=jj ps
 |[]=>rfl|p::ps=>by unfold jk PyData.depthAll jj;rw[kt p,uo ps]
end
mutual
theorem yu:∀p q:PV,Ų p=Δ->Ų q=Δ->ł (jG p) (jG q)=ck p q
 |.lst xs,.lst ys,h1,h2=>by unfold Ų at h1 h2;unfold jG ck ł;exact yx xs ys h1 h2|.tup xs,.tup ys,h1,h2=>by unfold Ų at h1 h2;unfold jG ck ł;exact yx xs ys h1 h2|.ins _ _ _,_,h,_=>by simp[Ų]at h|.xc _ _ _,_,h,_=>by simp[Ų]at h|.ty _,_,h,_=>by simp[Ų]at h|.cls _,_,h,_=>by simp[Ų]at h|.FE _ _,_,h,_=>by simp[Ų]at h|.non,q,_,h=>by cases q<;>first|rfl|(simp[Ų]at h)|(simp[jG,ck,ł])
 |.bl _,q,_,h=>by cases q<;>first|rfl|(simp[Ų]at h)|(simp[jG,ck,ł])
 |.int _,q,_,h=>by cases q<;>first|rfl|(simp[Ų]at h)|(simp[jG,ck,ł])
 |.str _,q,_,h=>by cases q<;>first|rfl|(simp[Ų]at h;done)|(simp[jG,ck,ł])
 |.lst _,.non,_,_=>by simp[jG,ck,ł]|.lst _,.bl _,_,_=>by simp[jG,ck,ł]|.lst _,.int _,_,_=>by simp[jG,ck,ł]|.lst _,.str _,_,_=>by simp[jG,ck,ł]|.lst _,.tup _,_,_=>by simp[jG,ck,ł]|.lst _,.ins _ _ _,_,h=>by simp[Ų]at h|.lst _,.xc _ _ _,_,h=>by simp[Ų]at h|.lst _,.ty _,_,h=>by simp[Ų]at h|.lst _,.cls _,_,h=>by simp[Ų]at h|.lst _,.FE _ _,_,h=>by simp[Ų]at h|.tup _,.non,_,_=>by simp[jG,ck,ł]|.tup _,.bl _,_,_=>by simp[jG,ck,ł]|.tup _,.int _,_,_=>by simp[jG,ck,ł]|.tup _,.str _,_,_=>by simp[jG,ck,ł]|.tup _,.lst _,_,_=>by simp[jG,ck,ł]|.tup _,.ins _ _ _,_,h=>by simp[Ų]at h|.tup _,.xc _ _ _,_,h=>by simp[Ų]at h|.tup _,.ty _,_,h=>by simp[Ų]at h|.tup _,.cls _,_,h=>by simp[Ų]at h|.tup _,.FE _ _,_,h=>by simp[Ų]at h
theorem yx:∀ps qs:List PV,Ϩ ps=Δ->Ϩ qs=Δ->ph (jk ps) (jk qs)=hV ps qs
 |[],[],_,_=>by simp[jk,hV,ph]|[],_::_,_,_=>by simp[jk,hV,ph]|_::_,[],_,_=>by simp[jk,hV,ph]|p::ps,q::qs,h1,h2=>by unfold Ϩ at h1 h2;rw[þ]at h1 h2;unfold jk hV ph;rw[yu p q h1.1 h2.1,yx ps qs h1.2 h2.2]
end
mutual
theorem FY{F:Hp}:∀(p:PV) (v:V),Ų p=Δ->Ē K F p v->Rp K.K F (jG p) v
 |.non,_,_,r=>by unfold Ē at r;unfold jG Rp;exact r|.bl _,_,_,r=>by unfold Ē at r;unfold jG Rp;exact r|.int _,_,_,r=>by unfold Ē at r;unfold jG Rp;exact r|.str _,_,_,r=>by unfold Ē at r;unfold jG Rp;exact r|.lst xs,_,h,r=>by unfold Ų at h;unfold Ē at r;unfold jG Rp;obtain⟨a,vs,h1,h2,h3⟩:=r;exact⟨a,vs,h1,h2,m_ xs vs h h3⟩|.tup xs,_,h,r=>by unfold Ų at h;unfold Ē at r;unfold jG Rp;obtain⟨a,vs,h1,h2,h3⟩:=r;exact⟨a,vs,h1,h2,m_ xs vs h h3⟩|.ins _ _ _,_,h,_=>by simp[Ų]at h|.xc _ _ _,_,h,_=>by simp[Ų]at h|.ty _,_,h,_=>by simp[Ų]at h|.cls _,_,h,_=>by simp[Ų]at h|.FE _ _,_,h,_=>by simp[Ų]at h
theorem m_{F:Hp}:∀(ps:List PV) (vs:List V),Ϩ ps=Δ->ç K F ps vs->pI K.K F (jk ps) vs
 |[],_,_,r=>by unfold ç at r;unfold jk pI;exact r|p::ps,_,h,r=>by unfold Ϩ at h;rw[þ]at h;unfold ç at r;unfold jk pI;obtain⟨x,t,h1,h2,h3⟩:=r;exact⟨x,t,h1,FY p x h.1 h2,m_ ps t h.2 h3⟩
end
def nc{b:ă}(s:Ù F H)(h:Ų p=Δ)(r:rR K c b d F H p v):Rp K.K H (jG p) v:=by
 rcases r with r|r
 ·exact Rp.same s _ _<|FY p v h r
 ·cases p with
  |lst g=>obtain⟨a,f,rfl,k,j⟩:=r;exact⟨a,f,rfl,ż.of k,pI.same s _ _<|m_ g f h j⟩|ins C ns g=>simp[Ų]at h|_=>exact r.elim
noncomputable def nu(p q:PV):Bool:=Ų p&&Ų q&&decide (min (oz p) (oz q)<=60)
def ķ(p q:PV):Option PV:=if nu p q=Δ then Α (.bl<|ck p q)else Β
def ϕ(p q:PV):Option PV:=if nu p q=Δ then Α (.bl<|!ck p q)else Β
def FZ:kZ K (Ij K.K Ε) ķ:=by
 intro c F H a b p q pv v u Q rel h g e k;unfold ķ at e;split at e
 ·rename_i f;cases e;unfold nu at f;simp only[þ,decide_eq_true_eq]at f;refine⟨jG p,jG q,nc rel.sub f.1.1 h,nc rel.sub f.1.2 g,kr p f.1.1,kr q f.1.2,by rw[kt,kt];exact f.2,?_⟩;rw[yu p q f.1.1 f.1.2];exact k _ F H rel Č Č Ē.bl
 ·cases e
def nB:kZ K (Ij K.K Δ) ϕ:=by
 intro c F H a b p q pv v u Q rel h g e k;unfold ϕ at e;split at e
 ·rename_i f;cases e;unfold nu at f;simp only[þ,decide_eq_true_eq]at f;refine⟨jG p,jG q,nc rel.sub f.1.1 h,nc rel.sub f.1.2 g,kr p f.1.1,kr q f.1.2,by rw[kt,kt];exact f.2,?_⟩;rw[yu p q f.1.1 f.1.2];exact k _ F H rel Č Č Ē.bl
 ·cases e
noncomputable def tM:PV->Bool
 |.non=>Δ|_=>Ε
def rQ(p q:PV):Option PV:=match q with
 |.non=>Α<|.bl<|tM p|_=>Β
def ng(p q:PV):Option PV:=match q with
 |.non=>Α<|.bl<|!tM p|_=>Β
def C5{b:ă}(r:rR K c b d F H p v):decide (v=.non)=tM p:=by
 rcases r with r|r
 ·cases p<;>unfold Ē at r<;>first
   |(subst r;rfl)
   |(obtain⟨a,f,rfl,_⟩:=r;rfl)
   |(obtain⟨a,f,ys,rfl,_⟩:=r;rfl)
 ·cases p with
  |lst g=>obtain⟨a,vs,rfl,_⟩:=r;rfl|ins C ns g=>obtain⟨a,dx,fs,rfl,_⟩:=r;rfl|_=>exact r.elim
def rk:kZ K (λx y H Q=>y=.non/\Q (.bl<|decide<|x=.non) H) rQ:=by
 intro c F H a b p q pv v u Q rel g f e k;unfold rQ at e;split at e
 ·cases e;refine⟨f.non,?_⟩;rw[C5 g];exact k _ F H rel Č Č Ē.bl
 ·cases e
def zO:kZ K (λx y H Q=>y=.non/\Q (.bl<|!decide (x=.non)) H) ng:=by
 intro c F H a b p q pv v u Q rel g f e k;unfold ng at e;split at e
 ·cases e;refine⟨f.non,?_⟩;rw[C5 g];exact k _ F H rel Č Č Ē.bl
 ·cases e
def Þ:PV->PV->Option PV
 |.lst d,.int i=>mY d i|.tup d,.int i=>mY d i|.str z,.int i=>if z.length<=16777216then(mY z.cps.toList i).map λc=>.str ⟨#[c]⟩else Β
 |_,_=>Β
def C6(r:ç K F c vs)(h:mY c i=Α p):∃v,mY vs i=Α v/\Ē K F p v:=by
 unfold mY at h⊢;rw[r.length]at h;cases e:Hr vs.length i with
 |none=>rw[e]at h;cases h|some j=>rw[e]at h;obtain⟨v,f,d⟩:=cq r.pr h;exact⟨v,f,d⟩
def J6:kZ K (mIx K.K) Þ:=by
 intro c F H b d p q pv v u Q rel h g e k;unfold Þ at e;split at e
 ·obtain⟨a,f,rfl,n,m⟩:=h.lst rel.sub;cases g.int;obtain⟨x,l,j⟩:=C6 m e;exact⟨f,x,.inl n,l,k _ F H rel Č Č j⟩
 ·obtain⟨a,f,rfl,n,m⟩:=h.tup rel.sub;cases g.int;obtain⟨x,l,j⟩:=C6 m e;exact⟨f,x,.inr n,l,k _ F H rel Č Č j⟩
 ·split at e
  ·rename_i z i r;cases h.str;cases g.int;cases o:mY z.cps.toList i with
   |none=>rw[o]at e;cases e|some s=>rw[o]at e;cases e;exact⟨s,by exact r,o,k _ F H rel Č Č Ē.str⟩
  ·cases e
 ·cases e
@[simp]def jm(a:ć):Ĳ (Option Int):=.ok Β a
@[simp]def mP(m:M PV)(b:ć):Ĳ (Option Int):=(m b).bind fun p a=>match p with
  |.int i=>.ok (Α i) a|_=>.bad
abbrev tP(K:KK)(E:ă->XK)(m:M (Option Int)):TO:=tG K E rI m
def dC:PO X Β (tP ∅ E jm):=λÅ s a H Q I h=>HY Å s a H Q I (by
 obtain⟨c,F,b,rel,h⟩:=h;exact h Β F H rel Č Č rfl)
def Œ(n:PE X e (tV ∅ E ma)):PO X (Α e) (tP ∅ E<|mP ma):=λÅ s a H Q I h=>Ft n Å s a H Q I (by
 obtain⟨c,F,b,rel,h⟩:=h;refine⟨c,F,b,rel,h.bind λp d v q o l x x m j=>?_⟩;cases p with
 |int i=>
  have e:=by have g:=m;exact g
  subst e;exact j (Α i) q o l Č Č rfl
 |_=>exact j.elim)
def cx{α:Type}(xs:List α)(lo hi:Option Int):List α:=(xs.drop<|HT.kO xs.length 0 lo).take (HT.kO xs.length xs.length hi-HT.kO xs.length 0 lo)
def R9(p:PV)(c d:Option Int):Option RV:=match p with
 |.lst f=>Α<|.ow<|cx f c d|.str z=>if z.length<=16777216then Α (.sh<|.str<|S<|cx z.cps.toList c d)else Β|_=>Β
@[simp]def pY(ma:M PV)(i j:M (Option Int))(d:ć):Ĳ RV:=(ma d).bind λp a=>(i a).bind λlo b=>(j b).bind λhi c=>Ĳ.zG (R9 p lo hi) c
def Ũ{ml mh:M (Option Int)}{lo hi:Option Ç}{p2:Pos}(ha:PE X a (tR ∅ E ma))(hl:PO X lo (tP ∅ E ml))(hh:PO X hi (tP ∅ E mh)):PE X (.Subscript a (.Slice lo hi Β p2) pos) (tO ∅ E<|pY ma ml mh):=
 PE.wk (Fd slm ha hl hh) fun i H Q ⟨c,F,j,rel,h⟩=>⟨c,F,j,rel,h.bind fun p b v F1 H1 Û _ _ r1 h1=>⟨c,F1,b,Û,h1.bind fun lo f lo' F2 H2 Ě sF sH r2 h2=>⟨c,F2,f,Ě,h2.bind fun hi g HF F3 H3 g_ Sa sH3 r3 h3=>by
   have e2:=r2;have e3:=r3;subst e2 e3;have k_:rR ∅ c i g F3 H3 p v:=r1.mono (sF.trans Sa)<|sH.trans sH3;cases p with
   |lst ps=>
    obtain⟨a,vs,rfl,q1,q2⟩:=k_.lst g_.sub;refine⟨vs,q1,λd hd=>?_⟩;have e:ç ∅ F3 (cx ps lo hi) (AW vs lo hi):=by unfold cx AW;rw[q2.length];exact ç.of<|CW _<|CY _ q2.pr
    obtain⟨z1,z2⟩:=gH g_ hd e;exact h3 _ F3 _ z1 Č (Ù.upd hd) z2
   |str z=>
    cases k_.str;unfold R9 at h3;dsimp only at h3;split at h3
    ·rename_i hz;exact⟨by rw[ġ];exact hz,h3 _ F3 H3 g_ Č Č<|Ē.str (K:=kk X cm) (F:=F3)⟩
    ·exact h3.elim
   |_=>exact h3.elim⟩⟩⟩
def vp{a:ă}{b:ć}(h:LS K c a b F H [p] vs):∃v,vs=[v]/\rR K c a b F H p v:=by
 cases h with
 |cons r t=>cases t;exact⟨_,rfl,r⟩
def Vb{a:ă}{b:ć}(h:LS K c a b F H [p,q] vs):∃v u,vs=[v,u]/\rR K c a b F H p v/\rR K c a b F H q u:=by
 cases h with
 |cons r t=>
  cases t with
  |cons d t=>cases t;exact⟨_,_,rfl,r,d⟩
noncomputable def bP:List PV->Option PV
 |[.lst c]=>Α<|.int c.length|[.tup c]=>Α<|.int c.length|[.str z]=>if z.length<=16777216then Α (.int z.length)else Β|_=>Β
def Ś:eZ K (LF K.K) bP:=by
 intro c F H b d ps pv vs Q rel r e k;unfold bP at e;split at e
 ·cases e;obtain⟨v,rfl,f⟩:=vp r;obtain⟨a,g,rfl,i,h⟩:=f.lst rel.sub;refine⟨g,.inl i,?_⟩;rw[<-h.length];exact k _ F H rel Č Č Ē.int
 ·cases e;obtain⟨v,rfl,f⟩:=vp r;obtain⟨a,g,rfl,i,h⟩:=f.tup rel.sub;refine⟨g,.inr i,?_⟩;rw[<-h.length];exact k _ F H rel Č Č Ē.int
 ·split at e
  ·rename_i j;cases e;obtain⟨v,rfl,f⟩:=vp r;cases f.str;exact⟨by exact j,k _ F H rel Č Č Ē.int⟩
  ·cases e
 ·cases e
noncomputable def Bg:List PV->Option PV
 |[.int i]=>Α<|.int<|if i<0then -i else i|_=>Β
def yz:eZ K NO Bg:=by
 intro c F H a b ps pv vs Q rel r e k;unfold Bg at e;split at e
 ·cases e;obtain⟨v,rfl,d⟩:=vp r;cases d.int;exact k _ F H rel Č Č Ē.int
 ·cases e
noncomputable def C7:List PV->Option PV
 |[.int i,.int j]=>Α<|.int<|if j<i then j else i|_=>Β
noncomputable def C8:List PV->Option PV
 |[.int i,.int j]=>Α<|.int<|if j>i then j else i|_=>Β
def IE:eZ K Fq C7:=by
 intro c F H a b ps pv vs Q rel r e k;unfold C7 at e;split at e
 ·cases e;obtain⟨v,u,rfl,f,d⟩:=Vb r;cases f.int;cases d.int;exact k _ F H rel Č Č Ē.int
 ·cases e
def IF:eZ K Fs C8:=by
 intro c F H a b ps pv vs Q rel r e k;unfold C8 at e;split at e
 ·cases e;obtain⟨v,u,rfl,f,d⟩:=Vb r;cases f.int;cases d.int;exact k _ F H rel Č Č Ē.int
 ·cases e
noncomputable def jo:List PV->Option RV
 |[.lst c]=>Α<|.ow c|[.tup c]=>Α<|.ow c|_=>Β
def C9(K:Ï):List V->Hp->VK->Prop:=λxs H Q=>∃p c,xs=[.ref p]/\(ż K H p c\/jH K H p c)/\∀l,H l=Β->Q (.ref l) (upd H l<|.lst c)
def eP:Ŝ X (.type "list") (C9 X.K):=yg
def eQ:FN K (C9 K.K) jo:=by
 intro c F H b d ps pv vs Q rel r e k;unfold jo at e;split at e
 ·cases e;obtain⟨v,rfl,i⟩:=vp r;obtain⟨a,h,rfl,n,m⟩:=i.lst rel.sub;refine⟨a,h,rfl,.inl n,λl f=>?_⟩;obtain⟨l,j⟩:=gH rel f m;exact k _ F _ l Č (Ù.upd f) j
 ·cases e;obtain⟨v,rfl,i⟩:=vp r;obtain⟨a,h,rfl,n,m⟩:=i.tup rel.sub;refine⟨a,h,rfl,.inr n,λl f=>?_⟩;obtain⟨l,j⟩:=gH rel f m;exact k _ F _ l Č (Ù.upd f) j
 ·cases e
end
theorem zP{K:KK}:∀ns:List Int,ç K F (ns.map .int)<|ns.map V.int
 |[]=>ç.nil|n::ns=>ç.cons Ē.int<|zP ns
def Pj(K:Ï):Sp:=λvs H Q x=>∃(b:À) (c:List Int),vs=[.ref b]/\ż K H b (c.map V.int)/\c.length<=63/\∀v d,v=.bl Δ->Q v d
def F_{l:mV}{k:Nat}{x:Str}{CX:gX}{m:MF}{q:ï}{N:List Str}{XP:(Str->Option Á)->Ô->Prop}{C:ã->Ô->Prop}{d:DefRec}{K:ip->Ï}(Z:l.most=Α 63)(NJ:d.params.defaults=[])(X:Ń k iq)
 (hY:∀(w:ã) (h:Ô),C w h->(K w.params).In h)
 (F:∀(w:ã) (mg:Str→Option Á) (j:À) (h:Ô),(K w.params).In h→h.Ns đ mg→mg d.name=Α (.ref j)→
   ∃i:ą,(∀(s:Ä) (u:Á),fV s i ⟨[u],[]⟩ [(x,u)])/\∀base:Ô,(K w.params).In base->base.Ns đ mg->∃A,Ϲ l.prog w (K w.params) mg base CX k j i [x] (rj ⟨K w.params,A⟩ 1 m))
 (U:∀ns:List Int,ns.length<=63->m [.sh<|.lst<|ns.map .int]=.ret (.sh<|.bl Δ))
 (OW:∀(H:Hp) (s:Ä) (e:Á) (s':Ä),CX [] H s (λb b b=>False) e s'->False)
 (hnt:lams≠[]->∀w:ã,tD (K w.params)=Δ:=by intro z;exact absurd rfl z)(EA:autoParam (∀y z,y∈lams->z∈lams->y=z) Τ)(hrec:autoParam (∀y,y∈lams->∃d,(sK q).find? (λe=>e.name==y)=Α d) Τ):
 tz q N XP C l.row.toRowW d [] (λf vs=>sO f vs):=by
 refine L2.Ic (x:=x) (sp:=λw=>Pj<|K w.params) Z (by decide) NJ X hY (λw mg j h h1 h2 h3=>?_) (λw H a ns r b t=>⟨a,ns,rfl,t,r,λb b z=>z⟩) (λw H s e s' z=>OW H s e s' z) hnt EA hrec;obtain⟨i,hb,hF⟩:=F w mg j h h1 h2 h3;refine⟨i,hb,λbase R O=>?_⟩;obtain⟨A,G⟩:=hF base R O;refine G.imp λvs H Q E W=>?_;obtain⟨J,ns,rfl,t,r,Y⟩:=W;refine⟨H,[.sh<|.lst<|ns.map .int],rfl,Ù.refl _,.cons ?_ .nil,?_⟩
 ·show Ē _ _ _ _;exact⟨J,_,rfl,t,zP ns⟩
 ·rw[U ns r];intro v F' H' g L;have e:=qJ (K:=⟨K w.params,A⟩) (F:=F') L;exact Y v H' e
section
variable{X:Cx}{K:KK}
noncomputable def qK:List PV->Option PV
 |[.lst a]=>Α<|.tup a|[.tup a]=>Α<|.tup a|_=>Β
def F0(K:Ï):List V->Hp->VK->Prop:=λxs H Q=>∃p a,xs=[.ref p]/\((ż K H p a/\∀l,H l=Β->Q (.ref l) (upd H l<|.tup a))\/(jH K H p a/\Q (.ref p) H))
def zQ:Ŝ X (.type "tuple") (F0 X.K):=vn
def zR:eZ K (F0 K.K) qK:=by
 intro c F H b d ps pv vs Q rel r e k;unfold qK at e;split at e
 ·cases e;obtain⟨v,rfl,g⟩:=vp r;obtain⟨a,f,rfl,i,j⟩:=g.lst rel.sub;refine⟨a,f,rfl,.inl ⟨i,λl h=>k _ _ _ (rel.alloc h) (Ù.upd<|rel.sub.free h) (Ù.upd h) ?_⟩⟩;exact⟨l,f,rfl,jH.of ā,ç.same (Ù.upd<|rel.sub.free h) _ _ j⟩
 ·cases e;obtain⟨v,rfl,g⟩:=vp r;have n:=g;obtain⟨a,f,rfl,i,j⟩:=g.tup rel.sub;refine⟨a,f,rfl,.inr ⟨i,k _ F H rel Č Č ?_⟩⟩;rcases n with q|q
  ·exact q
  ·exact q.elim
 ·cases e
noncomputable def aX:List PV->Option (List Bool)
 |[]=>Α []|.bl b::c=>(aX c).map (b::·)|_::_=>Β
theorem qL:∀{a:List PV}{vs:List V}{bs:List Bool},ç K F a vs->aX a=Α bs->vs=bs.map V.bl
 |[],vs,bs,r,h=>by cases h;have c:=r.pr;cases c;rfl|p::a,vs,bs,r,h=>by
  cases p with
  |bl b=>
   dsimp only[aX]at h;cases d:aX a with
   |none=>rw[d]at h;cases h|some cs=>
    rw[d]at h;cases h;have c:=r.pr;cases c with
    |cons f t=>rw[qJ f,qL (ç.of t) d];rfl
  |_=>dsimp only[aX]at h;simp[]at h
def rS:List PV->Option PV
 |[.lst b]=>(aX b).map λbs=>.bl<|bs.all id
 |_=>Β
def IG:List PV->Option PV
 |[.lst b]=>(aX b).map λbs=>.bl<|bs.any id
 |_=>Β
set_option tactic.hygienic true
def qM:eZ K (LI K.K) rS:=by
 intro c F H b d g pv vs Q rel r e k;unfold rS at e;split at e
 ·rename_i g;obtain⟨v,rfl,h⟩:=vp r;obtain⟨a,xs,rfl,j,i⟩:=h.lst rel.sub;cases f:aX g with
  |none=>rw[f]at e;cases e|some bs=>rw[f]at e;cases e;refine⟨bs,by rw[<-qL i f];exact j,k _ F H rel Č Č Ē.bl⟩
 ·cases e
def Md:eZ K (LJ K.K) IG:=by
 intro c F H b d g pv vs Q rel r e k;unfold IG at e;split at e
 ·rename_i g;obtain⟨v,rfl,h⟩:=vp r;obtain⟨a,xs,rfl,j,i⟩:=h.lst rel.sub;cases f:aX g with
  |none=>rw[f]at e;cases e|some bs=>rw[f]at e;cases e;refine⟨bs,by rw[<-qL i f];exact j,k _ F H rel Č Č Ē.bl⟩
 ·cases e
set_option tactic.hygienic false
noncomputable def Db(_ j:Int):Bool:=decide (0<j)&&decide (j.natAbs<1073741824)
def iK:List PV->Option PV
 |[.int i,.int j]=>if Db i j=Δ then Α (.tup [.int<|i/j,.int<|i%j])else Β|_=>Β
def Dc:List V->Hp->VK->Prop:=λxs H Q=>∃i j,xs=[.int i,.int j]/\OJ i j/\∀p,H p=Β->Q (.ref p) (upd H p<|.tup [.int<|i/j,.int<|i%j])
def vU:Ŝ X (.builtin "divmod") Dc:=zu
set_option tactic.hygienic true in
def vV:eZ K Dc iK:=by
 intro c F H a b ps pv vs Q rel r e k;unfold iK at e;split at e
 ·split at e
  ·rename_i i j hd;cases e;obtain⟨v,u,rfl,m,h⟩:=Vb r;cases m.int;cases h.int;unfold Db at hd;simp only[þ,decide_eq_true_eq]at hd;refine⟨i,j,rfl,⟨hd.1,by lia⟩,λl f=>k _ _ _ (rel.alloc f) (Ù.upd<|rel.sub.free f) (Ù.upd f) ?_⟩;exact⟨l,_,rfl,jH.of ā,ç.cons Ē.int<|ç.cons Ē.int ç.nil⟩
  ·cases e
 ·cases e
end
section
variable{α β:Type}{ρ:ć}{i j n k:Nat}{p q:PV}{ps:List PV}{ma mb:M PV}{a b:M Fl}{ta:M Bool}{f:PV->PV->Option PV}{fo:PV->PV->Option RV}{g:Tg}{gs:EM}
@[simp]theorem Vc:(dA:M α) ρ=.bad:=rfl
@[simp high]theorem g_0{β:Type _}{z:β}{l:List β}:(z::l)[0]?=Α z:=rfl
@[simp high]theorem g_s{β:Type _}{z:β}{l:List β}{n:Nat}:(z::l)[n+1]?=l[n]?:=rfl
@[simp high]theorem lq1{β:Type _}{z:β}:[z].length=1:=rfl
@[simp high]theorem lq2{β:Type _}{y z:β}:[y,z].length=2:=rfl
@[simp high]theorem lq3{β:Type _}{x y z:β}:[x,y,z].length=3:=rfl
@[simp high]theorem lq4{β:Type _}{w x y z:β}:[w,x,y,z].length=4:=rfl
@[simp high]theorem lq5{β:Type _}{v w x y z:β}:[v,w,x,y,z].length=5:=rfl
def Me(r:Ĳ Fl)(b:M Fl):Ĳ Fl:=r.bind λf c=>match f with|.nx=>b c|f=>.ok f c
@[simp]theorem Vd:ä a b ρ=Me (a ρ) b:=rfl
@[simp]theorem J7:Me (.ok .nx ρ) b=b ρ:=rfl
@[simp]theorem Zaa{r:RV}:Me (.ok (.rt r) ρ) b=.ok (.rt r) ρ:=rfl
@[simp]theorem Zab:Me (.ok .bk ρ) b=.ok .bk ρ:=rfl
@[simp]theorem Zac:Me (.ok .ct ρ) b=.ok .ct ρ:=rfl
@[simp]theorem Ve:Me .bad b=.bad:=rfl
@[simp]theorem Vf{x:PX}:Me (.exc x ρ) b=.exc x ρ:=rfl
@[simp]theorem Vg:(RV.sh p).val=p:=rfl
@[simp]theorem Vh:(RV.ow ps).val=.lst ps:=rfl
@[simp]theorem Vi:(RV.sh p).slot=.sh p:=rfl
@[simp]theorem Vj:(RV.ow ps).slot=.ow ps:=rfl
def Pk{β:Type}(f:PV->PV->Option β)(p:PV)(r:Ĳ PV):Ĳ β:=r.bind λq c=>Ĳ.zG (f p q) c
def Pm{β:Type}(f:PV->PV->Option β)(r:Ĳ PV)(mb:M PV):Ĳ β:=r.bind λp c=>Pk f p<|mb c
@[simp]theorem Vk:Ê f ma mb ρ=Pm f (ma ρ) mb:=rfl
@[simp]theorem Zad{β:Type}{f:PV->PV->Option β}{p:PV}:Pm f (.ok p ρ) mb=Pk f p (mb ρ):=rfl
@[simp]theorem Vl{β:Type}{f:PV->PV->Option β}{p q:PV}:Pk f p (.ok q ρ)=Ĳ.zG (f p q) ρ:=rfl
@[simp]theorem Vm{β:Type}{f:PV->PV->Option β}:Pm f .bad mb=.bad:=rfl
@[simp]theorem Sb{β:Type}{f:PV->PV->Option β}{p:PV}:Pk f p .bad=.bad:=rfl
@[simp]theorem Vn{β:Type}{f:PV->PV->Option β}{x:PX}:Pm f (.exc x ρ) mb=.exc x ρ:=rfl
@[simp]theorem Sc{β:Type}{f:PV->PV->Option β}{p:PV}{x:PX}:Pk f p (.exc x ρ)=.exc x ρ:=rfl
@[simp]theorem Sd:ô fo ma mb ρ=Pm fo (ma ρ) mb:=rfl
@[simp]theorem Vo:gf ma mb ρ=(ma ρ).bind fun p c=>match p with|.bl b=>if b=Δ then mb c else .ok (.bl Ε) c|_=>.bad:=by
  unfold gf;congr
  funext p c
  cases p with
  |bl b=>cases b<;>rfl|_=>rfl
@[simp]theorem Zae:R7 ma mb ρ=(ma ρ).bind fun p c=>match p with|.bl b=>if b=Δ then .ok (.bl Δ) c else mb c|_=>.bad:=by
  unfold R7;congr
  funext p c
  cases p with
  |bl b=>cases b<;>rfl|_=>rfl
def Se{β:Type}(r:Ĳ Bool)(x y:M β):Ĳ β:=r.bind λb c=>if b=Δ then x c else y c
@[simp]theorem Zaf{x y:M α}:au ta x y ρ=Se (ta ρ) x y:=rfl
@[simp]theorem Zag{x y:M α}{b:Bool}:Se (.ok b ρ) x y=if b=Δ then x ρ else y ρ:=rfl
@[simp]theorem Vp{x y:M α}:Se .bad x y=.bad:=rfl
@[simp]theorem Vq{x y:M α}{z:PX}:Se (.exc z ρ) x y=.exc z ρ:=rfl
@[simp]theorem Pn:í i ρ=(match ρ[i]?with|some (.sh p)=>.ok p ρ|some (.ow ps)=>.ok (.lst ps) (ρ.set i<|.sh<|.lst ps)|some (.bn d c)=>.ok (.lst (.lst d::c)) ρ|_=>.bad):=rfl
@[simp]theorem Zah:Â i ρ=(match ρ[i]?with|some (.sh p)=>.ok p ρ|some (.ow ps)=>.ok (.lst ps) ρ|some (.bw ps)=>.ok (.lst ps) ρ|some (.rc C ns ps)=>.ok (.ins C ns ps) ρ|some (.bn d c)=>.ok (.lst (.lst d::c)) ρ|some (.rd C ns ps)=>.ok (.ins C ns ps) ρ|some (.lr C ns ps)=>.ok (.ins C ns ps) ρ|_=>.bad):=rfl
@[simp]theorem Zai:fE i ρ=(match ρ[i]?with|some (.sh p)=>.ok (.sh p) ρ|some (.ow ps)=>.ok (.ow ps) (ρ.set i .no)|_=>.bad):=rfl
@[simp]theorem F7:gN i p ρ=Α (ρ.set i<|.sh p):=rfl
@[simp]theorem Po:Ş [] ρ=Α ρ:=rfl
@[simp]theorem Ob:ë g gs (p::ps) ρ=(g p ρ).bind λc=>gs ps c:=rfl
@[simp]theorem Zaj:gT n gs (.tup ps) ρ=if ps.length=n then gs ps ρ else Β:=rfl
@[simp]theorem Vr{c d:Option Int}:R9 (.lst ps) c d=Α (.ow<|cx ps c d):=rfl
@[simp]theorem Mf{e:M (List PV)}:d_ e g b ρ=(e ρ).bind λitems c=>Ŭ g b items c:=rfl
@[simp]theorem Vs{c:M Fl}{as:List Slot}:Ď n k c as=if as.length=n then FR.of (c<|Ğ k as)else .bad:=rfl
@[simp]theorem Vt{r:RV}:FR.of (.ok (.rt r) ρ)=.ret r:=rfl
@[simp]theorem Vu:FR.of (.ok .nx ρ)=.ret (.sh .non):=rfl
@[simp]theorem Vv{x:PX}:FR.of (.exc x ρ)=.exc x:=rfl
@[simp]theorem Vw:FR.of .bad=.bad:=rfl
@[simp]theorem Pp{as:List Slot}:Ğ k as=as++ý (k-as.length) .no:=rfl
@[simp]theorem Vx:ϲ (.sh p)=Α (.sh p):=rfl
@[simp]theorem Vy:ϲ (.ow ps)=Α (.bw ps):=rfl
@[simp]theorem Vz{d c:List PV}:ϲ (.bn d c)=Α (.sh<|.lst (.lst d::c)):=rfl
@[simp]theorem VB:ϲ (.bw ps)=Α (.bw ps):=rfl
@[simp]theorem VD:dW (.sh p)=.sh p:=rfl
@[simp]theorem VF:dW (.ow ps)=.bw ps:=rfl
@[simp]theorem VG:dW (.bw ps)=.bw ps:=rfl
@[simp]theorem VH{js:List Nat}{nl:Nat}:iZ js nl ρ=js.map (λ(j:Nat)=>dW<|(ρ[j]?).getD .no)++ý nl .no:=rfl
@[simp]theorem yA:ĸ i ρ=(match ρ[i]?with
  |some (.bw ps)=>.ok ps ρ|some (.sh<|.lst ps)=>.ok ps ρ|some (.sh<|.tup ps)=>.ok ps ρ|some (.sh<|.str z)=>.ok (z.cps.toList.map λc=>.str ⟨#[c]⟩) ρ
  |some (.ow ps)=>.ok ps<|ρ.set i<|.sh<|.lst ps|_=>.bad):=rfl
@[simp]theorem Sf{x y:Int}:é (.int x) (.int y)=Α (.sh<|.int<|x+y):=rfl
@[simp]theorem Sg{x y:Int}:Ϻ (.int x) (.int y)=Α (.int<|x-y):=rfl
@[simp]theorem Sh{x y:Int}:Ĝ (.int x) (.int y)=if Ŷ x y=Δ then Α (.int<|x*y)else Β:=rfl
@[simp]theorem Si{x y:Int}:cT (.int x) (.int y)=if pU x y=Δ then Α (.int<|x.fdiv y)else Β:=rfl
@[simp]theorem Sj{x y:Int}:Ĭ (.int x) (.int y)=if C4 x y=Δ then Α (.int<|x.fmod y)else Β:=rfl
@[simp]theorem IH{x y:Int}:zL (.int x) (.int y)=if zK x y=Δ then Α (.int<|x^y.toNat)else Β:=rfl
@[simp]theorem Sk{x y:Int}:zM (.int x) (.int y)=if um x y=Δ then Α (.int<|x*2^y.toNat)else Β:=rfl
@[simp]theorem Sn{x y:Int}:pX (.int x) (.int y)=if pV x y=Δ then Α (.int<|x/2^y.toNat)else Β:=rfl
@[simp]theorem Sq{x:Int}:ϳ (.int x)=Α (.int<|-x):=rfl
@[simp]theorem VI{x y:Int}:lC (.int x) (.int y)=Α (.bl<|decide<|x<y):=rfl
@[simp]theorem VJ{x y:Int}:gi (.int x) (.int y)=Α (.bl<|decide<|x<=y):=rfl
@[simp]theorem VL{x y:Int}:Bf (.int x) (.int y)=Α (.bl<|decide<|y<x):=rfl
@[simp]theorem VM{x y:Int}:ķ (.int x) (.int y)=Α (.bl<|decide<|x=y):=by
  have h:ck (.int x) (.int y)=decide (x=y):=by rw[ck.eq_def];rfl
  rw[<-h];rfl
@[simp]theorem VN{x y:Int}:ϕ (.int x) (.int y)=Α (.bl<|!decide (x=y)):=by
  have h:ck (.int x) (.int y)=decide (x=y):=by rw[ck.eq_def];rfl
  rw[<-h];rfl
@[simp]theorem VO{x y:Bool}:ķ (.bl x) (.bl y)=Α (.bl<|x==y):=rfl
@[simp]theorem VP{x y:Bool}:ϕ (.bl x) (.bl y)=Α (.bl<|!(x==y)):=rfl
@[simp]theorem VQ{p:PV}:rQ p .non=Α (.bl<|tM p):=rfl
@[simp]theorem Sr{p:PV}:ng p .non=Α (.bl<|!tM p):=rfl
@[simp]theorem VR{x:Int}:Þ (.lst ps) (.int x)=mY ps x:=rfl
@[simp]theorem VS{x:Int}:Þ (.tup ps) (.int x)=mY ps x:=rfl
@[simp]theorem Ss:bP [.lst ps]=Α (.int ps.length):=rfl
@[simp]theorem Su:bP [.tup ps]=Α (.int ps.length):=rfl
@[simp]theorem VT{x:Int}:Bg [.int x]=Α (.int<|if x<0then -x else x):=rfl
@[simp]theorem VU{x y:Int}:C7 [.int x,.int y]=Α (.int<|if y<x then y else x):=rfl
@[simp]theorem VV{x y:Int}:C8 [.int x,.int y]=Α (.int<|if y>x then y else x):=rfl
@[simp]theorem Pq:jo [.lst ps]=Α (.ow ps):=rfl
@[simp]theorem Pr:jo [.tup ps]=Α (.ow ps):=rfl
@[simp]theorem Sv:qK [.lst ps]=Α (.tup ps):=rfl
@[simp]theorem Sw:qK [.tup ps]=Α (.tup ps):=rfl
@[simp]theorem Sx{x:Bool}:LU (.bl x)=Α x:=rfl
@[simp]theorem Sy{x:Int}:LU (.int x)=Α (x !=0):=rfl
@[simp]theorem Sz:LU (.lst ps)=Α (!ps.isEmpty):=rfl
@[simp]theorem zS(xs:List α)(n:Nat):mY xs (n:Int)=xs[n]?:=by
  unfold mY Hr;rw[if_pos<|by lia];by_cases h:n<xs.length
  ·rw[if_pos<|by lia];simp
  ·rw[if_neg<|by lia];simp;lia
@[simp]theorem SA(xs:List α)(n:Nat):mY xs (no_index (ϋ n):Int)=xs[(no_index (ϋ n):Nat)]?:=zS xs n
@[simp]theorem Oc{x y:Int}:C4 x y=decide (y≠0):=rfl
end
def cy(h1: -(2^64)<x)(h2:x<2^64):Ŷ x y=Δ:=by unfold Ŷ;rw[decide_eq_true (by lia:x.natAbs<18446744073709551616)];rfl
def KL(h1: -(2^64)<y)(h2:y<2^64):Ŷ x y=Δ:=by unfold Ŷ;rw[decide_eq_true (by lia:y.natAbs<18446744073709551616)];simp
def F8{x y:Int}(h1:y≠0)(h2:bits y<=8000):pU x y=Δ:=by unfold pU;simp[h1,h2]
section
variable{g:Tg}{mb:M Fl}{mc mt:M Bool}{me:M PV}{ρ:ć}
theorem Đ{α:Type}(c f:α->PV)(I:ć->Prop):∀(xs:List α) (ρ:ć) (acc:List PV),I ρ->acc.length+xs.length<=16777216->
 (∀x∈xs,∀ρ,I ρ->∃b d a,g (c x) ρ=Α b/\mt b=.ok Δ d/\me d=.ok (f x) a/\I a)->ĝ g mt me (xs.map c) ρ acc=Α (acc++xs.map f)
 |[],ρ,acc,_,_,_=>by simp[ĝ]|x::xs,ρ,acc,h,hz,hs=>by obtain⟨b,d,a,h1,h2,h3,h4⟩:=hs x ŀ ρ h;rw[â,ĝ,h1];dsimp only;rw[h2];dsimp only;rw[h3];dsimp only;rw[if_pos (by simp at hz;lia),Đ c f I xs a (acc++[f x]) h4 (by simp at hz⊢;lia) λy hy=>hs y<|ð _ hy];simp
def Bh{β:Type}(st:β->ć)(I:β->Prop)(μ:β->Nat)(hs:∀b,I b->mc (st b)=.ok Ε (st b)\/(mc (st b)=.ok Δ (st b)/\∃b',mb (st b)=.ok .nx (st b')/\I b'/\μ b'<μ b)){b:β}(h0:I b):
 ∃b',aK mc mb (st b)=.ok .nx (st b')/\I b'/\mc (st b')=.ok Ε (st b'):=by
 have go:∀n b,μ b<=n->I b->∃b',aK mc mb (st b)=.ok .nx (st b')/\I b'/\mc (st b')=.ok Ε (st b'):=by
  intro n
  induction n with
  |zero=>
   intro b hn hi;rcases hs b hi with e|⟨e,b',_,_,hl⟩
   ·exact⟨b,by rw[cS,e];rfl,hi,e⟩
   ·lia
  |succ n ih=>
   intro b hn hi;rcases hs b hi with e|⟨e,b',e2,HF,hl⟩
   ·exact⟨b,by rw[cS,e];rfl,hi,e⟩
   ·obtain⟨b2,q1,q2⟩:=ih b' (by lia) HF;refine⟨b2,?_,q2⟩;rw[cS,e];simp only[Ĳ.bM,e2];exact q1
 exact go (μ b) b (õ _) h0
end
def Bi(Q:String->Prop):List String->Prop
 |[]=>True|c::a=>Q c/\Bi Q a
theorem Bi.get:∀{b:List String}{C:String},Bi Q b->b.contains C=Δ->Q C
 |[],_,_,h=>by simp at h|c::b,C,⟨g,f⟩,h=>by
  by_cases e:C=c
  ·rw[e];exact g
  ·refine f.get ?_;rw[wS]at h;have:(C==c)=Ε:=by simpa using e
   rw[this,Bool.false_or]at h;exact h
section
variable{X:Cx}{cm:String->À}{K:KK}{E:ă->XK}{a b e o:Ç}{pos aD:Pos}{m mb:M PV}{f:Str}
theorem uq:∀{fs:List (Str×V)}{c:List PV}{p:PV},ç K F c (fs.map (·.2))->((fs.map (·.1)).zip c).lookup f=Α p->∃v,fs.lookup f=Α v/\Ē K F p v
 |[],c,p,_,h=>by simp at h|(g,v)::fs,c,p,r,h=>by
  have j:=r.pr;cases j with
  |cons i t=>
   rw[â,List.zip_cons_cons,Š]at h;rw[Š];cases d:f==g with
   |true=>simp only[d]at h;cases h;exact⟨v,rfl,i⟩|false=>simp only[d]at h;exact uq (ç.of t) h
theorem rR.ins(s:Ù F H)(h:rR K c d g F H (.ins C ns j) v):∃a i fs,v=.ref a/\H a=Α (.ins (K.cm C) i fs)/\fs.map (·.1)=ns/\ç K F j (fs.map (·.2)):=by
 rcases h with h|h
 ·unfold Ē at h;refine BL λZ=>?_;obtain⟨a,i,fs,p,n,l,k⟩:=h;refine Z ?_;exact⟨a,i,fs,p,s _ _ n,l,k⟩
 ·exact h
noncomputable def ħ(cs:List String)(f:Str):PV->Option PV
 |.ins C ns ps=>if cs.contains C=Δ then(ns.zip ps).lookup f else Β|_=>Β
def Ps(cs:List String)(NU:Bi (λC=>zn X.K (cm C)/\fu X.K (cm C) f) cs)(he:PE X e (tR ∅ E m))(hb:autoParam (dg e f X.env (eval e X.env)=eval e X.env) Ζ):PE X (.Attribute e f pos) (tV ∅ E<|ϥ (ħ cs f) m):=
 PE.wk (Lo he hb)<|by rintro i H Q ⟨c,F,d,rel,h⟩;exact ⟨c,F,d,rel,h.bind fun p g v F1 H1 Û _ _ r1 h1=>by
   cases p with
   |ins C ns ps=>
    unfold ħ at h1;dsimp only at h1;split at h1
    ·rename_i hc;refine BL λZ=>?_;obtain⟨a,dx,fs,rfl,q2,q3,q4⟩:=r1.ins Û.sub;refine Z ?_;cases el:(ns.zip ps).lookup f with
     |none=>rw[el]at h1;exact h1.elim|some q=>rw[el]at h1;subst q3;obtain⟨v,e1,e2⟩:=uq q4 el;obtain⟨k1,k2⟩:=NU.get hc;exact⟨a,_,dx,fs,v,rfl,q2,k1,k2,e1,h1 v F1 H1 Û Č Č e2⟩
    ·exact h1.elim
   |_=>exact h1.elim⟩
def qN(X:Cx)(cm:String->À)(CX:gX)(k n:Nat)(m:Str)(C:String)(d:MF):Prop:=zn X.K (cm C)/\∃f g c,uZ X.K (cm C) m f/\Ϲ X.prog X.w X.K X.mg X.base CX k f g c (rj ∅ n d)/\Binds X.K g c []/\
 ∀{c:List Slot},(∃r,d c=r/\∀z,r=z->z≠.bad)->c.length=n
def ur(Q:String->MF->Prop):List (String×MF)->Prop
 |[]=>True|(c,d)::g=>Q c d/\ur Q g
theorem ur.get:∀{j:List (String×MF)}{C:String}{d:MF},ur Q j->j.lookup C=Α d->Q C d
 |[],_,_,_,h=>by simp at h|(c,g)::j,C,d,⟨l,k⟩,h=>by
  rw[Š]at h;cases i:C==c with
  |true=>
   rw[i]at h;cases h;have:=by simpa using i
   rw[this];exact l
  |false=>rw[i]at h;exact k.get h
def nC(m:Str)(j:List (String×MF))(mo:M PV)(q:M (List Slot)):M RV:=λg=>(mo g).bind λp d=>match p with
 |.ins C i n=>match j.lookup C with
   |some s=>if i.contains m=Δ then .bad else(q d).bind λas c=>match s (.sh (.ins C i n)::as)with
    |.ret r=>.ok r c|.exc x=>.exc x c|.bad=>.bad
   |none=>.bad
 |_=>.bad
theorem nh{m:Str}:∀{fs:List (Str×V)},(fs.map (·.1)).contains m=Ε->fs.lookup m=Β
 |[],_=>rfl|(g,v)::fs,h=>by rw[â,wS,Bool.or_eq_false_iff]at h;rw[Š,h.1];exact nh h.2
variable{CX:gX}{k n:Nat}{lF:Str}{ϸ:List (String×MF)}{ms:M (List Slot)}
def F9(rel:ē ∅ c F H d i)(h:ϰ ∅ E (rO<|kk X cm) c F H d Q (nC lF ϸ m ms i))(og:ur (λC r=>qN X cm CX k n lF C r) ϸ):
 ϰ ∅ E (rV<|kk X cm) c F H d (λx y=>∃a C w fs g s t r,x=.ref a/\y a=Α (.ins C w fs)/\zn X.K C/\uZ X.K C lF g/\fs.lookup lF=Β/\Ϲ X.prog X.w X.K X.mg X.base CX k g s t (rj ∅ n r)/\Binds X.K s t []/\
  tA ∅ E ms d y λvs G=>rj ∅ n r (.ref a::vs) G Q<|E d) (m i):=
 ϰ.bind h λp j v F1 y B z z W q=>by
  cases p with
  |ins C ns t=>
   dsimp only at q;cases u:ϸ.lookup C with
   |none=>rw[u]at q;exact q.elim|some r=>
    rw[u]at q;dsimp only at q;split at q
    ·exact q.elim
    ·rename_i hn;refine BL λV=>?_;obtain⟨k1,f,s,Y,k2,k3,k4,k5⟩:=og.get u;have D:=W;have U:=D;obtain⟨a,w,fs,rfl,q2,Z,q4⟩:=U;refine V ?_;refine⟨a,_,w,fs,f,s,Y,r,rfl,B.sub _ _ q2,k1,k2,nh (by rw[Z];simpa using hn),k3,k4,c,F1,j,B,ϰ.bind q λas l vs F2 G N O sH R h3=>?_⟩;exact pS k5 N (.cons (show du _ _ _ (.sh _) _ from Ē.same O _ _ D) R) h3
  |_=>exact q.elim
def II{L:Sem Bool}(N:ur (λC v=>qN X cm CX k n lF C v) ϸ)(Y:Ń k X.A)(U:ϝ CX X E)(he:PE X o (tV ∅ E m))
 (W:autoParam (eval (.Call (.Attribute o lF aD) [] [] pos) X.env=(do
   let u<-eval o X.env
   fU aD.atName
   let (f,first)<-cI [u] (il u lF L)
   fX pos f first (ü pos<|Î [] X.env) (af pos<|ag [] X.env))) Η):
 PE X (.Call (.Attribute o lF aD) [] [] pos) (tO ∅ E<|nC lF ϸ m Ö):=by
 rintro D s d H Q I ⟨c,F,i,rel,h⟩;refine xR (Ż (he D s d H _ I ⟨c,F,i,rel,F9 rel h N⟩) λu s1 G=>?_) W;refine BL λV=>?_;obtain⟨x,H1,t,J,a,C,dx,fs,g,fd,ps,v,Z,ea,cl,w,l,R,O,q⟩:=G;subst Z;obtain rfl:=J;refine V ?_;refine nW t ea cl w l ?_;refine BL λK=>?_;obtain⟨c1,F1,j,B,q⟩:=q;refine K ?_;exact PySem.W.callWith_K0 t.vk w.kp<|pR (vs:=[.ref a]) R Y O U t (.cons rfl .nil)<|q [] F1 H1 B Č Č .nil
noncomputable def putN(f:Str):List Str->List Str
 |[]=>[f]|g::r=>if g=f then g::r else g::putN f r
noncomputable def vq(f:Str)(p:PV):List Str->List PV->List PV
 |[],_=>[p]|g::r,q::c=>if g=f then p::c else q::vq f p r c|_::_,[]=>[]
theorem Dd(l:Ē K F p y):∀{fs:List (Str×V)}{j:List PV},ç K F j (fs.map (·.2))->(ki f y fs).map (·.1)=putN f (fs.map (·.1))/\ç K F (vq f p (fs.map (·.1)) j) ((ki f y fs).map (·.2))
 |[],j,r=>⟨rfl,ç.cons l ç.nil⟩|(g,v)::fs,j,r=>by
  have s:=r.pr;cases s with
  |cons q t=>
   dsimp only[ki];rw[â];unfold putN vq;by_cases h:g=f
   ·rw[if_pos h,if_pos h,if_pos h];exact⟨rfl,ç.cons l<|ç.of t⟩
   ·rw[if_neg h,if_neg h,if_neg h];obtain⟨w,u⟩:=Dd l<|ç.of t;exact⟨by rw[â,w],ç.cons q u⟩
@[simp]def kQ(i:Nat)(j:List String)(f:Str)(mv:M PV)(d:ć):Ĳ Fl:=(mv d).bind fun p c=>match c[i]?with
  |some (.rc C g h)=>if j.contains C=Δ/\g.length<1000then .ok .nx (c.set i<|.rc C (putN f g)<|vq f p g h)else .bad|_=>.bad
def Mg{i:Nat}{x:Str}{r A:Pos}(w:List String)(NU:Bi (λC=>zn X.K (cm C)/\fu X.K (cm C) f) w)(ho:PE X (.Name x r) (dR i))(he:PE X e (tV ∅ E m))(hs:autoParam (ť e (Α<|.Attribute (.Name x r) f A) pos.line X.env=pure Ε) Ζ):
 PS X (.Assign [.Attribute (.Name x r) f A] e pos) (tS ∅ E<|kQ i w f m):=PS.wk (Lp ho he hs) λD g H ⟨c,F,j,rel,h⟩=>⟨c,F,j,rel,ϑ.bind h λp d y F1 H1 s s1 O l=>by
 cases p:d[i]?with
 |none=>rw[p]at l;exact l.elim|some N=>
  rw[p]at l;cases N with
  |rc C ns ps=>
   dsimp only at l;split at l
   ·rename_i u;refine BL λG=>?_;obtain⟨a,v,fs,q,Z,Y,W,U,R,Q⟩:=s.slot i _ p;subst U;obtain⟨k1,k2⟩:=NU.get u.1;refine G ?_;refine⟨.ref a,Ŀ q,a,_,v,fs,rfl,Z,k1,k2,by simpa using u.2,?_⟩;obtain⟨L,J⟩:=Dd O R;exact l g F1 _ (s.write ⟨_,_,p,Ŀ q,rfl⟩ (Ŀ q) ⟨a,v,_,rfl,ā,Y,W,L,J,Q⟩ λb z=>(V.ref.inj z).symm) Č
   ·exact l.elim
  |_=>exact l.elim⟩
inductive IR where
 |ok (ns:List Str) (ps:List PV)|exc (x:PX)|bad
abbrev MI:=List Slot->IR
noncomputable def IR.of:Ĳ Fl->IR
 |.ok .nx (.rc _ d c::_)=>.ok d c|.exc x _=>.exc x|_=>.bad
def fG(n k:Nat)(C:String)(mb:M Fl):MI:=λas=>if as.length+1=n then IR.of (mb (.rc C [] []::Ğ (k-1) as))else .bad
structure Pu(a:À)(F H F' H':Hp):Prop where
 h:∀b u,b≠a->H b=Α u->H' b=Α u
 f:Ù F F'
 sub:Ù F' H'
 out:∀b,b≠a->H b≠Β->F b=Β->F' b=Β
def VW(K:KK)(E:XK)(F H:Hp)(Q:VK)(a l:À)(C:String):IR->Prop
 |.ok j i=>∀g c fs,Pu a F H g c->c a=Α (.ins (K.cm C) l fs)->g a=Β->fs.map (·.1)=j->ç K g i (fs.map (·.2))->Q .non c|.exc x=>∀h d g c,Pu a F H g c->yo K g x h d->E h d c|.bad=>False
def IJ(K:KK)(n:Nat)(C:String)(i:MI):Sp:=λvs H Q E=>∃F a h g c,vs=.ref a::g/\c.length+1=n/\H a=Α (.ins (K.cm C) h [])/\F a=Β/\Ù F H/\Paired (du K F H) c g/\VW K E F H Q a h C (i c)
def Mh(a g:À)(C:String)(F H:Hp):Ctx:=⟨λb=>if b=a then Β else H b,F,λb=>if b=a then Β else(cu F H).L b,λa' h i=>a'=a/\h=g/\i=C⟩
def ē.gri{a p:À}(r:ē K (Mh a p C F H) s q c d):Pu a F H s q:=
 ⟨λb u i e=>r.base b u (by show(if b=a then Β else H b)=_;rw[if_neg i];exact e),r.f0,r.sub,λb i l j=>r.ge b (by show(if b=a then Β else H b)≠Β;rw[if_neg i];exact l) j⟩
def ē.Mi{a dx:À}(s:Ù F H)(ha:H a=Α (.ins (K.cm C) dx []))(hF:F a=Β)(h:Paired (du K F H) as vs):
 ē K (Mh a dx C F H) F H (L2.start N (.ref a::vs)) (.rc C [] []::Ğ (N.length-1) as):=by
 have r0:=ē.start (N:=N) (K:=K) s (as:=.sh (.int 0)::as) (vs:=.int 0::vs)<|.cons (Ē.int (K:=K) (F:=F) (i:=0)) h;have Rk:L2.start N (.ref a::vs)=Α (.ref a)::(L2.start N (.int 0::vs)).tail:=by unfold L2.start;simp
 have VX:(L2.start N (V.int 0::vs)).tail.length=(Ğ (N.length-1) as).length:=by unfold L2.start Ğ;simp[Paired.length h];lia
 have tl:∀i:Nat,(L2.start N (.int 0::vs)).tail[i]?=(L2.start N (.int 0::vs))[i+1]?:=λi=>by simp
 have sp:∀i:Nat,(Ğ (N.length-1) as)[i]?=(Ğ N.length (.sh (.int 0)::as))[i+1]?:=λi=>by unfold Ğ;simp only[c_,sx,Ė];rw[show N.length-1-as.length=N.length-(as.length+1) by lia]
 have A:∀(i:Nat) (t:Slot),(Ğ (N.length-1) as)[i]?=Α t->t.own=Ε:=λi t e=>by
  unfold Ğ at e;by_cases hi:i<as.length
  ·rw[Ϫ hi]at e;obtain⟨v,_,h3⟩:=cq h e;exact(du.slot h3).2
  ·rw[ie (by lia),ig]at e;split at e
   ·cases e;rfl
   ·cases e
 rw[Rk];refine⟨s,λb u e=>?_,Ù.refl _,λc c z=>z,λb u e=>?_,λb e=>?_,?_,λi t e=>?_,λi j b h1 h2=>?_⟩
 ·have g:(if b=a then Β else H b)=Α u:=e;split at g
  ·cases g
  ·exact g
 ·have g:(if b=a then Β else(cu F H).L b)=Α u:=e;split at g
  ·cases g
  ·exact Ϣ g
 ·show(if b=a then Β else(cu F H).L b)=Β;have g:(if b=a then Β else H b)=Β:=e;split
  ·rfl
  ·rename_i hb;rw[if_neg hb]at g;exact r0.lb b g
 ·simp[VX]
 ·cases i with
  |zero=>cases e;exact⟨a,dx,[],rfl,ha,hF,by show(if a=a then Β else H a)=Β;rw[if_pos rfl],rfl,ç.nil,rfl,rfl,rfl⟩|succ i=>
   have g:(Ğ (N.length-1) as)[i]?=Α t:=by simpa using e
   have q:=r0.slot (i+1) t (by rw[<-sp];exact g);cases t with
   |no=>trivial|sh p=>exact q|bw ps=>obtain⟨b,ws,w,l,q3⟩:=q;refine⟨b,ws,w,?_,q3⟩;show(if b=a then Β else(cu F H).L b)=_;rw[if_neg (λz=>by have:=(Ϣ l).1;rw[z,ha]at this;cases this)];exact l
   |ow ps=>have:=A i _ g;cases this|lr C ns ps=>
    refine BL λZ=>?_;obtain⟨b,dy,fs,w,l,q3,q4,q5⟩:=q;refine Z ?_;refine⟨b,dy,fs,w,?_,q3,q4,q5⟩;show(if b=a then Β else(cu F H).L b)=_;rw[if_neg (λz=>by
     have:=(Ϣ l).1;rw[z,ha]at this;injection this with this
     injection this with _ _ e
     rw[<-e]at q3;exact q5 q3.symm)]
    exact l
   |rc C ns ps=>have:=A i _ g;cases this|ot ps qs rs=>have:=A i _ g;cases this|ol pL=>have:=A i _ g;cases this|fr pL=>have:=A i _ g;cases this|rd C ns ps=>have:=A i _ g;cases this|pin=>have:=A i _ g;cases this|dw gY=>
    obtain⟨b,ts,w,l,q3⟩:=q;have lt:∀{x:À}{u:HO},(cu F H).L x=Α u->(∀o,u=.ins (K.cm C) dx o->False)->(if x=a then Β else(cu F H).L x)=Α u:=fun{x u} e1 e2=>by rw[if_neg (λz=>by have:=(Ϣ e1).1;rw[z,ha]at this;cases this;exact e2 _ rfl)];exact e1
    exact⟨b,ts,w,lt l (λc z=>by cases z),iG q3<|by rintro t d _ ⟨xs,y,vs,k1,k2,k3,k4⟩;exact ⟨xs,y,vs,k1,k2,lt k3 (λc z=>by cases z),k4⟩⟩
   |bn qs rows=>
    obtain⟨v,w,l⟩:=q;refine⟨v,w,l.base λb u z=>?_⟩;have z':(if b=a then Β else H b)=Α u:=z;split at z'
    ·cases z'
    ·exact z'
 ·have KN:∀{i},ĳ F (Α (.ref a)::(L2.start N (.int 0::vs)).tail) (Slot.rc C [] []::Ğ (N.length-1) as) i b→i=0:=fun{i} ⟨t,y,w,_,l⟩=>by
   have l:=lv l;cases i with
   |zero=>rfl|succ i=>have:=A i t (by simpa using w);rw[this]at l;cases l
  rw[KN h1,KN h2]
end
section
variable{P:ï}{w:ã}{K:Ï}{cm:String->À}{mg:Str->Option Á}{base:Ô}{CX:gX}
def fnI{st:æ}(F:CN K x qual st f fd)(S:ı N y (è st))(hn:y.length=n)(hj:N.length=j)(hf:Z=fG n j C mb)
 (dO:∀(l:Á) (A:ì) (h:List Env) (s:Ä) (H:Hp) (E:XK),Ń k (A.deeper<|ň qual (è st) s.heap.objs.size f l)→
   b_ (kj CX P w K mg base N qual (è st) f l A h s H E) (Ō st) (tS ⟨K,cm⟩ (λv=>E) mb)):Ϲ P w K mg base CX (k+1) f fd y (IJ ⟨K,cm⟩ n C Z):=by
 subst hn hj hf;obtain⟨oc,od,kV,doc,pm,an,l,ct,AG,rfl,lk,L⟩:=F.ex;refine zy lk L S (by rintro vs H Q E ⟨F,a,z,gZ,B,h1,p,_,_,_,o,_⟩;rw[h1,Ė,<-Paired.length o];exact p) λA h s H vs Q E hr O=>?_;obtain⟨F,a,z,gZ,B,rfl,p,o,h4,h5,h6,i⟩:=O;refine⟨_,dO l A h s H E hr,Mh a z C F H,F,_,ē.Mi h5 o h4 h6,?_⟩;unfold fG at i;rw[if_pos p]at i;cases e:mb (.rc C [] []::Ğ (N.length-1) B)with
 |bad=>rw[e]at i;exact i|exc x c=>rw[e]at i;exact λg D d u t rel s1 q=>i D d u t rel.gri q
 |ok fl c=>
  rw[e]at i;cases fl with
  |nx=>
   cases c with
   |nil=>exact i.elim|cons R c=>
    cases R with
    |rc D ns qs=>intro g u t rel s1;refine BL λV=>?_;obtain⟨b,dy,fs,q1,Y,X,q4,W,U,rfl,rfl,rfl⟩:=rel.slot 0 _ rfl;refine V ?_;exact i u t fs rel.gri Y X W U|_=>exact i.elim
  |bk=>exact i.elim|ct=>exact i.elim|rt r=>exact i.elim
end
@[simp]def fH(C:String)(f:MI)(e:M (List Slot))(b:ć):Ĳ PV:=(e b).bind fun g a=>match f g with
  |.ok d c=>.ok (.ins C d c) a|.exc x=>.exc x a|.bad=>.bad
section
variable{X:Cx}{cm:String->À}{E:ă->XK}{e:Ç}{es:List Ç}{pos p:Pos}{CX:gX}{k n:Nat}{f:À}{fd:ą}{ps:List Str}{C:String}{mi:MI}{ms:M (List Slot)}{x:Str}
def Ga(J:(∃r,mi as=r/\∀z,r=z->z≠.bad)->as.length+1=n)(m:ē ∅ c F1 l i a)(r1:Paired (du ∅ F1 l) as vs)
 (h:ϰ ∅ E (rV<|kk X cm) c F1 l i Q (match mi as with|.ok ns ps=>.ok (.ins C ns ps) a|.exc x=>.exc x a|.bad=>.bad)):
 ∀x j,l x=Β->l j=Β->j≠x->IJ ∅ n C mi (.ref x::vs) (upd (upd l j<|.own x) x<|.ins (cm C) j []) (λv H2=>v=.non/\Q (.ref x) H2) (E i):=by
 intro x j w Yl h_;have o:∀b u,l b=Α u->upd (upd l j<|.own x) x (.ins (cm C) j []) b=Α u:=λb u e=>by rw[ñ<|Ċ e w,ñ<|Ċ e Yl];exact e
 have N:∀{A t:Hp},Pu x F1 (upd (upd l j<|.own x) x<|.ins (cm C) j []) A t->Gr F1 l A t:=fun{A t} g=>
  ⟨fun b u e=>g.h b u (Ċ e w)<|o b u e,g.f,g.sub,fun b U hf=>by
    obtain⟨u,hu⟩:∃u,l b=Α u:=by
     cases q:l b with
     |none=>exact absurd q U|some u=>exact⟨u,rfl⟩
    exact g.out b (Ċ hu w) (by rw[o b u hu];intro z;cases z) hf⟩
 refine⟨F1,x,j,vs,as,rfl,?_,ā,m.sub.free w,λb u e=>o b u<|m.sub b u e,?_,?_⟩
 ·refine J ⟨_,rfl,λz hz U=>?_⟩;rw[hz,U]at h;exact h
 ·refine Paired.mono (λs v I=>?_) r1;cases s with
  |sh p=>exact I|bw qs=>obtain⟨b,R,H,G,D,B⟩:=I;exact⟨b,R,H,o b _ G,D,B⟩|lr C ns ps=>obtain⟨b,dy,fs,H,G,D,B⟩:=I;exact⟨b,dy,fs,H,o b _ G,D,B⟩|dw gY=>obtain⟨b,ts,H,G,D,B⟩:=I;exact⟨b,ts,H,o b _ G,D,iG B<|by rintro t d _ ⟨xs,y,R,k1,k2,k3,k4⟩;exact ⟨xs,y,R,k1,k2,⟨o y _ k3.1,k3.2⟩,k4⟩⟩
  |_=>exact I.elim
 ·cases W:mi as with
  |bad=>rw[W]at h;exact h|exc y=>rw[W]at h;exact λC' d A t g rx=>h C' d A t (m.call<|N g) g.f rx
  |ok ns qs=>rw[W]at h;intro A t fs g Rl Y hn hr;have r2:=m.call<|N g;have r3:=r2.freeze Rl (m.base.free w) Y<|m.lw (N g).f (m.fresh w);refine⟨rfl,h _ _ t r3 (g.f.trans<|Ù.upd Y) (N g).h ?_⟩;exact⟨x,j,fs,rfl,ā,hn,ç.same (Ù.upd Y) qs _ hr⟩
def vW{C:À}(M:Mk X.K C f)(F:Ϲ X.prog X.w X.K X.mg X.base CX k f fd ps sp)(K:Ń (k+1) X.A)(N:Binds X.K fd ps [])
 (J:ϝ CX X E)(I:Inv X l a H s)(r:Ő vs c)
 (h:∀x g,H x=Β->H g=Β->g≠x->sp (.ref x::vs) (upd (upd H g<|.own x) x<|.ins C g []) (λv Y=>v=.non/\Q (.ref x) Y) (E a)):
 Ð (Ú X.prog X.w) X.A (call (.ref C) c) (EP X l a Q) X.xe s:=by
 have o:=h (s.heap.objs.size+1) s.heap.objs.size (I.hok.fresh<|mF _) (I.hok.fresh<|õ _)<|Ĕ<|oR _;have i:=Inv.made (C:=C) I;have m:Ő (V.ref (s.heap.objs.size+1)::vs) (Ϯ (s.heap.objs.size+1)::c):=.cons rfl r;have L:(Ϯ (s.heap.objs.size+1)::c++[]).length=ps.length:=by have e:=m.length;rw[F.len _ _ _ _ o]at e;rw[cZ];exact e.symm
 have w:=N {s with heap:=(s.heap.push iB).push (ka C s.heap.objs.size)} (Ϯ (s.heap.objs.size+1)::c) i.vk L;rw[cZ]at w;refine o_<|Fa I.vk M.makes M.init (beq_iff_eq.mp M.fn)<|jV (F.run _ X.stack _ _ ⟨Ϯ (s.heap.objs.size+1)::c,[]⟩ _ _ _ (E a) (K.make C c []) (i.env0.make C c []) w m o) λr A d=>?_;cases r with
 |error e=>exact J l a _ _ e A i d|ok O=>
  cases O with
  |ret u=>obtain⟨v,Z,W,B,R,G⟩:=i.after d;subst R;exact⟨B,⟨V.ref<|s.heap.objs.size+1,Z,W,rfl,G⟩⟩|next=>exact ų d|brk=>exact ų d|cont=>exact ų d
def vY(h:∃r,fG n k C mb as=r/\∀z,r=z->z≠.bad):as.length+1=n:=by
 obtain⟨r,c,j⟩:=h;unfold fG at c;by_cases g:as.length+1=n
 ·exact g
 ·rw[if_neg g]at c;exact absurd c.symm (λz=>j .bad (by rw[<-c]) rfl)
def Mj(M:Mk X.K (cm C) f)(F:Ϲ X.prog X.w X.K X.mg X.base CX k f fd ps (IJ ∅ n C mi))(g:∀{as:List Slot},(∃r,mi as=r/\∀z,r=z->z≠.bad)->as.length+1=n)(K:Ń (k+1) X.A)(N:Gl X x)(L:X.mg x=Α (.ref<|cm C))(O:Binds X.K fd ps [])(J:ϝ CX X E)
 (R:PA X (e::es) (tA ∅ E ms))(G:autoParam ((x==("__debug__":Str))=Ε) Ζ)(he:autoParam (Î (e::es) X.env=(Ε,eval e X.env)::Î es X.env) Θ)(W:autoParam ((ü pos<|Î es X.env).any (·.1)=Ε) Ζ):
 PE X (.Call (.Name x p) (e::es) [] pos) (tV ∅ E<|fH C mi ms):=by
 rintro B s a H Q I ⟨c,Z,b,rel,h⟩;refine io<|pF I N L ?_ G;refine kc I.ok.mod.EU M.kp (Ż (R pos B s a H (λvs i=>∀x j,i x=Β->i j=Β->j≠x->IJ ∅ n C mi (.ref x::vs) (upd (upd i j<|.own x) x<|.ins (cm C) j []) (λv Y=>v=.non/\Q (.ref x) Y) (E a)) I
  ⟨c,Z,b,rel,ϰ.bind h λas d vs F1 i A y y D U=>Ga g A D U⟩) λus s1 ⟨vs,i,w,r,q⟩=>⟨w.vk,?_⟩) he W
 exact vW M F K O J w r q
end
def oB.sub(x:oB P w H h)(k:∀b o u,H b=Α u->h.get? b=Α o->B.get? b=Α o):oB P w H B:=λa o e=>
 (x a o e).stay (fun b u d q=>by
   rcases d with rfl|d
   ·exact k _ _ _ e q
   ·exact k _ _ _ d q) (λy q=>q) λy y q=>q
noncomputable def Ed(X:Cx)(xe:Á->Ä->Prop)(b:List (À×Obj)):Cx:={X with xe:=xe,pn:=X.pn++b}
section
variable{X:Cx}{Å:List (À×Obj)}{σ:ă}{H:Hp}{s:Ä}{xe:Á->Ä->Prop}
def Inv.Pw(I:Inv X Å σ H s):Inv (Ed X xe Å) [] σ H s:=
 ⟨⟨I.ok.mod,I.ok.kind,I.ok.glob,I.ok.blt,I.ok.above,I.ok.inj,I.ok.has,I.ok.cab,I.ok.hd,I.ok.frames,I.ok.stk,I.ok.RX,I.ok.bs,I.ok.EJ,I.ok.zo,I.ok.DQ,I.ok.pC,I.ok.HM,I.ok.tb⟩,
   I.os,I.bare,I.base,I.loc,I.cell,I.free,I.jc,λp b=>I.pin p (by simpa[Ed]using b),I.hok,I.len⟩
def Inv.vZ(I:Inv (Ed X xe Å) iC σ H s):Inv X Å σ H s:=
 ⟨⟨I.ok.mod,I.ok.kind,I.ok.glob,I.ok.blt,I.ok.above,I.ok.inj,I.ok.has,I.ok.cab,I.ok.hd,I.ok.frames,I.ok.stk,I.ok.RX,I.ok.bs,I.ok.EJ,I.ok.zo,I.ok.DQ,I.ok.pC,I.ok.HM,I.ok.tb⟩,
   I.os,I.bare,I.base,I.loc,I.cell,I.free,I.jc,λp b=>I.pin p<|jJ _ b,I.hok,I.len⟩
theorem SP.vZ(h:SP (Ed X xe Å) iC D f s):SP X Å D f s:=by
 cases f with
 |next=>obtain⟨a,b,I,q⟩:=h;exact⟨a,b,Inv.vZ I,q⟩|brk=>obtain⟨a,b,I,q⟩:=h;exact⟨a,b,Inv.vZ I,q⟩|cont=>obtain⟨a,b,I,q⟩:=h;exact⟨a,b,Inv.vZ I,q⟩|ret u=>obtain⟨v,a,b,I,r,q⟩:=h;exact⟨v,a,b,Inv.vZ I,r,q⟩
end
abbrev MH:=PX->ć->Ĳ Fl
open Builtin Builtin.ObjectAttr
section
variable{X:Cx}{K:KK}
def Gb:List V->Hp->VK->Prop:=λxs H Q=>(∃i,xs=[.int i]/\Q (.int i) H)\/∃k,xs=[.bl k]/\Q (.int<|if k then 1 else 0) H
def Ml:Ŝ X (.type "int") Gb:=D0
noncomputable def Gd:List PV->Option PV
 |[.int i]=>Α<|.int i|[.bl k]=>Α<|.int<|if k then 1 else 0|_=>Β
def Mm:eZ K Gb Gd:=by
 intro c F H a b ps pv vs Q rel r e k;unfold Gd at e;split at e
 ·cases e;obtain⟨v,rfl,d⟩:=vp r;cases d.int;exact .inl ⟨_,rfl,k _ F H rel Č Č Ē.int⟩
 ·cases e;obtain⟨v,rfl,d⟩:=vp r;cases d.bl;exact .inr ⟨_,rfl,k _ F H rel Č Č Ē.int⟩
 ·cases e
def Ge:List V->Hp->VK->Prop:=λxs H Q=>∃i,xs=[.int i]/\i.natAbs.log2<1920/\Q (.str<|ϙ i) H
def Mn:Ŝ X (.type "str") Ge:=xZ
noncomputable def IK:List PV->Option PV
 |[.int i]=>if i.natAbs.log2<1920then Α (.str<|ϙ i)else Β|_=>Β
def Mo:eZ K Ge IK:=by
 intro c F H a b ps pv vs Q rel r e k;unfold IK at e;split at e
 ·split at e
  ·rename_i f;cases e;obtain⟨v,rfl,d⟩:=vp r;cases d.int;exact⟨_,rfl,f,k _ F H rel Č Č Ē.str⟩
  ·cases e
 ·cases e
theorem dZ:∀{ns:List Int}{a:List Á},Ő (ns.map V.int) a->mG a ns
 |[],a,h=>by cases h;exact .nil|n::ns,a,h=>by
  cases h with
  |cons r t=>obtain⟨k,e⟩:=(show ∃k,_=pj n k from r);subst e;exact .cons n k<|dZ t
section
variable{prog:ï}{w:ã}{A:ì}{E:Á->Ä->Prop}{s:Ä}{l:À}{xs:Array (Int×Tok)}
def zT(g:s.heap.IsTuple l (iu xs))
 (h:∀a:Ä,a={s with heap:=s.heap.push {cls:=.type "tuple_iterator",data:=.fields #[.ref l,.int 0 0]}}→
   (a.heap.IsTupleIter s.heap.objs.size l 0/\a.heap.IsTuple l (iu xs))->(∀b∈[s.heap.objs.size,l],b<a.heap.objs.size)->l≠s.heap.objs.size->(∀h':Ô,(∀b o,b∉[s.heap.objs.size]->a.heap.get? b=Α o->h'.get? b=Α o)->∀b o,s.heap.get? b=Α o->h'.get? b=Α o)->Q (.ref s.heap.objs.size) a):
 Ð (Ú prog w) A (jR<|.ref l) Q E s:=by
 have k:l<s.heap.objs.size:=by obtain⟨_,e,_⟩:=g;exact ö e
 refine wpAny_pyIter_tuple g<|h _ rfl ⟨⟨_,ĵ _ rfl,rfl,rfl⟩,g.push _⟩ (λb d=>?_) (Ĕ k) λh' r b o e=>?_
 ·show b<(s.heap.push _).objs.size;rw[eO];rcases ù.mp d with rfl|d
  ·exact oR _
  ·rcases ù.mp d with rfl|d
   ·exact oS k
   ·cases d
 ·refine r b o (λhm=>?_)<|Ć _ e;rcases ù.mp hm with t|hm
  ·exact absurd (t▸ö e)<|cG _
  ·cases hm
def Bk(C:A.handled=Β)(z:s.heap.IsTuple l (iu xs))(D:0<xs.size)
 (h:∀v h' tk,(iu xs)[argBest (λi j=>decide<|di xs i>di xs j)<|xs.size-1]?=Α v->(∀b o,s.heap.get? b=Α o->h'.get? b=Α o)->Q v {s with heap:=h',toks:=tk}):
 Ð (Ú prog w) A (call (.builtin "max") [.ref l]) Q E s:=by
 refine call_max_walk<|zT z λs₂ e y m g k=>?_;subst e;refine⟨_,_,_,_,_,_,_,rfl,Walks.tuple (A:=A.in1) C _ l g<|iu xs,y,m,by simpa[iu]using D,CmpOf.ints_gt (di xs)<|λx x=>intItems_at,λv h' tk G B=>?_⟩;exact h v h' tk (by simpa[iu]using G)<|k h' B
end
def Px(K:Ï):List V->Hp->VK->Prop:=λxs H Q=>∃(p:À) (b:List Int),xs=[.ref p]/\(ż K H p (b.map V.int)\/jH K H p (b.map V.int))/\0<b.length/\∀M,M∈b->(∀a∈b,a<=M)->Q (.int M) H
def Gf(U:X.calm=Δ):Ŝ X (.builtin "max") (Px X.K):=by
 intro Å s c H xs us Q I r h;obtain⟨p,E,rfl,y,A,q⟩:=h;obtain⟨u,rfl,ru⟩:=vals1 r;cases ru;have O:∀(a:Array (Int×Tok)),E=a.toList.map (·.1)->0<a.size->∀v G N,(iu a)[argBest (λi j=>decide<|di a i>di a j)<|a.size-1]?=Α v->(∀b o,s.heap.get? b=Α o->G.get? b=Α o)->EP X Å c Q v {s with heap:=G,toks:=N}:=by
  intro a m n v G N hv hk;obtain⟨t,rfl⟩:=intItems_at hv;obtain⟨h1,h2⟩:=argBest_gt (di a)<|a.size-1;refine⟨.int _,H,I.kept hk,⟨t,rfl⟩,q _ ?_ λa W=>?_⟩
  ·rw[m,numAt_eq];have z:argBest (λi j=>decide<|di a i>di a j) (a.size-1)<(a.toList.map (·.1)).length:=by rw[ģ,cX];lia
   rw[cF,Ĩ z];exact ŵ _
  ·rw[m]at W;obtain⟨j,z,rfl⟩:=jL.mp W;rw[ģ,cX]at z;have:=h2 j (by lia);rw[numAt_eq a j,cF,Ĩ (by rw[ģ,cX];exact z)]at this;exact this
 rcases y with y|y
 ·obtain⟨Z,C,D,hz⟩:=I.list y;have x:=dZ C;obtain⟨a,e⟩:=x.allInts.items;have m:E=a.toList.map (·.1):=by rw[<-x.numsOf,<-xr,<-e]
  have w:=D.isList;rw[e]at w;have n:=by rw[m,ģ,cX]at A;exact A
  exact max_intList (show X.A.handled=Β from I.ok.hd U) w n<|O a m n
 ·obtain⟨Z,C,D,hz⟩:=I.tuple y;have x:=dZ C;obtain⟨a,e⟩:=x.allInts.items;have m:E=a.toList.map (·.1):=by rw[<-x.numsOf,<-xr,<-e]
  have w:=D;rw[e]at w;have n:=by rw[m,ģ,cX]at A;exact A
  exact Bk (show X.A.handled=Β from I.ok.hd U) w n<|O a m n
def Py(K:Ï):List V->Hp->VK->Prop:=λxs H Q=>∃(p:À) (b:List Int),xs=[.ref p]/\ż K H p (b.map V.int)/\0<b.length/\∀M,M∈b->(∀a∈b,M<=a)->Q (.int M) H
def Gg(L:X.calm=Δ):Ŝ X (.builtin "min") (Py X.K):=by
 intro Å s b H xs us Q I r h;refine BL λZ=>?_;obtain⟨p,D,rfl,N,w,q⟩:=h;obtain⟨u,rfl,B⟩:=vals1 r;cases B;obtain⟨ę,A,C,hz⟩:=I.list N;have o:=dZ A;obtain⟨f,e⟩:=o.allInts.items;refine Z ?_;have m:D=f.toList.map (·.1):=by rw[<-o.numsOf,<-xr,<-e]
 have n:=C.isList;rw[e]at n;have E:=by rw[m,ģ,cX]at w;exact w
 refine min_intList (show X.A.handled=Β from I.ok.hd L) n E λv h' tk G J=>?_;obtain⟨t,rfl⟩:=intItems_at G;obtain⟨h1,O⟩:=argBest_lt (di f)<|f.size-1;refine⟨.int _,H,I.kept J,⟨t,rfl⟩,q _ ?_ λa v=>?_⟩
 ·rw[m,numAt_eq];have l:argBest (λi j=>decide<|di f i<di f j) (f.size-1)<(f.toList.map (·.1)).length:=by rw[ģ,cX];lia
  rw[cF,Ĩ l];exact ŵ _
 ·rw[m]at v;obtain⟨j,l,rfl⟩:=jL.mp v;rw[ģ,cX]at l;have:=O j (by lia);rw[numAt_eq f j,cF,Ĩ (by rw[ģ,cX];exact l)]at this;exact this
noncomputable def fA:List PV->Option (List Int)
 |[]=>Α []|.int b::a=>(fA a).map (b::·)|_::_=>Β
@[simp]theorem oh:∀ns:List Int,fA (ns.map PV.int)=Α ns
  |[]=>rfl|n::ns=>congrArg (Option.map (n::·)) (oh ns)
theorem vc:∀{a:List PV}{vs:List V}{bs:List Int},ç K F a vs->fA a=Α bs->vs=bs.map V.int
 |[],vs,bs,r,h=>by cases h;cases r.pr;rfl|p::a,vs,bs,r,h=>by
  cases r.pr with
  |cons c t=>
   cases p with
   |int b=>obtain⟨cs,e,rfl⟩:=jN.mp h;rw[vc (ç.of t) e,show _=V.int b from c];rfl|_=>cases h
noncomputable def zc(f:Int->Int->Int):List Int->Option Int
 |[]=>Β|n::a=>Α<|a.foldl f n
theorem wH:∀(ns:List Int) (n:Int),ns.foldl max n∈n::ns/\∀a∈n::ns,a<=ns.foldl max n
 |[],n=>by simp|m::ns,n=>by
  obtain⟨i,f⟩:=wH ns<|max n m;rw[eI];refine⟨?_,λa d=>?_⟩
  ·rcases ù.mp i with e|e
   ·rw[e];by_cases h:n<=m
    ·rw[Int.max_eq_right h];simp
    ·rw[Int.max_eq_left<|by lia];simp
   ·simp[e]
  ·have hm:=f (max n m) ŀ;rcases ù.mp d with rfl|d
   ·lia
   ·rcases ù.mp d with rfl|d
    ·lia
    ·exact f a<|ð _ d
theorem wI:∀(ns:List Int) (n:Int),ns.foldl min n∈n::ns/\∀a∈n::ns,ns.foldl min n<=a
 |[],n=>by simp|m::ns,n=>by
  obtain⟨i,f⟩:=wI ns<|min n m;rw[eI];refine⟨?_,λa d=>?_⟩
  ·rcases ù.mp i with e|e
   ·rw[e];by_cases h:n<=m
    ·rw[Int.min_eq_left h];simp
    ·rw[Int.min_eq_right<|by lia];simp
   ·simp[e]
  ·have hm:=f (min n m) ŀ;rcases ù.mp d with rfl|d
   ·lia
   ·rcases ù.mp d with rfl|d
    ·lia
    ·exact f a<|ð _ d
def v_:List PV->Option PV
 |[.lst a]=>((fA a).bind (zc max)).map .int|[.tup a]=>((fA a).bind (zc max)).map .int|_=>Β
def wa:List PV->Option PV
 |[.lst a]=>((fA a).bind (zc min)).map .int|_=>Β
set_option tactic.hygienic true
def Gh:eZ K (Px K.K) v_:=by
 intro c F H b d g pv vs Q rel r e k;have q:∀g h,ç K F g h->((fA g).bind (zc max)).map PV.int=Α pv->∃f:List Int,h=f.map V.int/\0<f.length/\∀M,M∈f->(∀a∈f,a<=M)->Q (.int M) H:=by
  intro g h i e;obtain⟨m,A,rfl⟩:=jN.mp e;obtain⟨f,B,s⟩:=sJ.mp A;cases f with
  |nil=>cases s|cons n f=>cases s;obtain⟨w,u⟩:=wH f n;refine⟨n::f,vc i B,by simp,λM z y=>?_⟩;have:=Int.le_antisymm (u M z)<|y _ w;rw[this];exact k _ F H rel Č Č Ē.int
 unfold v_ at e;split at e
 ·rename_i g;obtain⟨v,rfl,j⟩:=vp r;obtain⟨a,h,rfl,p,i⟩:=j.lst rel.sub;obtain⟨f,rfl,o,l⟩:=q g h i e;exact⟨a,f,rfl,.inl p,o,l⟩
 ·rename_i g;obtain⟨v,rfl,j⟩:=vp r;obtain⟨a,h,rfl,p,i⟩:=j.tup rel.sub;obtain⟨f,rfl,o,l⟩:=q g h i e;exact⟨a,f,rfl,.inr p,o,l⟩
 ·cases e
def Gj:eZ K (Py K.K) wa:=by
 intro c F H b d o pv vs Q rel r e k;unfold wa at e;split at e
 ·rename_i o;obtain⟨v,rfl,l⟩:=vp r;obtain⟨a,xs,rfl,t,s⟩:=l.lst rel.sub;obtain⟨m,u,rfl⟩:=jN.mp e;obtain⟨f,w,g⟩:=sJ.mp u;cases f with
  |nil=>cases g|cons n f=>cases g;obtain⟨j,i⟩:=wI f n;refine⟨a,n::f,rfl,by rw[<-vc s w];exact t,by simp,λM q p=>?_⟩;have:=Int.le_antisymm (p _ j)<|i M q;rw[this];exact k _ F H rel Č Č Ē.int
 ·cases e
set_option tactic.hygienic false
@[simp]theorem SE{i:Int}:Gd [.int i]=Α (.int i):=rfl
@[simp]theorem SF{b:Bool}:Gd [.bl b]=Α (.int<|if b then 1 else 0):=rfl
@[simp]theorem SG{i:Int}:IK [.int i]=if i.natAbs.log2<1920then Α (.str<|ϙ i)else Β:=rfl
@[simp]theorem IL{a:List PV}:v_ [.lst a]=((fA a).bind (zc max)).map .int:=rfl
@[simp]theorem IM{a:List PV}:wa [.lst a]=((fA a).bind (zc min)).map .int:=rfl
@[simp]theorem SI{f:Int->Int->Int}{n:Int}{ns:List Int}:zc f (n::ns)=Α (ns.foldl f n):=rfl
end
noncomputable def Pz(K:Ï)(C:À):Bool:=pk K C iz&&tw K C&&xL K C&&Ϗ K (.ref C) "__setattr__"==Α (Α<|.builtin "object.__setattr__")
def Mp{K:Ï}(h:Pz K C=Δ):zn K C:=by unfold Pz at h;simp only[þ,beq_iff_eq]at h;exact⟨h.1.1.1,h.1.1.2,h.1.2,h.2⟩
noncomputable def wb(K:Ï)(C:À)(m:Str)(f:À):Bool:=Ϗ K (.ref C) m==Α (Α<|.ref f)&&pq K (.ref f)&&bJ K (.ref f)
def tN{K:Ï}(h:wb K C m f=Δ):uZ K C m f:=by unfold wb at h;simp only[þ,beq_iff_eq]at h;exact⟨h.1.1,h.1.2,h.2⟩
noncomputable def VY(K:Ï)(C f:À):Bool:=xN K C&&Ϗ K (.ref C) "__init__"==Α (Α<|.ref f)&&pq K (.ref f)&&bJ K (.ref C)
def PD{K:Ï}(h:VY K C f=Δ):Mk K C f:=by unfold VY at h;simp only[þ,beq_iff_eq]at h;exact⟨h.1.1.1,h.1.1.2,h.1.2,h.2⟩
section
variable{ρ:ć}{n k:Nat}{C:String}{cs:List String}{f m:Str}{mo:M PV}{ms:M (List Slot)}{mb:M Fl}{ϸ:List (String×MF)}{as:List Slot}{ns:List Str}{ps:List PV}
@[simp]theorem SJ:fG n k C mb as=if as.length+1=n then IR.of (mb (.rc C [] []::Ğ (k-1) as))else .bad:=rfl
@[simp]theorem VZ{C:String}:IR.of (.ok .nx (.rc C ns ps::ρ))=.ok ns ps:=rfl
@[simp]theorem V_:ħ cs f (.ins C ns ps)=if cs.contains C=Δ then(ns.zip ps).lookup f else Β:=rfl
@[simp]theorem IN:nC m ϸ mo ms ρ=(mo ρ).bind fun p b=>match p with
  |.ins C ns ps=>match ϸ.lookup C with
    |some d=>if ns.contains m=Δ then .bad else(ms b).bind λas a=>match d (.sh (.ins C ns ps)::as)with
     |.ret r=>.ok r a|.exc x=>.exc x a|.bad=>.bad
    |none=>.bad
  |_=>.bad:=rfl
end
end P
namespace M3
open PySem PySem.Spec PyProof.Rows L2 M2
section
variable{X:Cx}{elt tg iter:Ç}{ifs:List Ç}{scope:û}{pos:Pos}{wi:TI}{g:TG}{tt:TT}{te:TE}
def IP{iv:Nat}{y:Str}{py Aw:Pos}(hN:X.N.Nodup)(W:X.N[iv]?=Α y)(hy:X.env.scope.names.lookup y=Α .local)(Ru:ť (.ListComp elt [⟨tg,iter,ifs,0⟩] scope pos) (Α<|.Name y py) Aw.line X.env=pure Δ)(N':List Str)(js:List Nat)(nl:Nat)(sc:û)(rX:X.env.scope=sc)(t:X.calm=Δ)
 (hi:PI X.ar tg iter wi)(hg:∀cl C s H fp,PG (km X.ar N' scope cl C s H fp) tg g)(ht:∀cl C s H fp,CP (km X.ar N' scope cl C s H fp) ifs tt)(he:∀cl C s H fp,PE (km X.ar N' scope cl C s H fp) elt te)
 (B:gG X.ar sc scope N' js)(A:autoParam (js.length+nl=N'.length) Η)
 (hk:autoParam (scope.kind=.function) Η)(r:autoParam (∀y∈scope.names,y.2=.cell->scope.names.lookup y.1=Α .cell) Κ)(k:autoParam (∀y∈scope.names,y.2=.local->scope.names.lookup y.1=Α .local) Κ)
 (p:autoParam (∀y∈scope.names,y.2=.free->(sc.names.lookup y.1=Α .cell\/sc.names.lookup y.1=Α .free)) Κ)
 (hs:autoParam (∀x,de iter X.env x=pure x) Ν):
 PS X.ar (.Assign [.Name y py] (.ListComp elt [⟨tg,iter,ifs,0⟩] scope pos) Aw) (λD a H=>vN js nl wi g tt te a H λv H'=>D.nx (a.set iv<|some v) H'):=by
 intro Å s a H DD I h;rw[exec_Assign_Name_used _ _ _ _<|show ť _ _ _ X.ar.env=pure Δ from Ru];refine à<|mK<|à ?_;refine à<|ό (vO N' js nl sc rX t hi hg ht he B A hk r k p hs I h λD C m s6 H5 hm K J E R U lh qn c=>?_) (λc s' hq=>ď<|ď hq) λc c e=>e;have I7:=K s6.heap λb u c e=>e;refine wpAny_assign_Name<|vE I7 hN W (.inl hy) (v:=.ref D) rfl (λs8 I8 zz=>?_)<|.inr hy;obtain⟨a8,O,Z⟩:=zz;have Q:C≠a8:=by
  rcases Z with rfl|Z
  ·exact J
  ·exact λz=>E _ _ Z z.symm
 refine⟨m,hm.sameBut O Q,λh' NR=>⟨_,H5,?_,qn⟩⟩;have K:=λb o G e=>NR.extBut b o G e;have Y:∀b o,b∉[C]->s8.heap.get? b=Α o->h'.get? b=Α o:=λb o G e=>K b o (λz=>G (by rw[z];exact ŀ)) e;refine I8.call' rfl ⟨λb o e c c w=>Y b o w e,λb o e c c w=>⟨o.slots,Y b o w e⟩,λb o c n c=>n,λb o e w=>⟨o,Y b o w e⟩,λc c q=>q,λc c c q=>q,λc ps q=>q⟩ (CO I8.hok U K) I8.bare λb G=>?_;cases eJ.mp G;exact⟨.inr lh,J,E,R⟩
end
end M3
namespace P
open PySem PySem.Spec PyProof.Rows L2 M2 M3 M4
section
variable{X:Cx}{cm:String->À}{E:ă->XK}{elt tg iter:Ç}{ifs:List Ç}{scope:û}{pos:Pos}{mi:M (List PV)}{g:Tg}{mt:M Bool}{me:M PV}
theorem PS.ar{st:æ}(h:PS X.ar st t):PS X st t:=λÅ s a H D I d=>
 ό (h Å s a H D (I.wish _) d) (λx x q=>q.kg) λx x z=>ų z
def Mq{i:Nat}{y:Str}{py Aw:Pos}(hN:X.N.Nodup)(Rv:X.N[i]?=Α y)(hy:X.env.scope.names.lookup y=Α .local)(N':List Str)(js:List Nat)(nl:Nat)(sc:û)(rX:X.env.scope=sc)(m:X.calm=Δ)
 (hi:PI X.ar tg iter (tI ∅ E mi))(hg:∀cl C s H fp,PG (km X.ar N' scope cl C s H fp) tg<|tT ∅ g)(ht:∀cl C s H fp,CP (km X.ar N' scope cl C s H fp) ifs<|tB ∅ EF mt)(he:∀cl C s H fp,PE (km X.ar N' scope cl C s H fp) elt<|tV ∅ EF me)
 (u:gG X.ar sc scope N' js)(o:autoParam (js.length+nl=N'.length) Η)
 (hk:autoParam (scope.kind=.function) Η)(l:autoParam (∀y∈scope.names,y.2=.cell->scope.names.lookup y.1=Α .cell) Κ)(j:autoParam (∀y∈scope.names,y.2=.local->scope.names.lookup y.1=Α .local) Κ)
 (k:autoParam (∀y∈scope.names,y.2=.free->(sc.names.lookup y.1=Α .cell\/sc.names.lookup y.1=Α .free)) Κ)
 (hs:autoParam (∀x,de iter X.env x=pure x) Ν)(Ru:autoParam (ť (.ListComp elt [⟨tg,iter,ifs,0⟩] scope pos) (Α<|.Name y py) Aw.line X.env=pure Δ) Η):
 PS X (.Assign [.Name y py] (.ListComp elt [⟨tg,iter,ifs,0⟩] scope pos) Aw) (tS ∅ E<|Ą i<|Ģ js nl mi g mt me):=
 PS.wk (PS.ar<|IP hN Rv hy Ru N' js nl sc rX m (J1 hi) hg ht he u o hk l j k hs)<|by rintro D e H ⟨c,F,b,rel,h⟩;exact zJ ⟨c,F,b,rel,ϑ.bind h fun r d v G B w s1 q A=>by
   cases r with
   |sh p=>exact A _ G B (w.put rfl ⟨v,rfl,q⟩) Č|ow ps=>obtain⟨a,J,rfl,Q,O,N,L,K⟩:=q;exact A _ G B (w.A5 ⟨a,J,rfl,Q,O,N,K⟩ λf z=>V.ref.inj z▸L) Č
   |ot ps qs rs=>obtain⟨p,a,U,J,R,rfl,Z,Y,Q,O,N,L,K,q6⟩:=q;exact A _ G B (w.A5 ⟨p,a,U,J,R,rfl,Z,Y,Q,O,N,K,q6⟩ λf z=>pM z ⟨p,U,R,rfl,Z,Y.length.symm⟩▸L) Č
   |bn t ps qs W=>exact A _ G B (w.LW q) Č⟩
end
def V5(K:KK)(r:V->List V->Hp->VK->Prop)(f:PV->List PV->Option PV):Prop:=∀{c:Ctx}{F H:Hp}{a:ă}{b:ć}{p:PV}{h:List PV}{pv:PV}{v:V}{g:List V}{Q:VK},ē K c F H a b->rR K c a b F H p v->LS K c a b F H h g->f p h=Α pv->
 (∀z e d,ē K c e d a b->Ù F e->Ù H d->Ē K e pv z->Q z d)->r v g H Q
@[simp]def zf(f:PV→List PV→Option PV)(mo:M PV)(e:M (List PV))(c:ć):Ĳ PV:=(mo c).bind fun p a=>match p with
  |.str _=>(e a).bind λps b=>Ĳ.zG (f p ps) b
  |_=>.bad
section
variable{X:Cx}{cm:String->À}{K:KK}{E:ă->XK}{o e:Ç}{es:List Ç}{name:Str}{aD gB:Pos}{id:String}{r:V->List V->Hp->VK->Prop}{f:PV->List PV->Option PV}{mo:M PV}{ms:M (List PV)}
def oi(pa:PlainAttrs "str")(slot:PySem.Slot "str" name id)(lY:typeOf (.builtin id)=pure (.type "method_descriptor"))(hf:V5 ∅ r f)(hm:N7 X id r)(ho:PE X o (tR ∅ E mo))(ha:PA X (e::es) (FK ∅ E ms))
 (jE:autoParam (dg o name X.env (eval o X.env)=eval o X.env) Ζ)
 (qY:autoParam (((ü gB<|Î (e::es) X.env).all (fun x=>!x.1)&&(af gB<|ag [] X.env).all (fun x=>x.1.isSome)
   &&decide ((e::es).length+([]:List Ϭ).length+(if([]:List Ϭ).isEmpty then 0 else 1)<30))=Δ) Η)
 (jF:autoParam ((aD.endLine==gB.line)=Δ) Η)(hs:autoParam (Î (e::es) X.env=(Ε,eval e X.env)::Î es X.env) Θ)(kM:autoParam ((ü gB<|Î es X.env).any (·.1)=Ε) Ζ):
 PE X (.Call (.Attribute o name aD) (e::es) [] gB) (tV ∅ E<|zf f mo ms):=
 PE.wk (cQ pa slot lY hm ho ha jE qY jF hs kM) fun g H Q ⟨c,F,b,rel,h⟩=>⟨c,F,b,rel,ϰ.bind h fun p a v F1 H1 Û _ _ r1 h1=>by
   cases p with
   |str z=>
    cases r1.str;refine⟨rfl,c,F1,a,Û,ϰ.bind h1 λps d vs F2 H2 Ě sF sH r2 h2=>?_⟩;cases ef:f (.str z) ps with
    |none=>rw[ef]at h2;exact h2.elim|some pv=>rw[ef]at h2;exact hf Ě (.inl<|Ē.str) r2 ef λz F' H' ű s1 s2 q'=>h2 z F' H' ű s1 s2 q'
   |_=>exact h1.elim⟩
noncomputable def oA:List PV->Option (List<|List Nat)
 |[]=>Α []|.str z::a=>(oA a).map (z.cps.toList::·)|_::_=>Β
theorem zU:∀{a:List PV}{vs:List V}{bs:List (List Nat)},ç K F a vs->oA a=Α bs->vs=bs.map λl=>V.str<|S l
 |[],vs,bs,r,h=>by cases h;cases r.pr;rfl|p::a,vs,bs,r,h=>by
  cases r.pr with
  |cons c t=>
   cases p with
   |str z=>obtain⟨cs,e,rfl⟩:=jN.mp h;rw[zU (ç.of t) e,show _=V.str z from c,â,LM]|_=>cases h
def ax:PV->List PV->Option PV
 |.str z,[.lst c]=>(oA c).bind λys=>if(ys.map aa).sum+ys.length*z.length<=16777216then Α (.str<|S<|ĉ z.cps.toList ys)else Β
 |_,_=>Β
set_option tactic.hygienic true in
def bQ:V5 K (Fz K.K) ax:=by
 intro c F H b d p ps pv v vs Q rel j i e k;unfold ax at e;split at e
 ·rename_i z qs;cases j.str;obtain⟨u,rfl,h⟩:=vp i;obtain⟨a,xs,rfl,n,m⟩:=h.lst rel.sub;obtain⟨g,q,e⟩:=sJ.mp e;split at e
  ·rename_i l;cases e;exact⟨g,by rw[<-zU m q];exact n,l,k _ F H rel Č Č Ē.str⟩
  ·cases e
 ·cases e
noncomputable def pZ:PV->List PV->Option PV
 |.str z,[.str y]=>Α<|.bl<|decide<|z.cps.toList.take y.cps.toList.length=y.cps.toList|_,_=>Β
def wc:V5 K yl pZ:=by
 intro c F H a b p ps pv v vs Q rel h g e k;unfold pZ at e;split at e
 ·cases h.str;obtain⟨u,rfl,d⟩:=vp g;cases d.str;cases e;exact k _ F H rel Č Č Ē.bl
 ·cases e
end
end P
namespace PySem
open AutoSeq1 (wpAny_loadPart')
namespace SK
def PF(a:Á)(t:Tok):checkTypeCall "enumerate" ⟨[a],[(È "start",.int 1 t)]⟩=pure ():=by kernel_rfl
def PH(a:Á)(t:Tok):checkBuiltinCall "enumerate.__new__" ⟨[.type "enumerate",a],[(È "start",.int 1 t)]⟩=pure ():=by kernel_rfl
set_option tactic.hygienic true in
def Yo(l:À)(items:Array Á)(n:Nat)(t:Tok)(Yp:Option À)(sl:Array (Option Á)):
 Meets (Builtin.«enumerate.__new__» ⟨[.type "enumerate",.ref l],[(È "start",.int 1 t)]⟩) (λx R s=>s.heap.get? l=Α {cls:=.type "list",dict:=Yp,data:=.seq items n,slots:=sl}/\
  R (.ok<|.ret<|.ref (s.heap.push {cls:=.type "list_iterator",data:=.fields #[.ref l,.int 0 0]}).objs.size)
    {s with heap:=(s.heap.push {cls:=.type "list_iterator",data:=.fields #[.ref l,.int 0 0]}).push {cls:=.type "enumerate",data:=.fields #[.none,.bool Ε,.ref s.heap.objs.size,fT 1,.none,.none]}}):=
 .of_wp fun prog w A R s h=>by
   obtain⟨hp,g,d,tk,os⟩:=s;obtain⟨hl,h⟩:=h;have Yq:=sub_enumerate;have hL:Heap.IsList (Shared.heap ⟨hp,g,d,tk,os⟩) l items:=⟨_,hl,rfl,n,rfl⟩
   wp_walk using wpAny_loadPart' hl
   refine wpAny_stack_any λst=>ď ?_;split
   ·rename_i c _ _ _ _ _;cases(c==s_ "enumerate")
    ·wp_walk using wpAny_loadPart' hl,jW hL
     exact⟨_,rfl,h⟩
    ·wp_walk using wpAny_loadPart' hl,jW hL
     exact⟨_,rfl,h⟩
   ·wp_walk using wpAny_loadPart' hl,jW hL
    exact⟨_,rfl,h⟩
section
variable{prog:ï}{w:ã}{A:ì}{E:Á->Ä->Prop}{s:Ä}
def PK:Meets (Builtin.«object.__init__» ⟨[d,a],[(È "start",.int 1 t)]⟩) (λx R s=>s.TypeIs d "enumerate"/\R (.ok<|.ret .none) s):=by
 have hl:=xB.init.lookup;have hm:=xB.made;refine Meets.of_wp λprog w A R s hs=>?_;obtain⟨hT,hq⟩:=hs
 repeat (any_goals (first|assumption|wp_step))
 exact⟨_,rfl,hq⟩
def PL(a b:Á)(t:Tok):argsOk "object.__init__" ⟨[a,b],[(È "start",.int 1 t)]⟩:=by kernel_rfl
def PM{l:À}{items:Array Á}{t:Tok}{Q:Á->Ä->Prop}(hL:s.heap.IsList l items)
 (h:∀h',eN h' (s.heap.objs.size+1) s.heap.objs.size 1 .none->h'.IsListIter s.heap.objs.size l 0->h'.objs.size=s.heap.objs.size+2->(∀b o,s.heap.get? b=Α o->h'.get? b=Α o)->Q (.ref<|s.heap.objs.size+1) {s with heap:=h'}):
 Ð (Ú prog w) A (call (.type "enumerate") [.ref l] [(È "start",.int 1 t)]) Q E s:=by
 obtain⟨⟨c,Yp,dt,sl⟩,hl,hc,n,hd⟩:=hL
 replace hc:c=.type "list":=hc
 replace hd:dt=.seq items n:=hd
 subst hc hd;have ft:=xB;obtain⟨c,tl,Zas⟩:=ft.mro;have Zal:=ft.made;have Yq:=ft.sub;have hct:=PF (.ref l) t;refine o_<|codeAny_of_tree ?_;show Ð _ _ (callAny (.type "enumerate") _) _ _ _;refine ď ⟨Code.quiet_builtin _ (by decide+kernel),sP F.entry_type_call ?_⟩;rw[Around.under_plain (weight_type_call_type "enumerate" [.ref l] [(È "start",.int 1 t)])<|units_type_call_type "enumerate" [.ref l] [(È "start",.int 1 t)]];have h1:=ft.notType;have h2:=ft.canCreate
 repeat (any_goals (first|assumption|wp_step))
 refine jV (codeAny_call_builtin ft.plain F.entry_enumerate_new<|wpAny_of_eq (PH (.ref l) t)<|Yo l items n t Yp sl prog w A.in1 (wants (λobj s₁=>s₁.TypeIs obj "enumerate"/\Q obj s₁) E) s ⟨hl,?_⟩) λr s₁ hr=>?_
 ·have hz:(s.heap.push {cls:=.type "list_iterator",data:=.fields #[.ref l,.int 0 0]}).objs.size=s.heap.objs.size+1:=eO ..;show _/\_;rw[hz];have he:eN ((s.heap.push {cls:=.type "list_iterator",data:=.fields #[.ref l,.int 0 0]}).push {cls:=.type "enumerate",data:=.fields #[.none,.bool Ε,.ref s.heap.objs.size,fT 1,.none,.none]}) (s.heap.objs.size+1) s.heap.objs.size 1 .none:=by
   have:=ĵ (s.heap.push {cls:=.type "list_iterator",data:=.fields #[.ref l,.int 0 0]}) (o:={cls:=.type "enumerate",data:=.fields #[.none,.bool Ε,.ref s.heap.objs.size,fT 1,.none,.none]}) rfl;rw[hz]at this;exact this
  exact⟨⟨_,he,rfl⟩,h _ he ⟨_,Ć _<|ĵ _ rfl,rfl,rfl⟩ (by rw[eO,hz]) λb o x=>Ć _<|Ć _ x⟩
 ·cases r with
  |error e=>exact hr|ok fl=>
   cases fl with
   |ret obj=>
    obtain⟨hT,hq⟩:=hr;have hli:=ft.init.lookup;have Ot:=ft.init.bind obj
    repeat (any_goals (first|assumption|wp_step))
    refine jV (codeAny_call_builtin ft.init.plain F.entry_object_init<|ft.init.check _ _ _ _ _ _ _ _ hT (PL _ _ t)<|PK prog w A.in1 (wants (λr s₂=>r=.none/\Q obj s₂) E) s₁ ⟨hT,rfl,hq⟩) λr₂ s₂ Yr=>?_;cases r₂ with
    |error e=>exact Yr|ok fl₂=>
     cases fl₂ with
     |ret r=>
      obtain⟨rfl,hq⟩:=Yr
      repeat (any_goals (first|assumption|wp_step))
     |_=>exact Yr.elim
   |_=>exact hr.elim
def EB{Q:Á->Ä->Prop}(he:eN s.heap e it k oy)(li:s.heap.IsListIter it l i)(hl:s.heap.IsList l items)(hx:items[i]?=Α x)(h_:e≠it)
 (hQ:∀h',IsEnumOut h' e it (k+1) x s.heap.objs.size->h'.IsListIter it l (i+1)->h'.get? s.heap.objs.size=Α {cls:=.type "tuple",data:=.seq #[.int k s.toks,x]}->h'.objs.size=s.heap.objs.size+1->(∀b o,b≠e->b≠it->s.heap.get? b=Α o->h'.get? b=Α o)->Q (.ref s.heap.objs.size) {s with heap:=h',toks:=s.toks+1}):
 Ð (Ú prog w) A (Builtin.«enumerate.__next__» ⟨[.ref e],[]⟩) (λnU s'=>∃v,nU=.done (.ret v)/\Q v s') E s:=by
 obtain⟨hp,g,d,u,os⟩:=s;show Ð _ _ (field (.ref e) 2>>=_) _ _ _;refine à<|mL he rfl (x:=.ref it) rfl ?_;refine à (wpAny_nextOf_list_item li hl hx λha Ys sa=>?_)
 replace sa:iy it hp ha:=sa
 have ea:eN ha e it k oy:=(sa.2 e h_).trans he;show Ð _ _ (field (.ref e) 3>>=_) _ _ ⟨ha,g,d,u,os⟩;refine à<|mL ea rfl (x:=fT k) rfl ?_;show Ð _ _ (field (.ref e) 4>>=_) _ _ ⟨ha,g,d,u,os⟩;refine à<|mL ea rfl (x:=.none) rfl ?_;show Ð _ _ (mkInt k>>=_) _ _ ⟨ha,g,d,u,os⟩;refine à<|wpAny_mkInt ?_;show Ð _ _ (setField (.ref e) 3 (fT<|k+1)>>=_) _ _ ⟨ha,g,d,u+1,os⟩;refine à (pc ea (by simp) λhb eb sb=>?_)
 replace sb:iy e ha hb:=sb
 replace eb:eN hb e it (k+1) oy:=eb
 show Ð _ _ (setField (.ref e) 4 .none>>=_) _ _ ⟨hb,g,d,u+1,os⟩;refine à (pc eb (by simp) λhc ec sc=>?_)
 replace sc:iy e hb hc:=sc
 refine à<|wpAny_newTuple ?_;have ed:eN (hc.push {cls:=.type "tuple",data:=.seq #[.int k u,x]}) e it (k+1) oy:=Ć _ ec;generalize KG:hc.push {cls:=.type "tuple",data:=.seq #[.int k u,x]}=hd at ed;have lh:hc.objs.size=hp.objs.size:=by rw[sc.1,sb.1,sa.1]
 have Yt:e<hp.objs.size:=ö he;have td:hd.get? hp.objs.size=Α {cls:=.type "tuple",data:=.seq #[.int k u,x]}:=by rw[<-KG,<-lh];exact ĵ _ rfl
 have zd:hd.objs.size=hp.objs.size+1:=by rw[<-KG,eO,lh]
 have kd:∀b o,b≠e->b≠it->hp.get? b=Α o->hd.get? b=Α o:=λb o zm Ot q=>by rw[<-KG];exact Ć _<|sc.extBut b o zm<|sb.extBut b o zm<|sa.extBut b o Ot q
 have itd:hd.IsListIter it l (i+1):=by rw[<-KG];obtain⟨o,ho,r⟩:=(Ys.extBut sb.extBut<|Ť h_).extBut sc.extBut (Ť h_);exact⟨o,Ć _ ho,r⟩
 rw[lh];refine à ?_
 ·unfold Builtin.SmallTypes.ownedTupleIsFree;refine à<|mL ed rfl (x:=.none) rfl<|ď ?_;refine à<|wpAny_rule ?_;refine à<|mL ed rfl (x:=oy) rfl ?_;refine à (pc ed (by simp) λh5 e5 s5=>?_);refine à ?_
  ·unfold Builtin.SmallTypes.ownedTupleHandOut;refine à (pc e5 (by simp) λh6 e6 s6=>?_);refine pc e6 (by simp) λh7 e7 s7=>?_;refine à<|mM<|ď ⟨_,rfl,hQ h7 e7 ?_ ?_ ?_ ?_⟩
   ·exact((itd.extBut s5.extBut<|Ť h_).extBut s6.extBut (Ť h_)).extBut s7.extBut (Ť h_)
   ·exact s7.extBut _ _ (da Yt)<|s6.extBut _ _ (da Yt)<|s5.extBut _ _ (da Yt) td
   ·rw[s7.1,s6.1,s5.1,zd]
   ·exact λb o zm Ot q=>s7.extBut b o zm<|s6.extBut b o zm<|s5.extBut b o zm<|kd b o zm Ot q
def Ms(he:eN s.heap e it k oy)(t:s.heap.IsListIter it l i)(v:s.heap.IsList l items)(u:items[i]?=Α x)(y:e≠it)
 (z:∀h',IsEnumOut h' e it (k+1) x s.heap.objs.size->h'.IsListIter it l (i+1)->h'.get? s.heap.objs.size=Α {cls:=.type "tuple",data:=.seq #[.int k s.toks,x]}->h'.objs.size=s.heap.objs.size+1->(∀b o,b≠e->b≠it->s.heap.get? b=Α o->h'.get? b=Α o)->Q (Α<|.ref s.heap.objs.size) {s with heap:=h',toks:=s.toks+1}):
 Ð (Ú prog w) A (ij<|.ref e) Q E s:=by
 have q:s.TypeIs (.ref e) "enumerate":=⟨_,he,rfl⟩;exact à<|wpAny_attempt<|wpAny_callSpecial?_slot q sX<|wpAny_call_entry sX q Co (EB he t v u y λh' a b c d k=>ď<|z h' a b c d k)<|Cr _
def Bl(v:A.handled=Β)(he:eN s.heap e it k oy)(q:s.heap.IsListIter it l i)(u:s.heap.IsList l items)(r:items[i]?=Β)
 (z:∀h',Heap.ExtBut it s.heap h'->Q Β {s with heap:=h'}):Ð (Ú prog w) A (ij<|.ref e) Q E s:=by
 have n:s.TypeIs (.ref e) "enumerate":=⟨_,he,rfl⟩;refine à<|wpAny_attempt<|wpAny_callSpecial?_slot n sX<|wpAny_call_entry sX n Co ?_ (Cr _);show Ð _ _ (field (.ref e) 2>>=_) _ _ _;refine à<|mL he rfl rfl ?_;refine à<|wpAny_nextOf_list_end v q u r λh' x B C=>?_;obtain⟨o,t,y⟩:=C;refine à<|wpAny_isInstance ⟨o,t,y⟩ isSubtype_stop ?_;exact ď<|z _ B
end
end SK
end PySem
namespace P
open PySem PySem.Spec PyProof.Rows L2 M2 M3 M4
section
variable{X:Cx}{Å:List (À×Obj)}{σ:ă}{H:Hp}{s:Ä}{h':Ô}
def turns{fp:List À}(I:Inv X Å σ H s)(k:∀b o,b∉fp->s.heap.get? b=Α o->h'.get? b=Α o)(g:∀b∈fp,fq X Å H b):Inv X Å σ H {s with heap:=h',toks:=t'}:=by
 have j:∀b u,H b=Α u->b∉fp:=λb u e z=>by rw[(g b z).1]at e;cases e
 have y:=λz=>(g _ z).2.1 rfl;refine I.step (λb x=>?_) (λb o a a f e a=>k b o f e) (λb o a a f e a=>⟨o.slots,k b o f e⟩) (λa a a a n=>n)
  (λb o f e=>⟨o,k b o f e⟩) (λa a e=>e) (λa a a e=>e) (λb ps e=>e) (λm w=>?_) (λb u e=>?_) I.bare
 ·obtain⟨f0,D,f2,C,B,A⟩:=g b x;exact⟨C,D,B,A⟩
 ·obtain⟨o,E,G,t,r⟩:=w;exact⟨o,E,G,k _ o y t,r⟩
 ·refine(I.hok b u e).stay (λc v f q=>k c v ?_ q) (λa q=>q) λa a q=>q;rcases f with z|z
  ·rw[z];exact j b u e
  ·exact j c _ z
def Mt(f:fq X Å H b)(h:b≠a):fq X Å (upd H a o) b:=⟨by rw[ñ h];exact f.1,f.2⟩
def ut{fp:List À}(I:Inv X Å σ H s)(q:RelV x1 j)(p:RelV m i)(t:∃o,h'.get? s.heap.objs.size=Α o/\o={cls:=.type "tuple",data:=.seq #[j,i]})
 (k:∀b o,b∉fp->s.heap.get? b=Α o->h'.get? b=Α o)(v:∀b∈fp,fq X Å H b)(r:∀b∈fp,b<s.heap.objs.size):
 Inv X Å σ (upd H s.heap.objs.size<|.tup [x1,m]) {s with heap:=h',toks:=t'}:=by
 have y:Inv X Å σ (upd H s.heap.objs.size<|.tup [x1,m]) {s with heap:=s.heap.push {cls:=.type "tuple",data:=.seq #[j,i]},toks:=s.toks}:=
  I.laid (λb u e=>Ć _ e) (õ _) ⟨by show 2<=sizeLine;decide,[j,i],.cons q<|.cons p .nil,⟨_,ĵ _ rfl,rfl,_,rfl⟩⟩
 refine turns (s:={s with heap:=s.heap.push {cls:=.type "tuple",data:=.seq #[j,i]},toks:=s.toks}) y (λb o l e=>?_) λb l=>Mt (v b l)<|Ĕ<|r b l;rcases Heap.get?_push_cases e with⟨rfl,rfl⟩|e
 ·obtain⟨o,x,w⟩:=t;rw[x,w]
 ·exact k b o l e
end
def IS(z:Nat)(K:Ï)(a:À):It:=
 ⟨λi H=>∃b x,ż K H a b/\b[i]?=Α x,λi H y d=>∃x T,(∀b,ż K H a b->b[i]?=Α x)/\H T=Β/\y=.ref T/\d=upd H T (.tup [.int ((i+z:Nat):Int),x]),λi H=>∃b,ż K H a b/\b.length<=i⟩
abbrev Ite:=IS 0
def we(z:Nat){K:Ï}(a e it:À)(h_:e≠it):Au P w K (.Tuple elts k pos) (IS z K a) [e,it] e (λi h=>(∃r,eN h e it (((i+z:Nat):Int)) r)/\h.IsListIter it a i) where
 mem:=by simp
 obj:=λi h l b j=>by
  obtain⟨⟨r,m⟩,t⟩:=l;rcases ù.mp j with rfl|j
  ·exact⟨_,m,fun v z=>by have z':Data.fields _=sW v:=z;cases z'⟩
  ·have Z:b=it:=by simpa using j
   subst Z;obtain⟨o,e1,c,d⟩:=t;exact⟨o,e1,λv z=>by rw[d]at z;cases z⟩
 keep:=λi h h' l k=>⟨let ⟨r,m⟩:=l.1;⟨r,k e (by simp) _ m⟩,l.2.at λo q=>k it (by simp) o q⟩
 item:=by
  intro X W R Y hc i Å s f H E I G l U;subst W R Y;refine BL λV=>?_;obtain⟨⟨r,m⟩,t⟩:=l;obtain⟨xs,x,D,Q⟩:=U;obtain⟨ę,N,p,hz⟩:=I.list D;obtain⟨u,hu,ru⟩:=N.get Q;refine V ?_;have C:e<s.heap.objs.size:=ö m;have O:it<s.heap.objs.size:=by obtain⟨_,q,_⟩:=t;exact ö q
  refine SK.Ms m t p.isList (x:=u) (by simpa using hu) h_ λh' ho Yw hT lh hk=>?_;refine⟨.ref s.heap.objs.size,rfl,wpAny_letOwnedTupleGo_enum ho λOu Yu NR=>?_⟩;have L:iy e h' Ou:=NR;have kN:∀b∈[e,it],b<s.heap.objs.size:=λb j=>by
   rcases ù.mp j with rfl|j
   ·exact C
   ·have Z:b=it:=by simpa using j
    subst Z;exact O
  have I2:=ut (fp:=[e,it]) (h':=Ou) (t':=s.toks+1) (x1:=.int<|((i+z:Nat):Int)) I ⟨s.toks,rfl⟩ ru ⟨_,(L.2 _<|da C).trans hT,rfl⟩ (λb o j q=>by have zm:b≠e:=λz=>j (by simp[z]);have Ot:b≠it:=λz=>j (by simp[z]);exact(L.2 b zm).trans (hk b o zm Ot q)) G kN;refine⟨.ref s.heap.objs.size,_,I2,rfl,⟨x,s.heap.objs.size,λys hy=>by rw[I.lj hy D];exact Q,I.fresh,rfl,rfl⟩,⟨⟨u,?_⟩,Yw.at λo q=>(L.2 it h_.symm).trans q⟩,λb j=>?_⟩
  ·have Rx:eN Ou e it ((((i+z:Nat):Int))+1) u:=Yu;rw[show(((i+1+z:Nat):Int))=((i+z:Nat):Int)+1 by lia];exact Rx
  ·rw[ñ<|Ĕ<|kN b j];exact(G b j).1
 done:=by intro X W R Y hc i Å s f H E I G l U;subst W R Y;refine BL λJ=>?_;obtain⟨⟨r,m⟩,t⟩:=l;obtain⟨xs,D,Q⟩:=U;obtain⟨ę,N,p,hz⟩:=I.list D;refine J ?_;have hl:=N.length;refine SK.Bl (I.ok.hd hc) m t p.isList (by simp;lia) λh' eb=>⟨rfl,turns (fp:=[e,it]) (t':=s.toks) I (λb o j q=>eb b o (λz=>j<|by simp[z]) q) G⟩
 self:=λy y y y y l h=>let ⟨_,m⟩:=l.1;xt m h
section
variable{X:Cx}{elts:List Ç}{k:Nat}{tp:Pos}
def PN(K:Ï)(g:TA):TI:=λb H R=>g b H λvs d=>∃a,vs=[.ref a]/\(∃f,ż K d a f)/\R (Ite K a) d
def IU{l:Ç}{o:TA}{p pos:Pos}(L:Gl X "enumerate")(J:X.mg "enumerate"=Β)(N:PA X [l] o)(E:autoParam (Î [l] X.env=[(Ε,eval l X.env)]) Θ):PI X (.Tuple elts k tp) (.Call (.Name "enumerate" p) [l] [] pos) (PN X.K o):=by
 intro x s c H R I h;refine Call_<|iX I L J boot_enumerate<|jP (Ż (N pos x s c H _ I h) λus s1 y=>?_) E rfl;refine BL λZ=>?_;obtain⟨vs,W,g,A,B⟩:=y;obtain⟨a,e,⟨xs,G⟩,q⟩:=B;subst e;obtain⟨u,rfl,z⟩:=A.one;cases z;obtain⟨ę,rv,C,hz⟩:=g.list G;refine Z ?_;refine call_enumerate_list C.isList λh' r D lh K=>?_;have U:=g.kept (t':=s1.toks) K;refine xt r ⟨s1.heap.objs.size+1,[s1.heap.objs.size+1,s1.heap.objs.size],_,_,W,rfl,U,we 0 a _ _<|Nat.succ_ne_self _,⟨⟨_,r⟩,D⟩,λb i=>?_,q⟩;have v:s1.heap.objs.size<=b:=by
  rcases ù.mp i with rfl|i
  ·exact mF _
  ·have O:=by simpa using i
   exact sE O.symm
 exact g.rN v<|g.hok.fresh v
end
def J8(K:KK):RR (List PV) V:=λc x x F H b v=>∃a,v=.ref a/\(∃e,ż K.K H a e)/\lz K c.L F (HP K.K a) b
def uv{K:KK}(h:Ē K F (.lst s) v):∃a,v=.ref a/\(∃xs,ż K.K F a xs)/\lz K L F (HP K.K a) s:=by obtain⟨a,d,rfl,m,l⟩:=h;refine⟨a,rfl,⟨d,m⟩,?_⟩;intro c' i y H2 b c g j _;have e:=(j.trans g.sub).seq m;refine⟨λp w=>?_,λhi=>⟨d,e,by rw[hi,l.length];exact õ _⟩⟩;obtain⟨u,k,r⟩:=cq l.pr w;refine⟨⟨d,u,e,k⟩,λx H' q=>?_⟩;obtain⟨x,t⟩:=q;subst x;have:=t d e;rw[k]at this;cases this;exact⟨y,g,Ù.refl _,Ù.refl _,Ē.same j p u r⟩
def Ee{K:KK}{c:Ctx}(w:c.L a=Α (.lst vs))(h:ç K F r vs):lz K c.L F (HP K.K a) r:=by intro c' j y x b d l o n;have e:ż K.K x a vs:=ż.of<|n a _ w;refine⟨λp t=>?_,λhi=>⟨vs,e,by rw[hi,h.length];exact õ _⟩⟩;obtain⟨u,g,q⟩:=cq h.pr t;refine⟨⟨vs,u,e,g⟩,λx H' m=>?_⟩;obtain⟨v,s⟩:=m;subst v;have:=s vs e;rw[g]at this;cases this;exact⟨y,l,Ù.refl _,Ù.refl _,Ē.same o p u q⟩
def lz.mono{K:KK}(h:lz K L F J g)(s:Ù F k):lz K L k J g:=λc i j H a b rel f e=>h c i j H a b rel (s.trans f) e
@[simp]def Ef(m:M PV)(b:ć):Ĳ (List PV):=(m b).bind fun p a=>match p with
  |.lst c=>.ok c a|_=>.bad
noncomputable def IW(i:Nat):M (List PV):=λρ=>match ρ[i]?with
 |some (.bw a)=>.ok a ρ|some (.sh<|.lst a)=>.ok a ρ|some (.ow a)=>.ok a<|ρ.set i<|.sh<|.lst a|_=>.bad
section
variable{X:Cx}{cm:String->À}{E:ă->XK}{e:Ç}{m:M PV}
def Bm(h:PE X e (tV ∅ E m)):PE X e (tG ∅ E (J8<|kk X cm)<|Ef m):=PE.wk h<|by rintro f H Q ⟨c,F,b,rel,h⟩;exact ⟨c,F,b,rel,h.bind λp d v i t f s1 s2 q g=>by
 cases p with
 |lst n=>obtain⟨a,s,⟨l,r⟩,o⟩:=uv (show Ē ∅ i (.lst n) v from q);exact g v i t f Č Č ⟨a,s,⟨l,f.sub.seq r⟩,o⟩|_=>exact g.elim⟩
def PP(i:Nat){x:Str}{B:Pos}(I:autoParam (EK X i x=Δ) Ζ):PE X (.Name x B) (tG ∅ E (J8<|kk X cm)<|IW i):=PE.wk (pE I)<|by
 rintro d H Q ⟨c,F,b,rel,h⟩;unfold IW at h;cases e:b[i]?with
 |none=>rw[e]at h;exact h.elim|some z=>
  rw[e]at h;cases z with
  |no=>exact h.elim|lr C t f=>exact h.elim|rc C t f=>exact h.elim|ot f A rs=>exact h.elim|ol G=>exact h.elim|fr G=>exact h.elim|rd C t f=>exact h.elim|pin=>exact h.elim|bn A s=>exact h.elim|dw gY=>exact h.elim|ow f=>obtain⟨a,r,y,w,u,q⟩:=rel.share e;obtain⟨a',o,⟨j,n⟩,l⟩:=uv u;cases o;exact⟨.ref a,y,h _ _ H q (Ù.upd w) Č ⟨a,rfl,⟨j,q.sub.seq n⟩,l⟩⟩|bw f=>obtain⟨a,r,k,g,J⟩:=rel.slot i _ e;exact⟨.ref a,Ŀ k,h _ F H rel Č Č ⟨a,rfl,⟨r,ż.of (rel.lent a _ g).1⟩,Ee g J⟩⟩|sh p=>
   obtain⟨v,k,g⟩:=rel.slot i _ e;cases p with
   |lst f=>obtain⟨a,o,⟨j,n⟩,l⟩:=uv g;exact⟨v,Ŀ k,h v F H rel Č Č ⟨a,o,⟨j,rel.sub.seq n⟩,l⟩⟩|_=>exact h.elim
noncomputable def ci:Nat->List PV->List PV
 |_,[]=>[]|k,p::a=>.tup [.int k,p]::ci (k+1) a
theorem wf:∀(k:Nat) (b:List PV),(ci k b).length=b.length
 |_,[]=>rfl|k,_::b=>congrArg (·+1)<|wf (k+1) b
theorem wg:∀(k:Nat) (a:List PV) (i:Nat),(ci k a)[i]?=a[i]?.map λp=>.tup [.int ((k+i:Nat):Int),p]
 |_,[],_=>rfl|k,p::a,0=>rfl|k,p::a,i+1=>by show(ci (k+1) a)[i]?=_;rw[wg (k+1) a i,sx,show k+1+i=k+(i+1) by lia]
@[simp]def J9(m:M (List PV))(b:ć):Ĳ (List PV):=(m b).bind λps a=>.ok (ci 0 ps) a
def De{K:KK}(rel:ē K c F H a b)(d:H T=Β)(h:Ē K F p x)(g:Ē K F q y):ē K c (upd F T<|.tup [x,y]) (upd H T<|.tup [x,y]) a b/\Ē K (upd F T<|.tup [x,y]) (.tup [p,q]) (.ref T):=by have f:=rel.sub.free d;refine⟨rel.alloc d,?_⟩;exact⟨T,[x,y],rfl,jH.of ā,ç.cons (Ē.same (Ù.upd f) p x h)<|ç.cons (Ē.same (Ù.upd f) q y g) ç.nil⟩
def uw(z:Nat){K:KK}(h:lz K L F (HP K.K a) n):lz K L F (IS z K.K a) (ci z n):=by
 intro c i R H b d rel A y;obtain⟨g,w⟩:=h c i R H b d rel A y;refine⟨λp f=>?_,λhi=>w<|by rw[hi,wf]⟩;rw[wg,wZ z i]at f;cases k:n[i]?with
 |none=>rw[k]at f;cases f|some q=>rw[k]at f;cases f;refine BL λY=>?_;obtain⟨⟨u,x,I,G⟩,N⟩:=g q k;refine Y ?_;refine⟨⟨u,x,I,G⟩,λy H' t=>?_⟩;refine BL λZ=>?_;obtain⟨v,T,J,j,O,Q⟩:=t;subst O Q;obtain⟨F3,o,s3,_,B⟩:=N v H ⟨rfl,J⟩;obtain⟨D,C⟩:=De (p:=.int (i+z:Int)) o j (by rfl) B;refine Z ?_;exact⟨_,D,s3.trans<|Ù.upd<|o.sub.free j,Ù.upd j,C⟩
def Eg{K:KK}(h:lz K L F (HP K.K a) b):lz K L F (Ite K.K a) (ci 0 b):=uw 0 h
def Mu{g:List Ç}{k:Nat}{t p pos:Pos}{l:M (List PV)}(x:Gl X "enumerate")(u:X.mg "enumerate"=Β)(w:PE X e (tG ∅ E (J8<|kk X cm) l))(n:autoParam (Î [e] X.env=[(Ε,eval e X.env)]) Θ):
 PI X (.Tuple g k t) (.Call (.Name "enumerate" p) [e] [] pos) (tI ∅ E<|J9 l):=λÅ s b H R I h=>IU x u (ŧ w aZ n) n Å s b H R I (by
 obtain⟨c,F,d,rel,h⟩:=h;refine⟨c,F,d,rel,h.bind λps f v G D r s1 s2 q y=>?_⟩;obtain⟨a,B,A,z⟩:=q;subst B;exact⟨a,rfl,A,y _ G D r Č Č<|Eg z⟩)
@[simp]def IX(i:Nat)(mo:M RV)(b:ć):Ĳ Fl:=match b[i]?with
  |some (.ow _)=>(mo b).bind λr a=>match a[i]?,r with
   |some (.ow d),.ow c=>if d.length+c.length<=16777216then .ok .nx (a.set i<|.ow<|d++c)else .bad|_,_=>.bad
  |_=>.bad
def Dg(h:tS ∅ E (IX i mo) D d H):t_ (N8 X.K "list" CL (dR i) (zw (tO ∅ E mo) D5)) D d H:=by
 obtain⟨c,F,g,rel,h⟩:=h;unfold IX at h;cases o:g[i]?with
 |none=>rw[o]at h;exact h.elim|some K=>
  rw[o]at h;cases K with
  |ow L=>
   refine BL λM=>?_;obtain⟨a,J,l,A,z3,z4,z5,z6⟩:=rel.ow o;refine M ?_;refine⟨.ref a,l,.inl ⟨rfl,_,ż.of A⟩,c,F,g,rel,?_⟩;refine ϑ.bind h λr f v Y H1 p s1 q j=>?_;cases n:f[i]?with
   |none=>simp only[n]at j;exact j.elim|some W=>
    rw[n]at j;cases W with
    |ow ps=>
     cases r with
     |ow qs=>
      refine BL λZ=>?_;obtain⟨b,w,R,U,Yi,Q,O,k⟩:=q;subst R;obtain⟨a2,u,t,I,G,C,s,B⟩:=p.ow n;refine Z ?_;rw[l]at t;cases t;dsimp only at j;split at j
      ·rename_i N;refine⟨a,b,u,w,rfl,rfl,I,U,by rw[<-s.length,<-k.length,ġ];exact N,j d Y _ (p.write B l ⟨a,u++w,rfl,ā,G,C,ç.append s k⟩ λx z=>(V.ref.inj z).symm) Č⟩
      ·exact j.elim
     |_=>exact j.elim
    |_=>exact j.elim
  |_=>exact h.elim
@[simp]theorem V6{i:Nat}{a:ć}:IW i a=(match a[i]?with
  |some (.bw b)=>.ok b a|some (.sh<|.lst b)=>.ok b a|some (.ow b)=>.ok b<|a.set i<|.sh<|.lst b|_=>.bad):=rfl
end
def PQ:Y6 X .BitOr (ipI λi j=>pf i j):=by intro Å s a H x y v u Q I e d h;obtain⟨i,j,g,f,q⟩:=h;subst g;subst f;obtain⟨t,rfl⟩:=e;obtain⟨t',rfl⟩:=d;exact ior_int ⟨.int _,H,I.tok _,⟨_,rfl⟩,q⟩
@[simp]def Dk(i:Nat)(m:M PV)(b:ć):Ĳ Fl:=match b[i]?with
  |some (.sh<|.int _)=>(m b).bind λq a=>match a[i]?,q with
   |some (.sh<|.int k),.int j=>.ok .nx<|a.set i<|.sh<|.int<|pf k j|_,_=>.bad
  |_=>.bad
section
variable{X:Cx}{cm:String->À}{E:ă->XK}{e:Ç}{m:M PV}{pos:Pos}
def yB{K:KK}(h:Ē K F (.int i) v):v=.int i:=by unfold Ē at h;exact h
def Gk{i:Nat}{x:Str}{L:Pos}(J:X.N.Nodup)(G:X.N[i]?=Α x)(C:Loc X.env.scope x)(he:PE X e (tV ∅ E m))(I:autoParam (X.fn x=Δ\/X.env.scope.names.lookup x=Α .local) Μ):
 PS X (.AugAssign (.Name x L) .BitOr e pos) (tS ∅ E<|Dk i m):=PS.wk (K9 J G C he PQ I)<|by
 rintro D d H ⟨c,F,b,rel,h⟩;unfold Dk at h;cases l:b[i]?with
 |none=>rw[l]at h;exact h.elim|some y=>
  rw[l]at h;cases y with
  |sh p=>
   cases p with
   |int r=>
    obtain⟨v,s,K⟩:=rel.slot i _ l;cases yB K;refine⟨.int r,Ŀ s,c,F,b,rel,ϑ.bind h λq a u R Q n s1 A f=>?_⟩;cases g:a[i]?with
    |none=>simp only[g]at f;exact f.elim|some O=>
     rw[g]at f;cases O with
     |sh B=>
      cases B with
      |int k=>
       cases q with
       |int j=>obtain⟨v2,o,w⟩:=n.slot i _ g;cases yB w;rw[s]at o;cases o;cases yB A;exact⟨r,j,rfl,rfl,f _ R Q (n.put rfl ⟨_,rfl,Ē.int⟩) Č⟩|_=>exact f.elim
      |_=>exact f.elim
     |_=>exact f.elim
   |_=>exact h.elim
  |_=>exact h.elim
def Mv:Hq X (unaryOp .Invert) (mU λi=>.int<|ai i):=by
 intro Å s a H x v Q I r h;unfold mU at h;split at h
 ·obtain⟨t,rfl⟩:=r;exact invert_int ⟨.int _,H,I.tok _,⟨_,rfl⟩,h⟩
 ·exact h.elim
noncomputable def Do:PV->Option PV
 |.int i=>Α<|.int<|ai i|_=>Β
@[simp]theorem SM{i:Int}:Do (.int i)=Α (.int<|ai i):=rfl
def Mw{K:KK}:U3 K (mU λi=>.int<|ai i) Do:=by
 intro c F H a b p pv v Q rel r e k;unfold Do at e;split at e
 ·cases e;cases r.int;exact k _ F H rel Č Č Ē.int
 ·cases e
end
def V7(K:Ï)(e d:À):It:=
 ⟨λi H=>(∃b x,ż K H e b/\b[i]?=Α x)/\∃a y,ż K H d a/\a[i]?=Α y,
  λi H z f=>∃x y T,(∀b,ż K H e b->b[i]?=Α x)/\(∀a,ż K H d a->a[i]?=Α y)/\H T=Β/\z=.ref T/\f=upd H T (.tup [x,y]),
  λi H=>∃b a,ż K H e b/\ż K H d a/\(b.length<=i\/a.length<=i)⟩
section
variable{X:Cx}{Å:List (À×Obj)}{σ:ă}{H:Hp}{s:Ä}
def Ka(I:Inv X Å σ H s)(f:fq X Å H b)(h:ż X.K H a xs):a≠b:=by
 intro e;subst e;rcases h with r|⟨o,_,_,e,_⟩
 ·rcases r with r|⟨o,r⟩<;>(rw[f.1]at r;cases r)
 ·have d:=I.ok.mod.EU a o e;rcases f.2.2.2.1 with z|z
  ·exact I.ok.zo a o d z
  ·exact absurd (Ţ (ö (I.ok.bs a o d).1) z)<|cG _
def Gm{z TI TO g f l k:À}(I:Inv X Å σ H s)(h:∀b∈[z,TI,TO,g,f],fq X Å H b)(nd:[z,TI,TO,g,f].Nodup)(n:ż X.K H l xs)(m:ż X.K H k ys):ZipApart z TI TO g f l k:=by have a:=λb i=>Ka I (h b i) n;have c:=λb i=>Ka I (h b i) m;constructor<;>first|exact a _ (by simp)|exact c _ (by simp)|simp at nd;grind
end
def Gn{K:Ï}(l1 l2 z TI TO p n:À)(nd:[z,TI,TO,p,n].Nodup):
 Au P w K (.Tuple elts k pos) (V7 K l1 l2) [z,TI,TO,p,n] z (λi h=>IsZip h z TI TO .none/\IsPair h TI (.ref p) (.ref n)/\(∃a b,IsPair h TO a b)/\h.IsListIter p l1 i/\h.IsListIter n l2 i) where
 mem:=by simp
 obj:=λi h A b r=>by
  obtain⟨G,C,⟨x,y,J⟩,⟨o1,e1,_,d1⟩,o2,e2,_,d2⟩:=A;simp only[ù,jM,or_false]at r;rcases r with rfl|rfl|rfl|rfl|rfl
  ·exact⟨_,G,λv z=>by have z':Data.fields _=sW v:=z;cases z'⟩
  ·exact⟨_,C,λv z=>by have z':Data.seq _ _=sW v:=z;cases z'⟩
  ·exact⟨_,J,λv z=>by have z':Data.seq _ _=sW v:=z;cases z'⟩
  ·exact⟨_,e1,λv z=>by rw[d1]at z;cases z⟩
  ·exact⟨_,e2,λv z=>by rw[d2]at z;cases z⟩
 keep:=λi h h' A k=>by obtain⟨G,C,⟨x,y,J⟩,Y,W⟩:=A;exact⟨k z (by simp) _ G,k TI (by simp) _ C,⟨x,y,k TO (by simp) _ J⟩,Y.at λo q=>k p (by simp) o q,W.at λo q=>k n (by simp) o q⟩
 item:=by
  intro X hP hw hK U i Å s d H E I R A hg;subst hP hw hK;refine BL λV=>?_;obtain⟨G,C,⟨a,b,J⟩,Y,W⟩:=A;obtain⟨⟨xs,x,Z,hx⟩,ys,y,EC,hy⟩:=hg;obtain⟨PR,SN,p1,_⟩:=I.list Z;obtain⟨lZ,SO,p2,_⟩:=I.list EC;obtain⟨u1,NW,V8⟩:=SN.get hx;obtain⟨u2,NX,V9⟩:=SO.get hy;refine V ?_;have D:=Gm I R nd Z EC;have kN:∀b∈[z,TI,TO,p,n],b<s.heap.objs.size:=λb r=>by
   obtain⟨o1,e1,_⟩:=Y;obtain⟨o2,e2,_⟩:=W;simp only[ù,jM,or_false]at r;rcases r with rfl|rfl|rfl|rfl|rfl
   ·exact ö G
   ·exact ö C
   ·exact ö J
   ·exact ö e1
   ·exact ö e2
  refine wpAny_pyNext_zip_item D G C J Y W p1.isList p2.isList (x:=u1) (y:=u2) (by simpa using NW) (by simpa using NX) λh' hz' Wa s1 s2 hT lh hk=>?_;refine⟨.ref s.heap.objs.size,rfl,wpAny_letOwnedTupleGo_zip hz' λOu Yy NR=>?_⟩;have Q:iy z h' Ou:=NR;have I2:=ut (fp:=[z,TI,TO,p,n]) (h':=Ou) (t':=s.toks) I V8 V9 ⟨_,(Q.2 _<|da<|kN z<|by simp).trans hT,rfl⟩ (λb o r q=>by have t:∀c∈[z,TI,TO,p,n],b≠c:=λc U e=>r<|e▸U;exact(Q.2 b<|t z<|by simp).trans (hk b o (t z<|by simp) (t TO<|by simp) (t p<|by simp) (t n<|by simp) q)) R kN;refine⟨.ref s.heap.objs.size,_,I2,rfl,⟨x,y,s.heap.objs.size,λzs Yz=>by rw[I.lj Yz Z];exact hx,λzs Yz=>by rw[I.lj Yz EC];exact hy,I.fresh,rfl,rfl⟩,
   ⟨Yy,(Q.2 TI D.TIz).trans (hk TI _ D.TIz D.TITO D.TIi1 D.TIi2 C),⟨_,_,(Q.2 TO D.TOz).trans Wa⟩,s1.at λo q=>(Q.2 p D.i1z).trans q,s2.at λo q=>(Q.2 n D.i2z).trans q⟩,λb r=>?_⟩
  rw[ñ<|Ĕ<|kN b r];exact(R b r).1
 done:=by intro X hP hw hK U i Å s d H E I R A hg;subst hP hw hK;refine BL λL=>?_;obtain⟨G,C,⟨a,b,J⟩,Y,W⟩:=A;obtain⟨xs,ys,Z,EC,Zat⟩:=hg;obtain⟨PR,SN,p1,_⟩:=I.list Z;obtain⟨lZ,SO,p2,_⟩:=I.list EC;refine L ?_;have ED:=SN.length;have HD:=SO.length;refine wpAny_pyNext_zip_end (I.ok.hd U) (Gm I R nd Z EC) G C J Y W p1.isList p2.isList (by simp;lia) λh' hk=>⟨rfl,turns (fp:=[z,TI,TO,p,n]) (t':=s.toks) I (λb o r q=>?_) R⟩;have t:∀c∈[z,TI,TO,p,n],b≠c:=λc U e=>r<|e▸U;exact hk b o (t z<|by simp) (t TO<|by simp) (t p<|by simp) (t n<|by simp) q
 self:=λu u u u u A h=>wpAny_pyIter_zip A.1 h
noncomputable def ux:List PV->List PV->List PV
 |p::b,q::a=>.tup [p,q]::ux b a|_,_=>[]
theorem zW:∀(b a:List PV) (i:Nat) (r:PV),(ux b a)[i]?=Α r->∃p q,b[i]?=Α p/\a[i]?=Α q/\r=.tup [p,q]
 |p::b,q::a,0,r,h=>⟨p,q,rfl,rfl,(Option.some.inj h).symm⟩|p::b,q::a,i+1,r,h=>zW b a i r h
theorem zX:∀(b a:List PV),(ux b a).length=min b.length a.length
 |[],_=>(Nat.zero_min _).symm|_::_,[]=>(Nat.min_zero _).symm|_::b,_::a=>by show(ux b a).length+1=_;rw[zX b a,Ė,Ė];lia
def Go(m1 m2:M (List PV)):M (List PV):=λc=>(m1 c).bind λps a=>(m2 a).bind λqs b=>.ok (ux ps qs) b
def Gp{K:KK}{L F:Hp}{a1 a2:À}{ps qs:List PV}(h1:lz K L F (HP K.K a1) ps)(h2:lz K L F (HP K.K a2) qs):lz K L F (V7 K.K a1 a2) (ux ps qs):=by
 intro c i F2 H a b rel sF sL;refine⟨λr hr=>?_,λhi=>?_⟩
 ·refine BL λY=>?_;obtain⟨p,q,hp,hq,rfl⟩:=zW ps qs i r hr;obtain⟨g1,y1⟩:=(h1 c i F2 H a b rel sF sL).1 p hp;refine Y ?_;refine⟨⟨g1,((h2 c i F2 H a b rel sF sL).1 q hq).1⟩,λz H' zz=>?_⟩;refine BL λZ=>?_;obtain⟨x,y,T,e1,e2,hT,ez,eH⟩:=zz;subst ez eH;obtain⟨F3,g_,s3,_,rp⟩:=y1 x H ⟨rfl,e1⟩;obtain⟨F4,uj,s4,_,rq⟩:=((h2 c i F3 H a b g_ (sF.trans s3) sL).1 q hq).2 y H ⟨rfl,e2⟩;obtain⟨r1,r2⟩:=De uj hT (Ē.same s4 p x rp) rq;refine Z ?_;exact⟨_,r1,(s3.trans s4).trans (Ù.upd<|uj.sub.free hT),Ù.upd hT,r2⟩
 ·rw[zX]at hi;obtain⟨xs,x1,x2⟩:=(h1 c _ F2 H a b rel sF sL).2 rfl;obtain⟨ys,y1,y2⟩:=(h2 c _ F2 H a b rel sF sL).2 rfl;exact⟨xs,ys,x1,y1,by lia⟩
section
variable{X:Cx}{cm:String->À}{E:ă->XK}{e e2:Ç}
def Gq{A:List Ç}{k:Nat}{tp p pos:Pos}{K J:M (List PV)}(hg:Gl X "zip")(hm:X.mg "zip"=Β)(z:PE X e (tG ∅ E (J8<|kk X cm) K))(y:PE X e2 (tG ∅ E (J8<|kk X cm) J))
 (hs:Î [e,e2] X.env=[(Ε,eval e X.env),(Ε,eval e2 X.env)]:=by exact LP rfl rfl)(C:autoParam (Î [e2] X.env=[(Ε,eval e2 X.env)]) Θ):
 PI X (.Tuple A k tp) (.Call (.Name "zip" p) [e,e2] [] pos) (tI ∅ E<|Go K J):=λÅ s a H R I h=>by
 obtain⟨c,F,g,rel,h⟩:=h;have hv:zw (tG ∅ E (J8<|kk X cm) K) (zw (tG ∅ E (J8<|kk X cm) J) D5) a H λvs m=>∃w t,vs=[.ref w,.ref t]/\(∃n,ż X.K m w n)/\(∃n,ż X.K m t n)/\R (V7 X.K w t) m:=by refine⟨c,F,g,rel,ϰ.bind h λps d v F1 m Û s1 s2 q z=>⟨c,F1,d,Û,ϰ.bind z λqs f u F2 H2 G s3 s4 q2 y=>?_⟩⟩;obtain⟨a1,e1,_,e3⟩:=q;obtain⟨a2,f1,f2,f3⟩:=q2;subst e1 f1;obtain⟨n,x1,_⟩:=((e3.mono s3) c _ F2 H2 _ f G Č λb u e=>(G.lent b u e).1).2 rfl;exact⟨a1,a2,rfl,⟨n,x1⟩,f2,y _ F2 H2 G Č Č<|Gp (e3.mono s3) f3⟩
 refine Call_ (iX I hg hm boot_zip<|jP (Ż (ŧ z (ŧ y aZ C) (by rw[hs,C]) pos Å s a H _ I hv) λus s1 zz=>?_) (by rw[hs,C]) (by rw[C];rfl));refine BL λY=>?_;obtain⟨vs,m,B,r1,w,t,rfl,⟨n,KO⟩,⟨ys,EC⟩,q⟩:=zz;obtain⟨u1,u2,rfl,V8,V9⟩:=vals2 r1;cases V8;cases V9;obtain⟨PR,SN,p1,_⟩:=B.list KO;obtain⟨lZ,SO,p2,_⟩:=B.list EC;refine Y ?_;refine call_zip_2 p1.isList p2.isList λh' Z Hl HG z y lh hk=>?_;have I2:=B.kept (t':=s1.toks) hk;refine wpAny_pyIter_zip Z ⟨s1.heap.objs.size+4,[s1.heap.objs.size+4,s1.heap.objs.size+2,s1.heap.objs.size+3,s1.heap.objs.size,s1.heap.objs.size+1],_,_,m,rfl,I2,Gn w t _ _ _ _ _ (by simp),⟨Z,Hl,⟨_,_,HG⟩,z,y⟩,λb hb=>?_,q⟩;have Ax:s1.heap.objs.size<=b:=by simp only[ù,jM,or_false]at hb;rcases hb with rfl|rfl|rfl|rfl|rfl<;>lia
 exact B.rN Ax<|B.hok.fresh Ax
end
def IY(K:Ï)(i:Bool):R2:=λx y H Q=>∃d b a f,Rp K H d x/\y=.ref a/\(ż K H a f\/jH K H a f)/\pI K H b f/\d.canLay0=Δ/\j_ b=Δ/\d.depth<=60/\Q (.bl<|if i then !(b.any λe=>ł e d)else b.any λe=>ł e d) H
open Classical in
noncomputable def AA(h:Ô)(d:aO)(y:Á):Bool:=if ∃e as,Reads h y e as/\e.canLay0=Δ/\ł e d=Δ then Δ else Ε
def Gu(r:Reads h y e as)(j:e.canLay0=Δ):AA h d y=ł e d:=by
 unfold AA;cases q:ł e d with
 |true=>rw[if_pos ⟨e,as,r,j,q⟩]|false=>rw[if_neg];rintro ⟨l,c,k,AF,i⟩;have:=SeqAt.Reads.unique e l y as c j r k;subst this;rw[q]at i;cases i
theorem p_:∀{f:List Á}{c:List aO}{as:List À},ReadsAll h f c as->j_ c=Δ->f.any (AA h d)=c.any λe=>ł e d
 |_,_,_,.nil,_=>rfl|_,_,_,.cons r i,b=>by unfold j_ at b;rw[þ]at b;rw[ii,ii,Gu r b.1,p_ i b.2]
theorem qa(j:Reads s.heap v d bs)(hd:d.canLay0=Δ)(f:A.units+d.depth<ύ):∀{i:List Á}{k:List aO}{as:List À},ReadsAll s.heap i k as->j_ k=Δ->∀u∈i,SeqAt.EqAt A s u v<|AA s.heap d u
 |_,_,_,.nil,_=>λu f=>by cases f
 |_,_,_,.cons r l,c=>λu g=>by
  unfold j_ at c;rw[þ]at c;rcases ù.mp g with rfl|g
  ·rw[Gu r c.1];exact SeqAt.eqAt_reads _ _ A s _ _ _ _ r j c.1 hd (by lia)
  ·exact qa j hd f l c.2 u g
section
variable{X:Cx}
def Mx(hu:X.A.units+64<ύ):aQ X (Ĵ .In) (IY X.K Ε):=by
 intro Å s b H x y v u Q I C B h;refine BL λZ=>?_;obtain⟨d,z,a,n,G,rfl,g,t,p,j,h6,q⟩:=h;cases B;obtain⟨as,o⟩:=Rp.reads I d x v G C;refine Z ?_;have A:X.A.in1.units+d.depth<ύ:=by lia
 rcases g with g|g
 ·obtain⟨c,r,l,E⟩:=I.list g;obtain⟨bs,f⟩:=pI.reads I z n c t r;refine SeqAt.in_listAt (AA s.heap d) l.isList (λw m=>qa o p A f j w<|by simpa using m) ⟨.bl _,H,I,rfl,?_⟩;rw[show c.toArray.any (AA s.heap d)=c.any (AA s.heap d) by simp,p_ f j];exact q
 ·obtain⟨c,r,l,E⟩:=I.tuple g;obtain⟨bs,f⟩:=pI.reads I z n c t r;refine SeqAt.in_tupleAt (AA s.heap d) l (λw m=>qa o p A f j w<|by simpa using m) ⟨.bl _,H,I,rfl,?_⟩;rw[show c.toArray.any (AA s.heap d)=c.any (AA s.heap d) by simp,p_ f j];exact q
def Eh(hu:X.A.units+64<ύ):aQ X (Ĵ .NotIn) (IY X.K Δ):=by
 intro Å s b H x y v u Q I C B h;refine BL λZ=>?_;obtain⟨d,z,a,n,G,rfl,g,t,p,j,h6,q⟩:=h;cases B;obtain⟨as,o⟩:=Rp.reads I d x v G C;refine Z ?_;have A:X.A.in1.units+d.depth<ύ:=by lia
 rcases g with g|g
 ·obtain⟨c,r,l,E⟩:=I.list g;obtain⟨bs,f⟩:=pI.reads I z n c t r;refine SeqAt.notIn_listAt (AA s.heap d) l.isList (λw m=>qa o p A f j w<|by simpa using m) ⟨.bl _,H,I,rfl,?_⟩;rw[show c.toArray.any (AA s.heap d)=c.any (AA s.heap d) by simp,p_ f j];exact q
 ·obtain⟨c,r,l,E⟩:=I.tuple g;obtain⟨bs,f⟩:=pI.reads I z n c t r;refine SeqAt.notIn_tupleAt (AA s.heap d) l (λw m=>qa o p A f j w<|by simpa using m) ⟨.bl _,H,I,rfl,?_⟩;rw[show c.toArray.any (AA s.heap d)=c.any (AA s.heap d) by simp,p_ f j];exact q
end
noncomputable def DN(d:Bool)(p q:PV):Option PV:=match q with
 |.lst b=>if Ų p&&Ϩ b&&decide (oz p<=60)then Α (.bl<|if d then !(b.any λy=>ck y p)else b.any λy=>ck y p)else Β
 |.tup b=>if Ų p&&Ϩ b&&decide (oz p<=60)then Α (.bl<|if d then !(b.any λy=>ck y p)else b.any λy=>ck y p)else Β
 |_=>Β
theorem yC(h:Ų p=Δ):∀{a:List PV},Ϩ a=Δ->(jk a).any (λe=>ł e<|jG p)=a.any λy=>ck y p
 |[],_=>rfl|y::a,b=>by unfold Ϩ at b;rw[þ]at b;unfold jk;rw[ii,ii,yu y p b.1 h,yC h b.2]
set_option tactic.hygienic true in
def Gv{K:KK}:kZ K (IY K.K z) (DN z):=by
 intro c F H b d p q pv v u Q rel n m e k;unfold DN at e;split at e
 ·rename_i h;split at e
  ·rename_i g;rw[þ,þ,decide_eq_true_eq]at g;cases e;obtain⟨a,i,rfl,l,j⟩:=m.lst rel.sub;refine⟨jG p,jk h,a,i,nc rel.sub g.1.1 n,rfl,.inl l,pI.same rel.sub _ _<|m_ h i g.1.2 j,kr p g.1.1,lE h g.1.2,by rw[kt];exact g.2,?_⟩;rw[yC g.1.1 g.1.2];exact k _ F H rel Č Č Ē.bl
  ·cases e
 ·rename_i h;split at e
  ·rename_i g;rw[þ,þ,decide_eq_true_eq]at g;cases e;obtain⟨a,i,rfl,l,j⟩:=m.tup rel.sub;refine⟨jG p,jk h,a,i,nc rel.sub g.1.1 n,rfl,.inr l,pI.same rel.sub _ _<|m_ h i g.1.2 j,kr p g.1.1,lE h g.1.2,by rw[kt];exact g.2,?_⟩;rw[yC g.1.1 g.1.2];exact k _ F H rel Č Č Ē.bl
  ·cases e
 ·cases e
def yD(h1: -(2^n:Int)<x)(h2:x<2^n):bits x<=n:=by
 refine intBits_le_iff.mpr ?_
 lia
def PU(h:y≠0)(h1: -18446744073709551616<y)(h2:y<18446744073709551616):pU x y=Δ:=F8 h (ţ (yD (n:=64) (by lia)<|by lia)<|by decide)
@[simp]theorem SQ{x:Int}{n:Nat}(h:n≠0)(h2:n<18446744073709551616):pU x (no_index (ϋ n):Int)=Δ:=by have e:(no_index (ϋ n):Int)=(n:Int):=rfl;rw[e];exact PU (by lia) (by lia) (by lia)
@[simp]theorem PZ{x:Int}{n:Nat}(h:n<18446744073709551616):Ŷ x (no_index (ϋ n):Int)=Δ:=by have e:(no_index (ϋ n):Int)=(n:Int):=rfl;rw[e];exact KL (by lia) (by lia)
@[simp]theorem P_{x:Int}{n:Nat}(h:n<18446744073709551616):Ŷ (no_index (ϋ n):Int) x=Δ:=by have e:(no_index (ϋ n):Int)=(n:Int):=rfl;rw[e];exact cy (by lia) (by lia)
@[simp]theorem SR{m n:Nat}(h:m<18446744073709551616)(h2:n≤1000000):zK (no_index (ϋ m):Int) (no_index (ϋ n):Int)=Δ:=by have e:(no_index (ϋ m):Int)=(m:Int):=rfl;have b:(no_index (ϋ n):Int)=(n:Int):=rfl;rw[e,b];unfold zK;simp;lia
@[simp]theorem P0{x:Int}{n:Nat}:x.fdiv (no_index (ϋ n):Int)=x/(no_index (ϋ n):Int):=oG x<|wL n
@[simp]theorem P1{x:Int}{n:Nat}:x.fmod (no_index (ϋ n):Int)=x%(no_index (ϋ n):Int):=r_ x<|wL n
def l_(h:xs.length+ys.length<=16777216):é (.lst xs) (.lst ys)=Α (.ow<|xs++ys):=by unfold é;simp[h]
def Mz:ck (.tup [.int x,.int y]) (.tup [.int z,.int w])=(decide (x=z)&&decide (y=w)):=by
 show(ck (.int x) (.int z)&&(ck (.int y) (.int w)&&hV [] []))=_;have f:ck (.int x) (.int z)=decide (x=z):=by rfl
 have e:ck (.int y) (.int w)=decide (y=w):=by rfl
 have d:hV [] []=Δ:=by rw[hV.eq_def]
 rw[f,e,d,Bool.and_true]
mutual
theorem lG:∀p:PV,Ų p=Δ->ck p p=Δ
 |.non,_=>by unfold ck;rfl|.bl b,_=>by unfold ck;simp|.int i,_=>by unfold ck;simp|.str x,_=>by unfold ck;simp|.lst xs,h=>by unfold Ų at h;unfold ck;exact qO xs h|.tup xs,h=>by unfold Ų at h;unfold ck;exact qO xs h|.ins _ _ _,h=>by simp[Ų]at h|.xc _ _ _,h=>by simp[Ų]at h|.ty _,h=>by simp[Ų]at h|.cls _,h=>by simp[Ų]at h|.FE _ _,h=>by simp[Ų]at h
theorem qO:∀ps:List PV,Ϩ ps=Δ->hV ps ps=Δ
 |[],_=>by unfold hV;rfl|p::ps,h=>by unfold Ϩ at h;rw[þ]at h;unfold hV;rw[lG p h.1,qO ps h.2];rfl
end
def Ei(h:Ų p=Δ)(hd:oz p<=60):ķ p p=Α (.bl Δ):=by unfold ķ nu;rw[h,lG p h,decide_eq_true (by lia:min (oz p) (oz p)<=60)];rfl
def Ej(h:Ų p=Δ)(hd:oz p<=60):ϕ p p=Α (.bl Ε):=by unfold ϕ nu;rw[h,lG p h,decide_eq_true (by lia:min (oz p) (oz p)<=60)];rfl
def ŗ(e:ė a=Δ)(d:ė b=Δ):ķ (.str a) (.str b)=Α (.bl<|decide<|a=b):=by
 have h:ck (.str a) (.str b)=decide (a=b):=by rfl
 unfold ķ nu;rw[show Ų (.str a)=Δ by exact e,show Ų (.str b)=Δ by exact d,h];rfl
def zY(e:ė a=Δ)(d:ė b=Δ):ϕ (.str a) (.str b)=Α (.bl<|!decide (a=b)):=by
 have h:ck (.str a) (.str b)=decide (a=b):=by rfl
 unfold ϕ nu;rw[show Ų (.str a)=Δ by exact e,show Ų (.str b)=Δ by exact d,h];rfl
section
variable{g:Tg}{mb:M Fl}{mt:M Bool}{me:M PV}
theorem bR{α β:Type}(c:α->PV)(step:β->α->β)(J:β->ć->Prop):∀(xs:List α),(∀x∈xs,∀b a,J b a->∃i d,g (c x) a=Α i/\mb i=.ok .nx d/\J (step b x) d)->∀b a,J b a->∃f,Ŭ g mb (xs.map c) a=.ok .nx f/\J (xs.foldl step b) f
 |[],_,b,a,h=>⟨a,rfl,h⟩|x::xs,hs,b,a,h=>by obtain⟨i,d,h1,h2,h3⟩:=hs x (by simp) b a h;obtain⟨f,e,h4⟩:=bR c step J xs (λy hy=>hs y<|ð _ hy) (step b x) d h3;refine⟨f,?_,h4⟩;show(match g (c x) a with|none=>Ĳ.bad|some d=>(mb d).bind _)=_;rw[h1];show(mb i).bind _=_;rw[h2];exact e
theorem bS{m:Type}(c f:m->PV)(q:m->Bool)(I:ć->Prop):∀(xs:List m) (d:ć) (acc:List PV),I d->acc.length+xs.length<=16777216->
 (∀x∈xs,∀d,I d->∃i a,g (c x) d=Α i/\mt i=.ok (q x) a/\(q x=Ε->I a)/\(q x=Δ->∃b,me a=.ok (f x) b/\I b))->ĝ g mt me (xs.map c) d acc=Α (acc++(xs.filter q).map f)
 |[],d,acc,_,_,_=>by simp[ĝ]|x::xs,d,acc,h,n,p=>by
  refine BL λZ=>?_;obtain⟨i,a,r,k,w,v⟩:=p x ŀ d h;refine Z ?_;cases e:q x with
  |true=>obtain⟨b,u,t⟩:=v e;rw[e]at k;rw[â,ĝ,r];dsimp only;rw[k];dsimp only;rw[u];dsimp only;rw[if_pos (by simp at n;lia),bS c f q I xs b (acc++[f x]) t (by simp at n⊢;lia) λy o=>p y<|ð _ o];simp[e]
  |false=>rw[e]at k;rw[â,ĝ,r];dsimp only;rw[k];dsimp only;rw[bS c f q I xs a acc (w e) (by simp at n⊢;lia) λy o=>p y<|ð _ o];simp[e]
end
def Wb(K:Ï)(n:Nat)(t:E0):TG:=λv b H Q=>∃a c,v=.ref a/\ż K H a c/\c.length=n/\t c b H Q
section
variable{X:Cx}{cm:String->À}{pos:Pos}
def MA{d:List Ç}{k:Nat}{t:E0}{n:Nat}(C:X.calm=Δ)(h:Ay X d t)
 (A:autoParam ((ϫ d X.env).length=n) Η)(fJ:autoParam ((ϫ d X.env).findIdx? (·.1)=Β) Η):PG X (.Tuple d k pos) (Wb X.K n t):=by
 intro q s c H v u Q I r g;refine BL λZ=>?_;obtain⟨a,w,D,z,B,g⟩:=g;subst D;cases r;obtain⟨p,l,y,hz⟩:=I.list z;refine Z ?_;refine à<|mK ?_;unfold unpack;rw[show(ϫ d X.env).length=p.toArray.size by simp[A,<-B,l.length],fJ];refine à<|iw<|PySem.W.kun_itemsOf (I.ok.hd C) y.isList λh' x=>?_;have E:=I.kept (t':=s.toks) λb o e=>x b o (Ĕ<|ö e) e;exact h q _ c H w _ Q E (by simpa using l) g
noncomputable def gS(n:Nat)(c:EM):Tg:=λp b=>match p with
 |.tup a=>if a.length=n then c a b else Β|.lst a=>if a.length=n then c a b else Β|_=>Β
@[simp]theorem Wc{n:Nat}{c:EM}{b:List PV}{a:ć}:gS n c (.tup b) a=if b.length=n then c b a else Β:=rfl
@[simp]theorem We{n:Nat}{c:EM}{b:List PV}{a:ć}:gS n c (.lst b) a=if b.length=n then c b a else Β:=rfl
def Kb{g:List Ç}{k:Nat}{y:EM}{n:Nat}(x:X.calm=Δ)(h:Ay X g (Pd ∅ y))(w:autoParam ((ϫ g X.env).length=n) Η)(fJ:autoParam ((ϫ g X.env).findIdx? (·.1)=Β) Η):PG X (.Tuple g k pos) (tT ∅<|gS n y):=by
 intro q s b H v u Q I r e;refine BL λZ=>?_;obtain⟨c,F,d,p,rel,t,e⟩:=e;refine Z ?_;cases p with
 |tup j=>
  obtain⟨a,i,o,m,f⟩:=t;unfold gS at e;dsimp only at e;split at e
  ·rename_i l;exact xX x h w fJ q s b H v u Q I r ⟨a,i,o,Ù.tup rel.sub m,by rw[<-f.length];exact l,c,F,d,j,rel,f,e⟩
  ·exact e.elim
 |lst j=>
  obtain⟨a,i,o,m,f⟩:=t;unfold gS at e;dsimp only at e;split at e
  ·rename_i l;exact MA x h w fJ q s b H v u Q I r ⟨a,i,o,rel.sub.seq m,by rw[<-f.length];exact l,c,F,d,j,rel,f,e⟩
  ·exact e.elim
 |_=>exact e.elim
end
def Ĳ.Ek{d c h:Type}(r:Ĳ d)(f:d->ć->Ĳ c)(g:c->ć->Ĳ h):(r.bind f).bind g=r.bind λa b=>(f a b).bind g:=by cases r<;>rfl
def ē.keep{K:KK}(r:ē K c F H a b)(e:Ù H f):ē K c F f a b:=r.call ⟨e,Ù.refl F,r.sub.trans e,λx x h=>h⟩
def ē.MB{K:KK}(r:ē K c F H d b)(e:b[i]?=Α (.ot k g j)):∃t,Ù F t/\ē K c t H d (b.set i<|.sh<|.tup (k++.lst g::j)):=by
 refine BL λZ=>?_;obtain⟨p,a,m,h,l,s,o,n,B,f,A,z,y⟩:=r.slot i _ e;obtain⟨x,w⟩:=r.move ⟨_,_,e,Ŀ s,p,m,l,rfl,o,n.length.symm⟩;refine Z ?_;have v:Ē K (upd F a<|.lst h) (.lst g) (.ref a):=by exact⟨a,h,rfl,ż.of ā,z.same (Ù.upd f) g h⟩
 have u:Ē K (upd F a<|.lst h) (.tup (k++.lst g::j)) (.ref p):=by exact⟨p,_,rfl,jH.of<|Ù.upd f _ _ o,ç.append (n.same (Ù.upd f) k m)<|ç.cons v<|y.same (Ù.upd f) j l⟩
 have q:=(x.freeze B A f w).FJ rfl (show Ū K c _ H _ (.sh<|.tup (k++.lst g::j))from⟨.ref p,by rw[Ŀ s];rfl,u⟩);rw[List.set_set]at q;exact⟨_,Ù.upd f,q⟩
noncomputable def Dp(i:Nat)(m:M Bool):M Bool:=λρ=>match ρ[i]?with
 |some (.ot g f e)=>match m (ρ.set i<|.sh<|.tup (g++.lst f::e))with
  |.ok b _=>.ok b ρ|_=>.bad
 |_=>m ρ
section
variable{X:Cx}{cm:String->À}{E:ă->XK}{e o:Ç}{es:List Ç}{pos:Pos}{m:M Bool}{mo:M RV}{ma:M PV}
def MC(i:Nat)(h:PT X e (tB ∅ E m)):PT X e (tB ∅ E<|Dp i m):=PT.wk h<|by
 rintro f H Q ⟨c,F,a,rel,h⟩;unfold Dp at h;cases j:a[i]?with
 |none=>rw[j]at h;exact⟨c,F,a,rel,h⟩|some s=>
  rw[j]at h;cases s with
  |ot r p n=>
   obtain⟨y,sF,l⟩:=rel.MB j;refine⟨c,y,_,l,?_⟩;dsimp only at h;cases g:m (a.set i<|.sh<|.tup (r++.lst p::n))with
   |ok b d=>rw[g]at h;exact λv F2 w r1 s1 s2 q=>h v F w (rel.keep s2) Č s2 q
   |exc x d=>rw[g]at h;exact h.elim|bad=>rw[g]at h;exact h.elim
  |_=>exact⟨c,F,a,rel,h⟩
structure MD where
 ps:List PV
 r:RV
 rs:List PV
def SS(K:KK):RR MD (List V):=λc a b F H r h=>∃f v d,h=f++v::d/\ç K F r.ps f/\rO K c a b F H r.r v/\ç K F r.rs d
@[simp]def Kd(mo:M RV)(b:ć):Ĳ MD:=(mo b).bind λr a=>.ok ⟨[],r,[]⟩ a
@[simp]def Bn(ma:M PV)(g:M MD)(c:ć):Ĳ MD:=(ma c).bind λp a=>(g a).bind λr b=>.ok ⟨p::r.ps,r.r,r.rs⟩ b
def ME(he:PE X e (tO ∅ E mo))(hs:autoParam (Î [e] X.env=(Ε,eval e X.env)::Î [] X.env) Θ):PA X [e] (tG ∅ E (SS<|kk X cm)<|Kd mo):=
 PA.wk (ŧ he aZ hs)<|by rintro d H Q ⟨c,F,a,rel,h⟩;exact ⟨c,F,a,rel,h.bind λr b v F1 H1 Û x x r1 h1=>h1 _ F1 H1 Û Č Č ⟨[],v,[],rfl,ç.nil,r1,ç.nil⟩⟩
def Dr{f:M MD}(y:PE X e (tV ∅ E ma))(x:PA X es (tG ∅ E (SS<|kk X cm) f))(w:autoParam (Î (e::es) X.env=(Ε,eval e X.env)::Î es X.env) Θ):PA X (e::es) (tG ∅ E (SS<|kk X cm)<|Bn ma f):=
 PA.wk (ŧ y x w)<|by rintro f H Q ⟨c,F,b,rel,h⟩;exact ⟨c,F,b,rel,h.bind λp a v K H1 n g g t A=>⟨c,K,a,n,A.bind<|by rintro r d vs J I l s sH ⟨r,u,q,G,D,C,B⟩ z;exact z _ J I l Č Č ⟨v::r,u,q,by rw[G];rfl,ç.cons (Ē.same s p v t) D,C,B⟩⟩⟩
@[simp]def Ke(d:M MD)(b:ć):Ĳ RV:=(d b).bind fun r a=>if r.ps.length+r.rs.length<16777216then(match r.r with
  |.ow c=>.ok (.ot r.ps c r.rs) a|.sh p=>.ok (.sh<|.tup (r.ps++p::r.rs)) a|_=>.bad)else .bad
def MG{x1}(h:PA X es (tG ∅ E (SS<|kk X cm) U)):PE X (.Tuple es x1 pos) (tO ∅ E<|Ke U):=PE.wk (Fb h) λf H Q ⟨c,F,b,rel,h⟩=>
 ⟨c,F,b,rel,h.bind fun r d n C H1 l _ _ ⟨j,v,i,W,u,B,t⟩ g=>by
   subst W;split at g
   ·rename_i hz;refine⟨by rw[ŭ,<-u.length,ġ];simp only[Ė,<-t.length];omega,λp k=>?_⟩;have w:=l.alloc (o:=.tup (j++v::i)) k;have f:Ù C (upd C p<|.tup (j++v::i)):=Ù.upd<|l.sub.free k;obtain⟨y,J,x⟩:=r;cases J with
    |sh q=>refine g _ _ _ w f (Ù.upd k) ?_;exact⟨p,_,rfl,jH.of ā,ç.append (u.same f y j)<|ç.cons (Ē.same f q v B)<|t.same f x i⟩|ow K=>
     obtain⟨a,n,rfl,s,R,O,N,L⟩:=B;have A:a≠p:=λz=>by rw[z,k]at s;cases s
     exact g _ _ _ w f (Ù.upd k) ⟨p,a,j,n,i,rfl,ā,u.same f y j,by rw[ñ A];exact s,by rw[ñ A];exact R,O,l.lw f N,L.same f K n,t.same f x i⟩
    |ot _ _ _=>exact g.elim|bn _ _ _ _=>exact g.elim
   ·exact g.elim⟩
@[simp]theorem Wf{c b a:List PV}:(RV.ot c b a).val=.tup (c++.lst b::a):=rfl
@[simp]theorem Wg{c b a:List PV}:(RV.ot c b a).slot=.ot c b a:=rfl
@[simp]theorem SU{i:Nat}{a:ć}:Dp i m a=(match a[i]?with
  |some (.ot f d c)=>match m (a.set i<|.sh<|.tup (f++.lst d::c))with
   |.ok b _=>.ok b a|_=>.bad
  |_=>m a):=rfl
end
section
variable{K:KK}{c c':Ctx}{F H:Hp}
def Ū.ctx(h:Ū K c F H x s)(B:∀a u,c.L a=Α u->c'.L a=Α u)(I:∀a d C,c.S a d C->c'.S a d C)(o:∀b y,x=Α y->s.at_ F y b->c.B b=Β->c'.B b=Β)(J:∀b u,F b=Α u->c.B b=Β->c'.B b=Β):Ū K c' F H x s:=by
 cases s with
 |no=>trivial|sh p=>exact h|bw l=>obtain⟨b,i,e,f,g⟩:=h;exact⟨b,i,e,B _ _ f,g⟩|ow l=>obtain⟨b,i,e,f,g,j,k⟩:=h;exact⟨b,i,e,f,g,o _ _ e rfl j,k⟩|lr C N l=>obtain⟨b,w,fs,e,f,g⟩:=h;exact⟨b,w,fs,e,B _ _ f,g⟩|rc C N l=>obtain⟨b,w,fs,e,f,g,j,k,m,t⟩:=h;exact⟨b,w,fs,e,f,g,o _ _ e rfl j,k,m,I _ _ _ t⟩|ot l R rs=>obtain⟨p,b,A,i,z,e,f,g,j,k,m,t⟩:=h;exact⟨p,b,A,i,z,e,f,g,j,k,o _ _ e ⟨p,A,z,rfl,f,g.length.symm⟩ m,t⟩|ol W=>obtain⟨p,D,e,f,g,j⟩:=h;exact⟨p,D,e,f,g,iG j<|by rintro b l X ⟨i,n,r,q,G⟩;exact ⟨i,n,r,o _ _ e ⟨p,D,rfl,f,X⟩ q,G⟩⟩
 |rd C N l=>obtain⟨b,w,fs,e,f,g,j,k,m,t⟩:=h;exact⟨b,w,fs,e,f,g,o _ _ e rfl j,k,m,I _ _ _ t⟩|pin=>obtain⟨b,e,f⟩:=h;exact⟨b,e,I _ _ _ f⟩|fr W=>obtain⟨p,D,e,f,g,j,k,m⟩:=h;exact⟨p,D,e,f,g,o _ _ e rfl j,k,iG m<|by rintro b l _ ⟨i,n,r,q⟩;exact ⟨i,n,J _ _ n r,q⟩⟩
 |dw gY=>obtain⟨a,Q,e,f,g⟩:=h;exact⟨a,Q,e,B _ _ f,iG g<|by rintro t d _ ⟨A,b,i,n,r,q,G⟩;exact ⟨A,b,i,n,r,B _ _ q,G⟩⟩
 |bn R L=>refine BL λZ=>?_;obtain⟨v,Y,a,b,z,i,e,f,g,j,k⟩:=h;refine Z ?_;exact⟨v,Y,a,b,z,i,e,f,J _ _ e g,J _ _ f j,k⟩
end
open M5
def vC(js:List Nat)(a:ć)(p:PV):ć:=js.map (λ(j:Nat)=>dW<|(a[j]?).getD .no)++[.sh p]
noncomputable def Bo(js:List Nat)(me:M PV)(ρ:ć):List PV->Option (List Int)
 |[]=>Α []|p::a=>match me (vC js ρ p)with
  |.ok (.int k) _=>(Bo js me ρ a).map (k::·)|_=>Β
noncomputable def kx(p:PV)(k:Int):List PV->List Int->PV
 |q::a,m::b=>if m<k then kx q m a b else kx p k a b|_,_=>p
def yE:List PV->List Int->Option PV
 |p::a,k::b=>Α<|kx p k a b|_,_=>Β
set_option tactic.hygienic true in
theorem wj:∀{items:List PV}{c:List Int},Bo js me b items=Α c->c.length=items.length/\∀(k:Nat) (p:PV),items[k]?=Α p->∃a,me (vC js b p)=.ok (.int<|c.getD k 0) a
 |[],c,h=>by cases(show Α []=Α c from h);exact⟨rfl,λk p z=>by simp at z⟩
 |q::r,c,h=>by
  have d:(match me (vC js b q)with
   |.ok (.int k) _=>(Bo js me b r).map (k::·)|_=>Β)=Α c:=h
  split at d
  ·rename_i k a e;cases i:Bo js me b r with
   |none=>rw[i]at d;cases d|some f=>
    rw[i]at d;cases(show Α (k::f)=Α c from d);obtain⟨t,s⟩:=wj i;refine⟨by simp[t],λn p g=>?_⟩;cases n with
    |zero=>simp at g;subst g;exact⟨a,e⟩|succ n=>simpa using s n p g
  ·cases d
theorem iL:∀{o:List PV}{d:List Int}{p:PV}{k:Int}{i:Nat}{x:PV},d.length=o.length->(p::o)[i]?=Α x->(∀j,j<(p::o).length->(k::d).getD i 0<=(k::d).getD j 0/\(j<i->(k::d).getD i 0<(k::d).getD j 0))->kx p k o d=x
 |[],[],p,k,i,x,_,e,_=>by
   cases i with
   |zero=>exact Option.some.inj e|succ i=>simp at e
 |[],_::_,_,_,_,_,h,_,_=>by simp at h|_::_,[],_,_,_,_,h,_,_=>by simp at h|q::o,m::d,p,k,i,x,A,e,f=>by
  have v:=by simpa using A
  show ite (m<k) _ _=x;by_cases w:m<k
  ·rw[if_pos w];cases i with
   |zero=>have:=(f 1<|by simp).1;simp at this;lia|succ i=>refine iL v (by simpa using e) λj r=>?_;have:=f (j+1) (by simpa using r);refine⟨by simpa using this.1,λhji=>by simpa using this.2 (by lia)⟩
  ·rw[if_neg w];cases i with
   |zero=>
    refine iL (i:=0) v (by simpa using e) λj r=>?_;cases j with
    |zero=>exact⟨oH _,λz=>absurd z<|cG _⟩
    |succ j=>have:=f (j+1+1) (by simpa using r);exact⟨by simpa using this.1,λz=>absurd z<|by lia⟩
   |succ i=>
    cases i with
    |zero=>have:=(f 0<|by simp).2 (by lia);simp at this;lia|succ i=>
     refine iL (i:=i+1) v (by simpa using e) λj r=>?_;cases j with
     |zero=>have:=f 0 (by simp);exact⟨by simpa using this.1,λy=>by simpa using this.2 (by lia)⟩
     |succ j=>have:=f (j+1+1) (by simpa using r);exact⟨by simpa using this.1,λz=>by simpa using this.2 (by lia)⟩
def yF(d:a.length=items.length)(h:yE items a=Α b)(c:items[i]?=Α x)(e:∀j,j<items.length->a.getD i 0<=a.getD j 0/\(j<i->a.getD i 0<a.getD j 0)):b=x:=by
 cases items with
 |nil=>simp at c|cons p ps=>
  cases a with
  |nil=>simp at d|cons k a=>have f:=Ň h;rw[<-f];exact iL (by simpa using d) c e
section
variable{K:KK}{c:Ctx}{F H:Hp}{σ:ă}{ρ:ć}
theorem Gr.refl(s:Ù F H):Gr F H F H:=⟨Ù.refl _,Ù.refl _,s,λx x z=>z⟩
theorem Gr.trans(a:Gr F H i g)(b:Gr i g F2 H2):Gr F H F2 H2:=
 ⟨a.h.trans b.h,a.f.trans b.f,b.sub,fun x d e=>b.out x (fun z=>by
   cases q:H x with
   |none=>exact d q|some u=>rw[a.h x u q]at z;cases z)<|a.out x d e⟩
set_option tactic.hygienic true in
def ē.lam(js:List Nat)(rel:ē K c F H σ ρ)(Z:Ē K F p v):ē K (cu F H) F H (jf js σ v) (vC js ρ p) where
 sub:=rel.sub
 base:=Ù.refl _
 f0:=Ù.refl _
 ge:=λf f z=>z
 lent:=λa u e=>Ϣ e
 lb:=fun a e=>by
   cases q:(cu F H).L a with
   |none=>rfl|some u=>have g:H a=Β:=e;rw[(Ϣ q).1]at g;cases g
 len:=by simp[jf,vC]
 slot:=λi s e=>by
  unfold vC at e;by_cases x:i<js.length
  ·rw[Ϫ (by simpa using x),œ]at e;cases o:js[i]?with
   |none=>rw[o]at e;cases e|some j=>
    rw[o]at e;have g:dW ((ρ[j]?).getD .no)=s:=Ň e;subst g;have G:((jf js σ v)[i]?).getD Β=(σ[j]?).getD Β:=by unfold jf;rw[Ϫ (by simpa using x),œ,o];rfl
    rw[G];cases A:ρ[j]?with
    |none=>trivial|some w=>
     have q:=rel.slot j w A;cases w with
     |no=>trivial|sh p=>exact q|ow m=>obtain⟨a,D,b,d,h,O,r⟩:=q;refine⟨a,D,b,?_,r⟩;show(match F a with|none=>H a|some _=>Β)=_;rw[h];exact d
     |bw m=>obtain⟨a,D,b,d,h⟩:=q;obtain⟨E,l⟩:=rel.lent a _ d;refine⟨a,D,b,?_,h⟩;show(match F a with|none=>H a|some _=>Β)=_;rw[l];exact E
     |lr C k m=>obtain⟨a,t,fs,b,d,h⟩:=q;obtain⟨E,l⟩:=rel.lent a _ d;refine⟨a,t,fs,b,?_,h⟩;show(match F a with|none=>H a|some _=>Β)=_;rw[l];exact E
     |rc C k m=>
      cases k with
      |nil=>trivial|cons n k=>obtain⟨a,t,fs,b,d,h,O,r,I⟩:=q;refine⟨a,t,fs,b,?_,r,I.1,nofun⟩;show(match F a with|none=>H a|some _=>Β)=_;rw[h];exact d
     |ot m W rs=>trivial|ol Y=>trivial|fr Y=>trivial|rd C k m=>
      cases k with
      |nil=>trivial|cons n k=>obtain⟨a,t,fs,b,d,h,O,r,I⟩:=q;refine⟨a,t,fs,b,?_,r,I.1,nofun⟩;show(match F a with|none=>H a|some _=>Β)=_;rw[h];exact d
     |pin=>trivial|bn W L=>trivial|dw gY=>trivial
  ·have J:i=js.length:=by
    have l:=(bz.mp e).1;simp at l;lia
   subst J;have g:Slot.sh p=s:=by simpa using e
   subst g;have G:((jf js σ v)[js.length]?).getD Β=Α v:=by unfold jf;simp
   rw[G];exact⟨v,rfl,Z⟩
 sep:=λi j a b f=>by
  obtain⟨s,y,b,_,d⟩:=b;unfold vC at b;by_cases x:i<js.length
  ·rw[Ϫ (by simpa using x),œ]at b;cases o:js[i]?with
   |none=>rw[o]at b;cases b|some j=>
    rw[o]at b;have g:dW ((ρ[j]?).getD .no)=s:=Ň b;subst g;cases A:ρ[j]?with
    |none=>rw[A]at d;cases d|some w=>rw[A]at d;cases w<;>first|cases d|(rename_i C k m;cases k<;>cases d)
  ·have J:i=js.length:=by
    have l:=(bz.mp b).1;simp at l;lia
   subst J;have g:Slot.sh p=s:=by simpa using b
   subst g;cases d
end
noncomputable def Gw(K:Ï)(x:Str)(f:À):Bool:=aP K đ x==Α (Α<|.ref f)&&(Ů K x).isSome
section
variable{P:ï}{w:ã}{K:Ï}{cm:String->À}{mg:Str->Option Á}{base:Ô}{CX:gX}
set_option tactic.hygienic true in
def IZ{st:æ}(F:CN K x qual st f i)(h:aP K đ x=Α (Α<|.ref f))(a:Ů K x=Α (c,Pt)):i.code=.ref c:=by
 obtain⟨oc,od,kV,j,pm,an,k,ct,AG,rfl,e,vf⟩:=F.ex;unfold Ů at a;split at a
 ·rename_i f2 b;rw[h]at b;cases b;split at a
  ·rename_i d;rw[e]at d;cases d;split at a
   ·rename_i c2 g;split at a
    ·split at a
     ·cases a;exact g
     ·cases a
    ·cases a
   ·cases a
  ·cases a
 ·cases a
def Wh{st:æ}(F:CN K x qual st f fd)(S:ı N G (è st))(hn:G.length=n)(hj:N.length=j)(hf:mf=Ď n j mb)(D:Gw K x f=Δ)
 (dO:∀(c Pt:À),Ů K x=Α (c,Pt)→∀(A:ì) (h:List Env) (s:Ä) (H:Hp) (E:XK),Ń k (A.deeper<|ň qual (è st) s.heap.objs.size f<|.ref c)→
   b_ (kj CX P w K mg base N qual (è st) f (.ref c) A h s H E) (Ō st) (tS ⟨K,cm⟩ (λz=>E) mb)):Ϲ P w K mg base CX (k+1) f fd G (rj ⟨K,cm⟩ n mf):=by
 subst hn hj hf;unfold Gw at D;simp only[þ,beq_iff_eq]at D;refine BL λV=>?_;obtain⟨u,o⟩:=D;obtain⟨⟨c,Pt⟩,ht⟩:=oU.mp o;have hc:=IZ F u ht;obtain⟨oc,od,kV,doc,pm,an,cdv,ct,AG,rfl,lk,vf⟩:=id F.ex;refine V ?_;have AF:=hc;subst AF;refine zy lk vf S (by rintro vs H Q E ⟨F,J,u,_,o,_⟩;rw[<-Paired.length o];exact u) λA h s H vs Q E hr vB=>?_;refine BL λB=>?_;obtain⟨F,J,u,o,h3,i⟩:=vB;refine B ?_;refine⟨_,dO c Pt ht A h s H E hr,cu F H,F,Ğ N.length J,ē.start o h3,?_⟩;unfold Ď at i;rw[if_pos u]at i;cases e:mb (Ğ N.length J)with
 |bad=>rw[e]at i;exact i|exc x g=>rw[e]at i;exact λb C d m y rel s1 q=>i C d m y rel.gr q
 |ok fl g=>
  rw[e]at i;cases fl with
  |nx=>exact λb m y rel s1=>i .non m y rel.gr<|Ē.non (K:=⟨K,cm⟩) (F:=m)
  |bk=>exact i.elim|ct=>exact i.elim|rt r=>
   intro v b m y rel s1 q;refine i v m y rel.gr ?_;cases r with
   |sh p=>exact q|ow Z=>obtain⟨a,I,W,U,R,O,_,L⟩:=q;exact⟨a,I,W,U,R,O,L⟩|ot Z ts rs=>obtain⟨p,a,xs,I,ys,W,e0,ex,U,R,O,_,L⟩:=q;exact⟨p,a,xs,I,ys,W,e0,ex,U,R,O,L⟩|bn t G Z Y=>exact q
end
def BN:Nat->(List Á->Prop)->Prop
 |0,p=>p []|n+1,p=>∀u,BN n λus=>p (u::us)
theorem yG:∀{n:Nat}{p:List Á->Prop},BN n p->∀a,a.length=n->p a
 |0,p,h,[],_=>h|0,p,h,_::_,e=>by cases e|n+1,p,h,[],e=>by cases e|n+1,p,h,u::a,e=>yG (h u) a<|Nat.succ.inj e
structure Df(K:Ï)(mg:Str->Option Á)(x:Str)(st:æ)(ps:List Str)(f:À)(fd:ą):Prop where
 F:CN K x x st f fd
 m:mg x=Α (.ref f)
 b:Binds K fd ps []
 bb:∀(s:Ä) (us:List Á),us.length=ps.length->fV s fd ⟨us,[]⟩ (ps.zip us)
structure Dm(K:Ï)(C:À)(x q:Str)(st:æ)(ps:List Str)(f:À)(fd:ą):Prop where
 F:CN K x q st f fd
 b:Binds K fd ps []
section
variable{K:Ï}{h:Ô}{mg:Str->Option Á}{x q:Str}{st:æ}{ps:List Str}{f C:À}{oc kV dc pm cd ct:Á}{od an:Option À}{sl:Array (Option Á)}
def Kf(X:K.In h)(G:h.Ns đ mg)(j:∀(kV dc pm:Á) (an:Option À) (cd ct:Á),BN ps.length λus=>im (ϯ x x (bK st) (Ō st) (è st) .none kV dc pm an cd ct) ⟨us,[]⟩=pure (ps.zip us))
 (a:aP K đ x=Α (Α<|.ref f))(l:K.lookup f=Α ⟨oc,od,.func<|ϯ x x (bK st) (Ō st) (è st) .none kV dc pm an cd ct,sl⟩)(c:kb K cd x=Δ)(k:bJ K (.ref f)=Δ):
 Df K mg x st ps f (ϯ x x (bK st) (Ō st) (è st) .none kV dc pm an cd ct):=
 have F:=Fh l c k
 ⟨F,pA X G a,F.binds λkV dc pm an cd ct us d=>yG (j kV dc pm an cd ct) us d,λs us d=>.of_eq<|yG (j kV dc pm an cd ct) us d⟩
def P2(j:∀(kV dc pm:Á) (an:Option À) (cd ct:Á),BN ps.length λus=>im (ϯ x q (bK st) (Ō st) (è st) .none kV dc pm an cd ct) ⟨us,[]⟩=pure (ps.zip us))
 (a:Ϗ K (.ref C) x=Α (Α<|.ref f))(l:K.lookup f=Α ⟨oc,od,.func<|ϯ x q (bK st) (Ō st) (è st) .none kV dc pm an cd ct,sl⟩)(c:kb K cd q=Δ)(k:bJ K (.ref f)=Δ):
 Dm K C x q st ps f (ϯ x q (bK st) (Ō st) (è st) .none kV dc pm an cd ct):=
 have F:=Fh l c k
 ⟨F,F.binds λkV dc pm an cd ct us i=>yG (j kV dc pm an cd ct) us i⟩
end
def I_{N b:List Str}{sc:û}(i:autoParam (sc.kind=.function) Η)(h:autoParam (sc.isCoroutine=Ε) Η)(g:autoParam (sc.isGenerator=Ε) Η)(f:autoParam N.Nodup Κ)(e:autoParam (N.take b.length=b) Η)(d:autoParam (∀x∈b,sc.names.lookup x=Α .local\/sc.names.lookup x=Α .cell) Κ)
 (c:autoParam (∀y∈sc.names,y.2≠.free) Κ):ı N b sc:=⟨i,h,g,f,e,d,c⟩
section
variable{X:Cx}{cm:String->À}{E:ă->XK}{CX:gX}{k j n:Nat}{f:À}{fd:ą}{ps:List Str}{mf:MF}{mr:M (List Slot)}{x:Str}{st:æ}{p pos:Pos}{e:Ç}{es:List Ç}
def Ja(F:Ϲ X.prog X.w X.K X.mg X.base CX k f fd ps (rj ∅ n mf))(D:Df X.K X.mg x st ps f fd)(h:Ń j X.A)(g:ϝ CX X E)
 (l:PA X (e::es) (tA ∅ E mr))(a:autoParam (∀{ps:List Slot},(∃r,mf ps=r/\∀z,r=z->z≠.bad)->ps.length=n) Ο)(i:autoParam (Gl X x) Ζ)(c:autoParam (k<=j) Ι)(d:autoParam ((x==("__debug__":Str))=Ε) Ζ)(he:autoParam (Î (e::es) X.env=(Ε,eval e X.env)::Î es X.env) Θ)(m:autoParam ((ü pos<|Î es X.env).any (·.1)=Ε) Ζ):
 PE X (.Call (.Name x p) (e::es) [] pos) (tO ∅ E<|ß mf mr):=LZ F a (h.mono c) i D.m D.F.kp D.b g l d he m
end
section
variable{Pg:ï}{w:ã}{K:Ï}{mg:Str->Option Á}{base:Ô}{CX:gX}{cm:String->À}
def MJ{x qual:Str}{st:æ}{f:À}{h:ą}{N d:List Str}{k n j:Nat}{mb:M Fl}{e:MF}(F:CN K x qual st f h)(S:ı N d (è st))
 (p:∀(cdv:Á) (A:ì) (a:List Env) (s:Ä) (H:Hp) (E:XK),Ń k (A.deeper<|ň qual (è st) s.heap.objs.size f cdv)→(A.deeper<|ň qual (è st) s.heap.objs.size f cdv).units+64<ύ→
   b_ (kj CX Pg w K mg base N qual (è st) f cdv A a s H E) (Ō st) (tS ⟨K,cm⟩ (λy=>E) mb))(l:autoParam (d.length=n) Η)(m:autoParam (N.length=j) Η)(o:autoParam (e=Ď n j mb) Η):Ϲ Pg w K mg base CX (k+1) f h d (rj ⟨K,cm⟩ n e):=
 fnQ F S l m o λcdv A a s H E g=>p cdv A a s H E g g.units
end
noncomputable def tgN:Ç->List Str
 |.Name x _=>[x]|.Tuple a _ _=>a.flatMap fun e=>match e with
   |.Name x _=>[x]|_=>[]
 |_=>[]
def cN(X:Cx)(js:List Nat)(a:Ç):List Str:=js.map (λ(j:Nat)=>(X.N[j]?).getD "")++tgN a
def ndB{l:List Str}(h:decide l.Nodup=Δ):l.Nodup:=of_decide_eq_true h
def frB{a b:û}(h:(a.names.all λy=>decide<|y.2=.free->(b.names.lookup y.1=Α .cell\/b.names.lookup y.1=Α .free))=Δ):∀y∈a.names,y.2=.free->(b.names.lookup y.1=Α .cell\/b.names.lookup y.1=Α .free):=λy e=>of_decide_eq_true<|fL.mp h y e
section
variable{X:Cx}{cm:String->À}{E:ă->XK}{a b e:Ç}{es:List Ç}{ma mb m:M PV}{mo:M RV}{pos p:Pos}
def Ë{i j pos}:PE X (.Constant (.int i) j pos) (tR ∅ E<|mC<|.int i):=å ī
def nD{j pos}:PE X (.Constant .none j pos) (tR ∅ E<|mC .non):=å pO
def ğ{x j pos}:PE X (.Constant (.str x) j pos) (tR ∅ E<|mC<|.str x):=å Ŋ
def Ĥ(g:PE X a (tR ∅ E ma))(f:PE X b (tR ∅ E mb))(d:tF b:=by exact λx x=>rfl):PE X (.Subscript a b pos) (tV ∅ E<|Ê Þ ma mb):=O7 J6 JS g f d
def ċ(g:PE X a (tR ∅ E ma))(f:PE X b (tR ∅ E mb))(d:tF b:=by exact λx x=>rfl):PE X (.Subscript a b pos) (tR ∅ E<|Ê Þ ma mb):=å<|Ĥ g f d
def v_mod(d:PE X a (tR ∅ E ma))(c:PE X b (tR ∅ E mb)):PE X (.BinOp a .Mod b pos) (tV ∅ E<|Ê Ĭ ma mb):=fF Mb LD d c
def ş(d:PE X a (tR ∅ E ma))(c:PE X b (tR ∅ E mb)):PE X (.BinOp a .Mod b pos) (tR ∅ E<|Ê Ĭ ma mb):=å<|v_mod d c
def v_mul(d:PE X a (tR ∅ E ma))(c:PE X b (tR ∅ E mb)):PE X (.BinOp a .Mult b pos) (tV ∅ E<|Ê Ĝ ma mb):=fF Mc Ir d c
def cz(d:PE X a (tR ∅ E ma))(c:PE X b (tR ∅ E mb)):PE X (.BinOp a .Mult b pos) (tR ∅ E<|Ê Ĝ ma mb):=å<|v_mul d c
def v_sub(d:PE X a (tR ∅ E ma))(c:PE X b (tR ∅ E mb)):PE X (.BinOp a .Sub b pos) (tV ∅ E<|Ê Ϻ ma mb):=fF L9 LB d c
def Gx(d:PE X a (tR ∅ E ma))(c:PE X b (tR ∅ E mb)):PE X (.BinOp a .Sub b pos) (tR ∅ E<|Ê Ϻ ma mb):=å<|v_sub d c
def wl(d:PE X a (tR ∅ E ma))(c:PE X b (tR ∅ E mb)):PE X (.BinOp a .FloorDiv b pos) (tV ∅ E<|Ê cT ma mb):=fF Ma Ig d c
def nE(d:PE X a (tR ∅ E ma))(c:PE X b (tR ∅ E mb)):PE X (.BinOp a .FloorDiv b pos) (tR ∅ E<|Ê cT ma mb):=å<|wl d c
def lH(d:PE X a (tR ∅ E ma))(c:PE X b (tR ∅ E mb)):PE X (.BinOp a .Add b pos) (tO ∅ E<|ô é ma mb):=O6 L7 L0 d c
def v_add(d:PE X a (tR ∅ E ma))(c:PE X b (tR ∅ E mb)):PE X (.BinOp a .Add b pos) (tV ∅ E<|Ñ<|ô é ma mb):=ò<|lH d c
def cj(d:PE X a (tR ∅ E ma))(c:PE X b (tR ∅ E mb)):PE X (.BinOp a .Add b pos) (tR ∅ E<|Ñ<|ô é ma mb):=å<|v_add d c
def dP(c:X.A.units+64<ύ)(f:PE X a (tR ∅ E ma))(d:PE X b (tR ∅ E mb)):PT X (.Compare a [.Eq] [b] pos) (tB ∅ E<|ϐ<|Ê ķ ma mb):=Ϝ FZ (AZ c) f d<|Ġ _
def qP(c:X.A.units+64<ύ)(f:PE X a (tR ∅ E ma))(d:PE X b (tR ∅ E mb)):PT X (.Compare a [.NotEq] [b] pos) (tB ∅ E<|ϐ<|Ê ϕ ma mb):=Ϝ nB (iY c) f d<|Ġ _
def v_eq(c:X.A.units+64<ύ)(f:PE X a (tR ∅ E ma))(d:PE X b (tR ∅ E mb)):PE X (.Compare a [.Eq] [b] pos) (tV ∅ E<|Ê ķ ma mb):=ny FZ (AZ c) f d<|Ġ _
def ļ(he:PE X e (tO ∅ E mo)):b_ X [.Return (Α e) pos] (tS ∅ E<|Ā mo):=ø<|Pb he
def ĩ(he:PE X e (tV ∅ E m)):b_ X [.Return (Α e) pos] (tS ∅ E<|Ā<|ņ m):=ļ<|ϱ he
def El{N ps:List Str}{sc:û}{i:Nat}{x:Str}{aY:Pos}(S:ı N ps sc)(he:PE X e (tO ∅ E mo))(hN:autoParam (X.N=N) Η)(hi:autoParam (X.N[i]?=Α x) Ζ)(hx:autoParam (Loc X.env.scope x) Ρ)(hs:autoParam (ť e (Α<|.Name x aY) pos.line X.env=pure Ε) Ζ)(hf:autoParam (X.fn x=Δ\/X.env.scope.names.lookup x=Α .local) Μ):
 PS X (.Assign [.Name x aY] e pos) (tS ∅ E<|Ą i mo):=Pa (hN▸S.nd) hi hx he hs hf
def ĕ{N ps:List Str}{sc:û}{i:Nat}{x:Str}{aY:Pos}{rest:List æ}{m2:M Fl}(S:ı N ps sc)(he:PE X e (tO ∅ E mo))(h2:b_ X rest (tS ∅ E m2))(hN:autoParam (X.N=N) Η)(hi:autoParam (X.N[i]?=Α x) Ζ)(hx:autoParam (Loc X.env.scope x) Ρ)(hs:autoParam (ť e (Α<|.Name x aY) pos.line X.env=pure Ε) Ζ)(hf:autoParam (X.fn x=Δ\/X.env.scope.names.lookup x=Α .local) Μ):
 b_ X (.Assign [.Name x aY] e pos::rest) (tS ∅ E<|ä (Ą i mo) m2):=Ø (El S he hN hi hx hs hf) h2
def ϩ{N c:List Str}{sc:û}{i:Nat}{x:Str}(S:ı N c sc)(h:autoParam (X.N=N) Η)(f:autoParam (X.N[i]?=Α x) Ζ)(d:autoParam (Loc X.env.scope x) Ρ)(g:autoParam (X.fn x=Δ\/X.env.scope.names.lookup x=Α .local) Μ):PG X (.Name x pos) (tT ∅<|gN i):=FO (h▸S.nd) f d g
def ϒ{i:Nat}{x:Str}(g:X.N.Nodup:=by exact ndB<|by kernel_rfl)(d:autoParam (X.N[i]?=Α x) Ζ)(c:autoParam (Loc X.env.scope x) Ρ)(f:autoParam (X.fn x=Δ\/X.env.scope.names.lookup x=Α .local) Φ):PG X (.Name x pos) (tT ∅<|gN i):=FO g d c f
def Ó(i:Nat){x:Str}{px:Pos}{ms:M (List Slot)}(hr:PA X es (tA ∅ E ms))(hk:autoParam (EK X i x=Δ) Ζ)(hs:autoParam (Î (.Name x px::es) X.env=(Ε,eval (.Name x px) X.env)::Î es X.env) Θ):PA X (.Name x px::es) (tA ∅ E<|Ì i ms):=Iw i hk hr hs
def ϓ{id:String}{x:Str}{r:List V->Hp->VK->Prop}{f:List PV->Option PV}{mr:M (List PV)}(hc:Ŝ X (.builtin id) r)(hf:eZ ∅ r f)(hm:X.mg x=Β)(hv:fR x=Α (.builtin id))(ha:PA X (e::es) (FK ∅ E mr))(hg:autoParam (Gl X x) Ζ)(hn:autoParam (x≠"__name__") Ι)(jD:autoParam ((x==("__debug__":Str))=Ε) Ζ)
 (he:autoParam (Î (e::es) X.env=(Ε,eval e X.env)::Î es X.env) Η)(bZ:autoParam ((ü pos<|Î es X.env).any (·.1)=Ε) Ζ):PE X (.Call (.Name x p) (e::es) [] pos) (tV ∅ E<|a_ f mr):=PE.wk (ue hc hg hm hv ha hn jD he bZ) λy y y h=>O9 hf h
def qb{T:String}{x:Str}{r:List V->Hp->VK->Prop}{f:List PV->Option PV}{mr:M (List PV)}(hc:Ŝ X (.type T) r)(hf:eZ ∅ r f)(hm:X.mg x=Β)(hv:fR x=Α (.type T))(ha:PA X (e::es) (FK ∅ E mr))(hg:autoParam (Gl X x) Ζ)(hn:autoParam (x≠"__name__") Ι)(jD:autoParam ((x==("__debug__":Str))=Ε) Ζ)
 (he:autoParam (Î (e::es) X.env=(Ε,eval e X.env)::Î es X.env) Η)(bZ:autoParam ((ü pos<|Î es X.env).any (·.1)=Ε) Ζ):PE X (.Call (.Name x p) (e::es) [] pos) (tV ∅ E<|a_ f mr):=PE.wk (vK hc hg hm hv ha hn jD he bZ) λy y y h=>O9 hf h
def vt{T:String}{x:Str}{r:List V->Hp->VK->Prop}{f:List PV->Option RV}{mr:M (List PV)}(hc:Ŝ X (.type T) r)(hf:FN ∅ r f)(hm:X.mg x=Β)(hv:fR x=Α (.type T))(ha:PA X (e::es) (FK ∅ E mr))(hg:autoParam (Gl X x) Ζ)(hn:autoParam (x≠"__name__") Ι)(jD:autoParam ((x==("__debug__":Str))=Ε) Ζ)
 (he:autoParam (Î (e::es) X.env=(Ε,eval e X.env)::Î es X.env) Η)(bZ:autoParam ((ü pos<|Î es X.env).any (·.1)=Ε) Ζ):PE X (.Call (.Name x p) (e::es) [] pos) (tO ∅ E<|uk f mr):=PE.wk (vK hc hg hm hv ha hn jD he bZ) λy y y h=>U4 hf h
end
section
variable{X:Cx}{cm:String->À}{E:ă->XK}{elt tg iter:Ç}{ifs:List Ç}{scope:û}{pos:Pos}{mi:M (List PV)}{g:Tg}{mt:M Bool}{me:M PV}{js:List Nat}{nl:Nat}
structure CF(X:Cx)(js:List Nat)(nl:Nat)(tg iter:Ç)(scope:û):Prop where
 hcap:gG X.ar X.env.scope scope (cN X js tg) js
 hcalm:X.calm=Δ
 hlen:js.length+nl=(cN X js tg).length
 hk:scope.kind=.function
 hcell:∀y∈scope.names,y.2=.cell->scope.names.lookup y.1=Α .cell
 hnames:∀y∈scope.names,y.2=.local->scope.names.lookup y.1=Α .local
 hfree:∀y∈scope.names,y.2=.free->(X.env.scope.names.lookup y.1=Α .cell\/X.env.scope.names.lookup y.1=Α .free)
 hs:∀x,de iter X.env x=pure x
def cf(i:gG X.ar X.env.scope scope (cN X js tg) js:=by repeat' first|exact True.intro|refine⟨rfl,⟨rfl,by first|exact ac rfl|exact jO rfl⟩,?_⟩)(e:autoParam (X.calm=Δ) Η)(h:autoParam (js.length+nl=(cN X js tg).length) Η)
 (l:autoParam (scope.kind=.function) Η)(d:autoParam (∀y∈scope.names,y.2=.cell->scope.names.lookup y.1=Α .cell) Κ)(b:autoParam (∀y∈scope.names,y.2=.local->scope.names.lookup y.1=Α .local) Κ)
 (c:∀y∈scope.names,y.2=.free->(X.env.scope.names.lookup y.1=Α .cell\/X.env.scope.names.lookup y.1=Α .free):=by exact frB<|by kernel_rfl)(k:autoParam (∀x,de iter X.env x=pure x) Ν):CF X js nl tg iter scope:=⟨i,e,h,l,d,b,c,k⟩
def Wi(c:PI X.ar tg iter (tG ∅ E (FQ<|kk X cm) mi))(d:∀{cl C s H fp},PG (km X.ar (cN X js tg) scope cl C s H fp) tg<|tT ∅ g)(b:∀{cl C s H fp},CP (km X.ar (cN X js tg) scope cl C s H fp) ifs<|tB ∅ EF mt)(he:∀{cl C s H fp},PE (km X.ar (cN X js tg) scope cl C s H fp) elt<|tV ∅ EF me)(h:CF X js nl tg iter scope:=by exact cf):
 PE X (.ListComp elt [⟨tg,iter,ifs,0⟩] scope pos) (tO ∅ E<|Ģ js nl mi g mt me):=IB (cN X js tg) js nl X.env.scope rfl h.hcalm c (λx x x x x=>d) (λx x x x x=>b) (λx x x x x=>he) h.hcap h.hlen h.hk h.hcell h.hnames h.hfree h.hs
def dX(b:PI X.ar tg iter (tI ∅ E mi))(c:∀{cl C s H fp},PG (km X.ar (cN X js tg) scope cl C s H fp) tg<|tT ∅ g)(a:∀{cl C s H fp},CP (km X.ar (cN X js tg) scope cl C s H fp) ifs<|tB ∅ EF mt)(he:∀{cl C s H fp},PE (km X.ar (cN X js tg) scope cl C s H fp) elt<|tV ∅ EF me)(h:CF X js nl tg iter scope:=by exact cf):
 PE X (.ListComp elt [⟨tg,iter,ifs,0⟩] scope pos) (tO ∅ E<|Ģ js nl mi g mt me):=Wi (J1 b) c a he h
def rT{N ps:List Str}{sc:û}{i:Nat}{y:Str}{py Aw:Pos}(S:ı N ps sc)(hi:PI X.ar tg iter (tI ∅ E mi))(hg:∀{cl C s H fp},PG (km X.ar (cN X js tg) scope cl C s H fp) tg<|tT ∅ g)(ht:∀{cl C s H fp},CP (km X.ar (cN X js tg) scope cl C s H fp) ifs<|tB ∅ EF mt)(he:∀{cl C s H fp},PE (km X.ar (cN X js tg) scope cl C s H fp) elt<|tV ∅ EF me)
 (h:CF X js nl tg iter scope:=by exact cf)(hN:autoParam (X.N=N) Η)(Rv:autoParam (X.N[i]?=Α y) Ζ)(hy:autoParam (X.env.scope.names.lookup y=Α .local) Η)(Ru:autoParam (ť (.ListComp elt [⟨tg,iter,ifs,0⟩] scope pos) (Α<|.Name y py) Aw.line X.env=pure Δ) Η):
 PS X (.Assign [.Name y py] (.ListComp elt [⟨tg,iter,ifs,0⟩] scope pos) Aw) (tS ∅ E<|Ą i<|Ģ js nl mi g mt me):=Mq (hN▸S.nd) Rv hy (cN X js tg) js nl X.env.scope rfl h.hcalm hi (λx x x x x=>hg) (λx x x x x=>ht) (λx x x x x=>he) h.hcap h.hlen h.hk h.hcell h.hnames h.hfree h.hs Ru
end
end P
namespace M5
open PySem PySem.Spec PyProof.Rows L2 M2 M3
def Gy(a v:Á):argsOk "min" ⟨[a],[(È "key",v),(È "default",.none)]⟩:=by unfold argsOk;kernel_rfl
section
variable{X:Cx}{Å:List (À×Obj)}{σ:ă}{H:Hp}{s:Ä}
variable{R:Result->Ä->Prop}{f l S It:À}{oF:Obj}{xs:List V}(ks:Nat->Int)(W:Nat->Hp->Prop)
def Bp(hh:X.A.handled=Β)(hl:∀k H,W k H->ż X.K H l xs)(SV:∀v,oF.data≠.cell v)(SW:f≠S)(SX:f≠It)
 (turn:∀k v,xs[k]?=Α v->∀Å H s u,Inv X Å σ H s->W k H->RelV v u->s.heap.get? f=Α oF->Ð (Ú X.prog X.w) X.A.in1 (call (.ref f) [u]) (EP X Å σ λy H'=>y=.int (ks k)/\W (k+1) H') (λx x=>False) s)
 (hR:∀i v u H s,xs[i]?=Α v->RelV v u->(∀j,j<xs.length->ks i<=ks j/\(j<i->ks i<ks j))->Inv X Å σ H s->W xs.length H->R (.ok<|.ret u) s):
 ∀(r j i:Nat) (H:Hp) (s:Ä) (vb:Á) (tb:Tok) (c:Nat) (v:V),xs.length-(j+1)=r->j+1<=xs.length->Inv X Å σ H s->W (j+1) H->
  s.heap.get? S=Α (fP "list" #[vb,.int (ks i) tb] c)->s.heap.IsListIter It l (j+1)->s.heap.get? f=Α oF->(∀b∈[S,It,f],fq X Å H b)->xs[i]?=Α v->RelV v vb->i<=j->(∀j',j'<=j->ks i<=ks j'/\(j'<i->ks i<ks j'))->
  eM (Ú X.prog X.w) X.A (.builtin "min.loop" ⟨[.ref It,.ref f,.ref S],[(È "default",.none)]⟩) R s:=by
 have Hm:(ϙ "min"++ϙ ".loop":String)="min.loop":=by decide
 intro r
 induction r with
 |zero=>
  intro j i H s vb tb c v hr hj I w hS li hF MK hv rv YA wJ;have JL:j+1=xs.length:=by lia
  refine BL λZ=>?_;refine BL λY=>?_;obtain⟨ę,ri,pl,_⟩:=I.list<|hl _ _ w;refine Y ?_;refine Z ?_;have lh:ę.toArray.size=xs.length:=by rw[Ł,ri.length]
  have W':=pB (prog:=X.prog) (w:=X.w) (A:=X.A.in1) hh It l (CU pl.isList li) ę.toArray;refine sP xC ?_;rw[xv jY _];show Ð _ X.A.in1 (seqItems? (.ref S)>>=_) _ _ _;refine à<|sQ hS rfl ?_;show Ð _ X.A.in1 (mD (ij<|.ref It) _>>=_) _ _ _;refine à (jX<|W'.done _ _ _ ⟨by rw[lh,<-JL];exact li,pl.isList⟩ λh' KP AI=>?_);have I1:=cK (h':=h') (t':=KP) I (MK It<|by simp) λb o m e=>AI b o (by simpa using m) e;have YC:=AI S _ (by simpa using A4 hS li) hS;have s1:=xF h' S<|fZ λx=>(#[]:Array Á);show Ð _ X.A.in1 (updateSeq S (λx=> #[])>>=_) _ _ _;refine à ?_;refine sR YC rfl<|à<|mM<|ď ?_;exact hR i v vb H _ hv rv (λj' YD=>wJ j'<|by lia) (cK (t':=KP) I1 (MK S<|by simp) λb o m e=>(s1.2 b m).trans e)<|JL▸w
 |succ r ih=>
  intro j i H s vb tb c v hr hj I w hS li hF MK hv rv YA wJ;have kN:j+1<xs.length:=by omega
  obtain⟨ę,ri,pl,_⟩:=I.list<|hl _ _ w;have lh:ę.toArray.size=xs.length:=by rw[Ł,ri.length]
  have W':=pB (prog:=X.prog) (w:=X.w) (A:=X.A.in1) hh It l (CU pl.isList li) ę.toArray;refine sP xC ?_;rw[xv jY _];show Ð _ X.A.in1 (seqItems? (.ref S)>>=_) _ _ _;refine à<|sQ hS rfl ?_;show Ð _ X.A.in1 (mD (ij<|.ref It) _>>=_) _ _ _;refine à (jX<|W'.item (j+1) _ _ _ (by rw[lh];exact kN) ⟨li,pl.isList⟩ λu h' KP hP NZ AI=>?_);have hu:ę[j+1]?=Α u:=by simpa using hP
  have Rz:xs[j+1]?=Α xs[j+1]:=Ĩ kN;have ru:RelV xs[j+1] u:=by obtain⟨u2,h2,r2⟩:=ri.get Rz;rw[hu]at h2;cases h2;exact r2
  obtain⟨Ov,Hn,NH,Ow⟩:=id NZ.1;have I1:=cK (h':=h') (t':=KP) I (MK It<|by simp) λb o m e=>AI b o (by simpa using m) e;have RA:=AI S _ (by simpa using A4 hS li) hS;have ML:=AI f _ (by simpa using SX) hF;show Ð _ X.A.in1 (mD (cI [u] (call (.ref f) [u])) _>>=_) _ _ _;refine à<|jX<|iw<|ό (vR (fp:=[S,It,f]) I1 MK (λb m=>?_) (λiC I'=>turn (j+1) _ Rz iC H _ u I' w ru ML) λy u2 H2 s2 I2 ry ⟨ey,w2⟩ Em MN=>?_) (λx x z=>z) λx x hF=>hF.elim
  ·rcases ù.mp m with rfl|m
   ·exact⟨_,RA,λv z=>by cases z⟩
   ·rcases ù.mp m with rfl|m
    ·exact⟨Ov,Hn,λv z=>by rw[Ow]at z;cases z⟩
    ·rw[eJ.mp m];exact⟨oF,ML,SV⟩
  ·subst ey;obtain⟨t2,rfl⟩:=ry;have N_:=MN S (by simp) _ RA;have SY:=MN It (by simp) _ Hn;have S_:=MN f (by simp) _ ML;have RC:s2.heap.IsListIter It l (j+1+1):=⟨Ov,SY,NH,Ow⟩;show Ð _ X.A.in1 (mD (cI [u,.int (ks<|j+1) t2] (richCompare .Lt (.int (ks<|j+1) t2) (.int (ks i) tb)>>=_)) _>>=_) _ _ _;refine à<|jX<|iw<|à<|CmpOf.ints_lt (prog:=X.prog) (w:=X.w) (A:=X.A.in1) (P:=λi v=>∃t,v=.int (ks i) t) ks (λi v h=>h) (j+1) i _ _ _ _ _ ⟨t2,rfl⟩ ⟨tb,rfl⟩ ?_;refine à<|iw<|eL ?_;refine à<|mM<|ď ?_;by_cases Ax:ks (j+1)<ks i
   ·have s1:=xF s2.heap S<|fZ λx=> #[u,.int (ks<|j+1) t2];obtain⟨cc,NT⟩:∃cc,(s2.heap.update S<|fZ λx=> #[u,.int (ks<|j+1) t2]).get? S=Α (fP "list" #[u,.int (ks<|j+1) t2] cc):=⟨_,get?_update_seq N_ λx=> #[u,.int (ks<|j+1) t2]⟩;simp only[Ax,decide_true,if_true];refine à ?_;refine sR N_ rfl<|à<|mM ?_;rw[Hm];have nIS:=A4 N_ RC;refine ď ⟨pd jY _,ih (j+1) (j+1) H2 _ u t2 cc _ (by lia) kN (cK (t':=s2.toks) I2 (Em S<|by simp) λb o m e=>(s1.2 b m).trans e) w2 NT ⟨Ov,(s1.2 It nIS.symm).trans SY,NH,Ow⟩ ((s1.2 f SW).trans S_) Em Rz ru (õ _) λj' YD=>?_⟩;by_cases e:j'=j+1
    ·subst e;exact⟨by lia,λx=>by lia⟩
    ·have Yx:=wJ j' (by lia);exact⟨by lia,λx=>by lia⟩
   ·simp only[Ax,decide_false,rY,if_false];refine à<|mM ?_;refine ď ⟨pd jY _,ih (j+1) i H2 s2 vb tb c v (by lia) kN I2 w2 N_ RC S_ Em hv rv (by lia) λj' YD=>?_⟩;by_cases e:j'=j+1
    ·subst e;exact⟨by lia,λx=>by lia⟩
    ·exact wJ j' (by lia)
def Bq{Q:Á->Ä->Prop}{E:Á->Ä->Prop}(hh:X.A.handled=Β)(hl:∀k H,W k H->ż X.K H l xs)(SV:∀v,oF.data≠.cell v)
 (turn:∀k v,xs[k]?=Α v->∀Å H s u,Inv X Å σ H s->W k H->RelV v u->s.heap.get? f=Α oF->Ð (Ú X.prog X.w) X.A.in1 (call (.ref f) [u]) (EP X Å σ λy H'=>y=.int (ks k)/\W (k+1) H') (λx x=>False) s)
 (hQ:∀i v u H s,xs[i]?=Α v->RelV v u->(∀j,j<xs.length->ks i<=ks j/\(j<i->ks i<ks j))->Inv X Å σ H s->W xs.length H->Q u s)
 (hQ0:∀H s,xs=[]->Inv X Å σ H s->W 0 H->Q .none s)
 (I:Inv X Å σ H s)(w0:W 0 H)(hF:s.heap.get? f=Α oF)(Um:fq X Å H f):
 Ð (Ú X.prog X.w) X.A (call (.builtin "min") [.ref l] [(È "key",.ref f),(È "default",.none)]) Q E s:=by
 have Hm:(ϙ "min"++ϙ ".loop":String)="min.loop":=by decide
 refine BL λZ=>?_;obtain⟨ę,ri,pl,_⟩:=I.list<|hl _ _ w0;have Uo:=pl.isList;obtain⟨ol,hol,_⟩:=id Uo;refine Z ?_;have RE:l<s.heap.objs.size:=ö hol;refine kmk_tree PySem.F.kind_min PySem.F.plain_min PySem.F.entry_min (Gy _ _) ?_;show Ð _ X.A.in1 (Ce "min" ["key","default"] 0 ⟨[],[(È "key",.ref f),(È "default",.none)]⟩>>=_) _ _ s;refine à<|wpAny_of_eq (show Ce "min" ["key","default"] 0 ⟨[],[(È "key",.ref f),(È "default",.none)]⟩=pure [Α<|.ref f,Α .none]from rfl) ?_;refine à<|ď ?_;refine à<|jW Uo ?_;refine à<|wpAny_newList ?_ (bB _);rw[Hm];have hS:(s.heap.push {cls:=.type "list_iterator",data:=.fields #[.ref l,.int 0 0]}).objs.size=s.heap.objs.size+1:=size_push' ..;generalize N1:(s.heap.push {cls:=.type "list_iterator",data:=.fields #[.ref l,.int 0 0]}).objs.size=S at hS⊢;refine ď ⟨pd jY _,?_⟩;have k0:∀b o,s.heap.get? b=Α o->((s.heap.push {cls:=.type "list_iterator",data:=.fields #[.ref l,.int 0 0]}).push (fP "list" #[] 0)).get? b=Α o:=λb o e=>Ć _<|Ć _ e;have gI:((s.heap.push {cls:=.type "list_iterator",data:=.fields #[.ref l,.int 0 0]}).push (fP "list" #[] 0)).get? s.heap.objs.size=Α {cls:=.type "list_iterator",data:=.fields #[.ref l,.int 0 0]}:=
  Ć _ (ĵ _ rfl)
 have gS:((s.heap.push {cls:=.type "list_iterator",data:=.fields #[.ref l,.int 0 0]}).push (fP "list" #[] 0)).get? S=Α (fP "list" #[] 0):=by rw[<-N1];exact ĵ _ rfl
 have I0:Inv X Å σ H {s with heap:=(s.heap.push {cls:=.type "list_iterator",data:=.fields #[.ref l,.int 0 0]}).push (fP "list" #[] 0)}:=I.kept (t':=s.toks) k0;have fI:fq X Å H s.heap.objs.size:=I.rN (õ _)<|I.hok.fresh<|õ _;have fS:fq X Å H S:=I.rN (by lia) (I.hok.fresh<|by lia);have hlf:f<s.heap.objs.size:=ö hF;have SX:f≠s.heap.objs.size:=Ĕ hlf;have SW:f≠S:=Ĕ (by rw[hS];exact oS hlf);have hSI:S≠s.heap.objs.size:=by lia
 have MK:∀b∈[S,s.heap.objs.size,f],fq X Å H b:=λb hb=>by
  rcases ù.mp hb with rfl|hb
  ·exact fS
  ·rcases ù.mp hb with rfl|hb
   ·exact fI
   ·rw[eJ.mp hb];exact Um
 obtain⟨MO,ri0,pl0,_⟩:=I0.list<|hl _ _ w0;have lh:MO.toArray.size=xs.length:=by rw[Ł,ri0.length]
 have W':=pB (prog:=X.prog) (w:=X.w) (A:=X.A.in1) hh s.heap.objs.size l (Ĕ RE) MO.toArray;refine sP xC ?_;rw[xv jY _];show Ð _ X.A.in1 (seqItems? (.ref _)>>=_) _ _ _;refine à<|sQ gS rfl ?_;show Ð _ X.A.in1 (mD (ij<|.ref s.heap.objs.size) _>>=_) _ _ _;by_cases h_:0<xs.length
 case neg=>
  have hxe:xs=[]:=oO.mp (by lia);refine à (jX<|W'.done _ _ _ ⟨by rw[lh,hxe];exact⟨_,gI,rfl,rfl⟩,pl0.isList⟩ λh' KP AI=>?_);have I1:=cK (h':=h') (t':=KP) I0 fI λb o hb e=>AI b o (by simpa using hb) e;exact à<|wpAny_rule<|ď<|hQ0 _ _ hxe I1 w0
 refine à (jX<|W'.item 0 _ _ _ (by rw[lh];exact h_) ⟨⟨_,gI,rfl,rfl⟩,pl0.isList⟩ λu h' KP hP NZ AI=>?_);have hu:MO[0]?=Α u:=by simpa using hP
 have YE:xs[0]?=Α xs[0]:=Ĩ h_;have ru:RelV xs[0] u:=by obtain⟨u2,h2,r2⟩:=ri0.get YE;rw[hu]at h2;cases h2;exact r2
 obtain⟨Ov,Hn,NH,Ow⟩:=id NZ.1;have I1:=cK (h':=h') (t':=KP) I0 fI λb o hb e=>AI b o (by simpa using hb) e;have RA:=AI S _ (by simpa using hSI) gS;have ML:=AI f _ (by simpa using SX)<|k0 _ _ hF;show Ð _ X.A.in1 (mD (cI [u] (call (.ref f) [u])) _>>=_) _ _ _;refine à<|jX<|iw<|ό (vR (fp:=[S,s.heap.objs.size,f]) I1 MK (λb hb=>?_) (λiC I'=>turn 0 _ YE iC H _ u I' w0 ru ML) λy u2 H2 s2 I2 ry ⟨ey,w2⟩ Em MN=>?_) (λx x z=>z) λx x hF=>hF.elim
 ·rcases ù.mp hb with rfl|hb
  ·exact⟨_,RA,λv z=>by cases z⟩
  ·rcases ù.mp hb with rfl|hb
   ·exact⟨Ov,Hn,λv z=>by rw[Ow]at z;cases z⟩
   ·rw[eJ.mp hb];exact⟨oF,ML,SV⟩
 ·subst ey;obtain⟨t2,rfl⟩:=ry;have N_:=MN S (by simp) _ RA;have SY:=MN s.heap.objs.size (by simp) _ Hn;have S_:=MN f (by simp) _ ML;have s1:=xF s2.heap S<|fZ λx=> #[u,.int (ks 0) t2];obtain⟨cc,NT⟩:∃cc,(s2.heap.update S<|fZ λx=> #[u,.int (ks 0) t2]).get? S=Α (fP "list" #[u,.int (ks 0) t2] cc):=⟨_,get?_update_seq N_ λx=> #[u,.int (ks 0) t2]⟩;refine à ?_;refine sR N_ rfl ?_;refine ď ⟨pd jY _,Bp ks W hh hl SV SW SX turn (λi v u' H' s' a1 a2 a3 a4 a5=>hQ i v u' H' s' a1 a2 a3 a4 a5) _ 0 0 H2 _ u t2 cc _ rfl h_ (cK (t':=s2.toks) I2 (Em S<|by simp) λb o hb e=>(s1.2 b hb).trans e) w2 NT ⟨Ov,(s1.2 _ hSI.symm).trans SY,NH,Ow⟩ ((s1.2 f SW).trans S_) Em YE ru (õ _) λj' YD=>?_⟩;have e:j'=0:=by lia
  subst e;exact⟨by lia,λh=>absurd h<|cG _⟩
end
def MP(K:Ï)(p:TA)(js:List Nat)(o:TE):TE:=λb H Q=>p b H λvs g=>∃l d,vs=[.ref l]/\ż K g l d/\∀c q f,Ù g f->f c=Α (.DO q)->(∀a,g a=Β->f a=Β\/a=c)->
 ∃(e:Nat->Int) (W:Nat->Hp->Prop),W 0 f/\(∀k H,W k H->Ù f H)/\(∀k v H,d[k]?=Α v->W k H->o (jf js b v) H λy r=>y=.int (e k)/\W (k+1) r)/\
  (∀i v H,d[i]?=Α v->(∀j,j<d.length->e i<=e j/\(j<i->e i<e j))->W d.length H->Q v H)/\(d=[]->∀H,W 0 H->Q .non H)
section
variable{X:Cx}{x px:Str}{c P:À}{params:fW}{body e:Ç}{scope:û}{p pos FD BH N2 GA:Pos}{dj:Nat}{ta:TA}{te:TE}
def GB(N0:List Str)(js:List Nat)(sc:û)(rX:X.env.scope=sc)(hcalm:X.calm=Δ)(LO:X.A.depth<sN)(hx:x∈lams)(ht:Ů X.K x=Α (c,P))(wF:X.env.code=.ref c)(hq:X.env.qual=x++".<locals>.")
 (hg:Gl X "min")(hm:X.mg "min"=Β)(ha:PA X [e] ta)(he:∀cl f c' s H,PE (EL X (N0++[px]) (gE x) scope cl f c' X.A.in1 s H) body te)(hcap:gG X sc scope N0 js)(hlen:autoParam (js.length=N0.length) Η)
 (u_:∀(cl:List (Str×À)) (pm AH:Á) (c':À) (u:Á),im (xQ "<lambda>" (gE x) params body scope cl pm (.ref c') AH) ⟨[u],[]⟩=pure [(px,u)]:=by intros;rfl)
 (hk:autoParam (scope.kind=.function) Η)(hcell:autoParam (∀y∈scope.names,y.2≠.cell) Κ)(KE:autoParam (scope.names.lookup px=Α .local) Η)(Rh:autoParam (scope.isCoroutine=Ε) Η)(Hi:autoParam (scope.isGenerator=Ε) Η)
 (hfree:autoParam (∀y∈scope.names,y.2=.free->(sc.names.lookup y.1=Α .cell\/sc.names.lookup y.1=Α .free)) Κ)(Hh:autoParam (defaultsOf params X.env=([],[])) Η)
 (fJ:autoParam (Î [e] X.env=[(Ε,eval e X.env)]) Η)(bZ:autoParam ((ü pos<|Î [e] X.env).any (·.1)=Ε) Ζ):
 PE X (.Call (.Name "min" p) [e] [⟨Α "key",.Lambda params body scope FD,BH⟩,⟨Α "default",.Constant .none dj N2,GA⟩] pos) (MP X.K ta js te):=by
 intro Å s d H Q I h;obtain⟨cl,c1,c2,c3⟩:=pJ λy hy hf=>I.ok.has y.1 (by
  have:=hfree y hy hf;rw[<-rX]at this;exact this)
 have hh:=I.ok.hd hcalm;refine io (iX I hg hm (show fR "min"=Α (.builtin "min") by kernel_rfl) ?_ (by decide) (by decide));refine callWith_kw (Ż (ha pos Å s d H _ I h) λus s1 zz=>?_) (by rw[fJ];rfl) bZ rfl rfl;obtain⟨vs,H1,I1,r1,q1⟩:=zz;obtain⟨l,xs,rfl,hs1,q1⟩:=q1;have eus:us=[.ref l]:=by
  cases r1 with
  |cons a b=>cases b;exact congrArg (λz=>[z])<|show _=Ϯ l from a
 subst eus;refine wpAny_evalAll_cons<|à<|FA I1 hx ht wF hq Hh c1 λf c' pm AH H2 s2 I2 nw sm hc hf fo=>à<|mK<|ď ?_;refine wpAny_evalAll_cons<|à ?_;refine Constant_none ?_;refine à<|mK<|ď ?_;refine wpAny_evalAll_nil ?_;refine BL λZ=>?_;obtain⟨ks,W,w0,wm,wt,wq,wq0⟩:=q1 c' _ H2 sm hc nw;refine Z ?_;refine Bq ks W hh (λk H w=>(wm k H w).seq (sm.seq hs1)) (λv z=>by cases z) (λk v hv iC H' s' u I' w ru hf'=>?_) (λi v u H' s' hv ru hb I' w=>⟨v,H',I',ru,wq i v H' hv hb w⟩) (λH' s' hx I' w=>⟨.non,H',I',rfl,wq0 hx H' w⟩) I2 w0 hf fo;exact FC (A:=X.A.in1) rX hk hcap hlen hcell KE Rh Hi I.ok.frames hh LO c2 c3 (u_ cl pm AH c') (λs H=>he cl f c' s H) I' hf' (wm k H' w c' _ hc) ru<|wt k v H' hv w
end
end M5
namespace P
open PySem PySem.Spec PyProof.Rows L2 M2 M3 M5
def qc:List PV->List Int->Option PV
 |[],_=>Α .non|p::a,b=>yE (p::a) b
def GC(h:0<items.length)(e:qc items a=Α b):yE items a=Α b:=by
 cases items with
 |nil=>simp at h|cons p ps=>exact e
@[simp]def GD(js:List Nat)(me:M PV)(e:M (List PV))(b:ć):Ĳ PV:=(e b).bind fun d a=>match d with
  |[.lst c]=>match Bo js me a c with
    |some f=>Ĳ.zG (qc c f) a|none=>.bad
  |_=>.bad
section
variable{X:Cx}{cm:String->À}{E:ă->XK}{x px:Str}{c Pt:À}{params:fW}{body e:Ç}{scope:û}{p pos FD BH N2 GA:Pos}{dj:Nat}{mr:M (List PV)}{me:M PV}
set_option tactic.hygienic true in
def Jb{k:Nat}(N0:List Str)(js:List Nat)(sc:û)(hr:Ń (k+2) X.A)(rX:X.env.scope=sc)(hcalm:X.calm=Δ)(hx:x∈lams)(ht:Ů X.K x=Α (c,Pt))(wF:X.env.code=.ref c)(hq:X.env.qual=x++".<locals>.")
 (hg:Gl X "min")(hm:X.mg "min"=Β)(ha:PA X [e] (FK ∅ E mr))(he:∀cl f c' s H,Ń k (EL X (N0++[px]) (gE x) scope cl f c' X.A.in1 s H).A->(EL X (N0++[px]) (gE x) scope cl f c' X.A.in1 s H).A.units+64<ύ->PE (EL X (N0++[px]) (gE x) scope cl f c' X.A.in1 s H) body (tV ∅ EF me))(hcap:gG X sc scope N0 js)(hlen:autoParam (js.length=N0.length) Η)
 (u_:∀(cl:List (Str×À)) (pm AH:Á) (c':À) (u:Á),im (xQ "<lambda>" (gE x) params body scope cl pm (.ref c') AH) ⟨[u],[]⟩=pure [(px,u)]:=by intros;rfl)
 (hk:autoParam (scope.kind=.function) Η)(hcell:autoParam (∀y∈scope.names,y.2≠.cell) Κ)(KE:autoParam (scope.names.lookup px=Α .local) Η)(Rh:autoParam (scope.isCoroutine=Ε) Η)(Hi:autoParam (scope.isGenerator=Ε) Η)
 (hfree:autoParam (∀y∈scope.names,y.2=.free->(sc.names.lookup y.1=Α .cell\/sc.names.lookup y.1=Α .free)) Κ)(Hh:autoParam (defaultsOf params X.env=([],[])) Η)
 (fJ:autoParam (Î [e] X.env=[(Ε,eval e X.env)]) Θ)(bZ:autoParam ((ü pos<|Î [e] X.env).any (·.1)=Ε) Ζ):
 PE X (.Call (.Name "min" p) [e] [⟨Α "key",.Lambda params body scope FD,BH⟩,⟨Α "default",.Constant .none dj N2,GA⟩] pos) (tV ∅ E<|GD js me mr):=λÅ s m H Q I h=>
 GB N0 js sc rX hcalm hr.depth hx ht wF hq hg hm ha (λcl f c' s H=>he cl f c' s H (hr.in1.deeper _) (hr.in1.deeper _).units) hcap hlen u_ hk hcell KE Rh Hi hfree Hh fJ bZ Å s m H Q I (by
  obtain⟨cc,F,n,rel,h⟩:=h;refine⟨cc,F,n,rel,h.bind λps d vs F1 H1 Û s1 s2 q h1=>?_⟩;split at h1
  rotate_left
  ·exact h1.elim
  rename_i items;split at h1
  rotate_left
  ·exact h1.elim
  rename_i kl AI;obtain⟨kl1,kl2⟩:=wj AI;cases hb:qc items kl with
  |none=>rw[hb]at h1;exact h1.elim|some b=>
   rw[hb]at h1;have q':=q;obtain⟨l,xs,rfl,hs,hr⟩:∃l xs,vs=[.ref l]/\ż X.K H1 l xs/\ç ∅ F1 items xs:=by
    cases q' with
    |cons a b=>
     cases b;rcases a with a|a
     ·unfold Ē at a;obtain⟨l,xs,rfl,e1,e2⟩:=a;exact⟨l,xs,rfl,Û.sub.seq e1,e2⟩
     ·obtain⟨l,xs,rfl,e1,e2⟩:=a;exact⟨l,xs,rfl,ż.of e1,e2⟩
   have len:=hr.length;refine⟨l,xs,rfl,hs,λc q H2 sm hc nw=>⟨λk=>kl.getD k 0,λw H=>∃F',Gr F1 H2 F' H,⟨F1,Gr.refl<|Û.sub.trans sm⟩,λk H ⟨F',g⟩=>g.h,λk v H hv ⟨F',g⟩=>?_,λi v H hv wJ ⟨F',g⟩=>?_,λhx H ⟨F',g⟩=>?_⟩⟩
   ·have Ě:=Û.call ⟨sm,Ù.refl _,Û.sub.trans sm,λw w z=>z⟩;have hki:k<items.length:=by rw[len];exact(bz.mp hv).1
    obtain⟨o,hme⟩:=kl2 k items[k] (Ĩ hki);obtain⟨v',BG,rv⟩:=cq hr.pr<|Ĩ hki;rw[hv]at BG;cases BG;refine⟨cu F' H,F',vC js d items[k],(Ě.call g).lam js (Ē.same g.f _ _ rv),?_⟩;rw[hme];intro y F2 H3 g_ _ _ ry;have ry':=ry;exact⟨ry',F2,g.trans g_.gr⟩
   ·have Ě:=Û.call ⟨sm,Ù.refl _,Û.sub.trans sm,λw w z=>z⟩;have hii:i<items.length:=by rw[len];exact(bz.mp hv).1
    refine BL λZ=>?_;obtain⟨v',BG,rv⟩:=cq hr.pr<|Ĩ hii;refine Z ?_;rw[hv]at BG;cases BG;have eb:=yF kl1 (GC (by lia) hb) (Ĩ hii) (λj hj=>wJ j (by rw[<-len];exact hj));subst eb;exact h1 v F' H (Ě.call g) g.f (sm.trans g.h)<|Ē.same g.f _ _ rv
   ·have Ě:=Û.call ⟨sm,Ù.refl _,Û.sub.trans sm,λw w z=>z⟩;have Rv:=oO.mp (by rw[len,hx];rfl);subst Rv;cases(show Α PV.non=Α b from hb);exact h1 .non F' H (Ě.call g) g.f (sm.trans g.h) (show Ē ∅ F' .non .non by unfold Ē;rfl))
end
end P
namespace PySem
namespace F
def GF:typeLookup (.type "list_reverseiterator") "__len__"=pure Β:=by rw[typeLookup_type,builtinLookup_eq_fast];kernel_rfl
def Jc:typeLookup (.type "list_reverseiterator") "__length_hint__"=pure (Α<|.builtin "list_reverseiterator.__length_hint__"):=by kernel_rfl
end F
section
variable{prog:ï}{w:ã}{A:ì}{E:Á->Ä->Prop}{s:Ä}
def vw{Q:Á->Ä->Prop}{I l:À}{items:Array Á}(hh:A.handled=Β)(li:s.heap.IsRevIter I l ((items.size:Int)-1))(hl:s.heap.IsList l items)(h_:l≠I)(hn:items.size<=sizeLine)
 (hQ:∀h' tk fB c',(∀b o,b≠I→s.heap.get? b=Α o→h'.get? b=Α o)→
   h'.get? s.heap.objs.size=Α {cls:=.type "list",dict:=Β,data:=.seq fB c',slots:=#[]}->ItemsOf (λi v=>items[items.size-1-i]?=Α v) fB items.size->Q (.ref s.heap.objs.size) {s with heap:=h',toks:=tk}):
 Ð (Ú prog w) A (call (.type "list") [.ref I]) Q E s:=by
 refine callType_codes (Q₁:=λobj s₁=>obj=.ref s.heap.objs.size/\s₁={s with heap:=s.heap.push {cls:=.type "list",data:=.seq #[]}}) F.called_list (F.typeCall_list_1 _) F.entry_list_init
  (code_list_new _ ⟨rfl,rfl⟩) λobj s₁ h₁=>?_
 obtain⟨rfl,rfl⟩:=h₁;generalize N1:s.heap.objs.size=S at hQ⊢;have hS:(s.heap.push {cls:=.type "list",data:=.seq #[]}).get? S=Α {cls:=.type "list",data:=.seq #[]}:=by rw[<-N1];exact ĵ _ rfl
 have RF:I<S:=by obtain⟨_,e,_⟩:=li;rw[<-N1];exact ö e
 have Wj:l<S:=by obtain⟨_,e,_⟩:=hl;rw[<-N1];exact ö e
 refine⟨⟨_,hS,rfl⟩,F.args_list_init_2 _ _,?_⟩;show Ð _ _ (do let oy<-Cg (.ref S);Builtin.List.listUpdate (.ref S) (λx=> #[]);letGo oy.toList.reverse;xw (.ref S) (.ref I) .none) _ _ _;refine à ?_;unfold Cg;refine à<|sQ hS rfl<|ď ?_;show Ð _ _ (updateSeq S (λx=> #[])>>=λx=>letGo (#[]:Array Á).toList.reverse>>=λx=>xw (.ref S) (.ref I) .none) _ _ _;refine à<|sR hS rfl ?_;have Zau:=Heap.get?_update_self (fZ<|λx=>(#[]:Array Á)) hS rfl;have YF:∀b o,s.heap.get? b=Α o->((s.heap.push {cls:=.type "list",data:=.seq #[]}).update S (fZ<|λx=>(#[]:Array Á))).get? b=Α o:=
  λb o e=>(Cw _ _ (by rw[<-N1];exact(Ĕ<|ö e).symm)).trans (Ć _ e)
 refine à<|mM ?_;have W:=(Walks.listRev (prog:=prog) (w:=w) (A:=A.in1.in1) hh I l h_ items).toS;have e0:(items.size:Int)-1-((0:Nat):Int)=(items.size:Int)-1:=by lia
 have EE:=li.at λo e=>YF I o e;have Zav:=hl.at λo e=>YF l o e;have h1:Cj (.ref S) (.ref I)=Ε:=by simp[Cj,(Ĕ RF).symm]
 unfold xw;refine à<|wpAny_typeOf (T:="list_reverseiterator") EE.typeIs ?_;rw[if_neg (by rw[h1];decide)];refine à<|xu EE ?_;refine à<|iw ?_;unfold Builtin.List.listLengthHint;refine à<|wpAny_specialOf EE.typeIs F.GF ?_;show Ð _ _ (specialOf (Ϯ I) (È "__length_hint__")>>=_) _ _ _;refine à (wpAny_specialOf EE.typeIs F.Jc ?_)
 (generalize YG:("list_reverseiterator.__length_hint__":String)=id0;wp_delta;rw[show splitId id0=Α ("list_reverseiterator","__length_hint__")from by subst YG;decide+kernel];subst YG)
 refine à (wpAny_isInstance (T:="list_reverseiterator") (b:=Δ) EE.typeIs (by rw[isSubtype_type];kernel_rfl) ?_);refine ď ?_;refine ď ⟨pd F.plain_extend_loop _,codeAny_extend_loopS W hn S (by simp[(Ĕ RF).symm,(Ĕ Wj).symm]) .none items.size 0 _ #[] _ rfl (bB _) ⟨bB _,by rw[e0];exact EE,Zav⟩ Zau (ItemsOf.nil _) λs' fB c' hm YC YH=>?_⟩;rw[Moved.eq_with hm];refine⟨rfl,hQ s'.heap s'.toks fB c' (λb o hb e=>hm.heap b o (λhmem=>?_)<|YF b o e) YC YH⟩;rcases ù.mp hmem with e'|hmem
 ·exact absurd (e'.trans N1.symm)<|Ĕ<|ö e
 ·exact hb (by simpa using hmem)
end
end PySem
namespace P
open PySem PySem.Spec PyProof.Rows L2 M2 M3 M4
noncomputable def Wk(K:Ï)(a:À)(n:Nat):It:=
 ⟨λi H=>∃b x,ż K H a b/\b.length=n/\i<n/\b[n-1-i]?=Α x,λi H x d=>d=H/\∀b,ż K H a b->b[n-1-i]?=Α x,λi H=>i=n/\∃b,ż K H a b⟩
def GG{K:Ï}(a it:À)(n:Nat):Au P w K tg (Wk K a n) [it] it (λi h=>h.IsRevIter it a<|(n:Int)-1-(i:Int)) where
 mem:=by simp
 obj:=λi h l b m=>by
  have e:b=it:=by simpa using m
  subst e;obtain⟨o,e,c,d⟩:=l;exact⟨o,e,λv z=>by rw[d]at z;cases z⟩
 keep:=λi h h' l k=>l.at λo e=>k it (by simp) o e
 item:=by
  intro X hP hw hK hc i U s f H E I A l C;subst hP hw hK;refine BL λZ=>?_;obtain⟨xs,x,B,hn,hi,hx⟩:=C;obtain⟨ę,rv,p,hz⟩:=I.list B;obtain⟨u,hu,ru⟩:=rv.get hx;obtain⟨N,L,f2,J,G,D⟩:=A it (by simp);refine Z ?_;have O:(n:Int)-1-(i:Int)=((n-1-i:Nat):Int):=by lia
  have y:=l;rw[O]at y;refine wpAny_pyNext_rev_item y p.isList (x:=u) (by simpa using hu) λh' Q sb=>?_;have e2:((n-1-i:Nat):Int)-1=(n:Int)-1-((i+1:Nat):Int):=by lia
  rw[e2]at Q;have I1:Inv X U f H {s with heap:=h'}:=I.turned (t':=s.toks) (λb o m e=>(sb.2 b m).trans e) N L J G D;obtain⟨o,e,c,d⟩:=id Q;exact⟨u,rfl,zq (s:={s with heap:=h'}) e c d (by decide) ⟨x,H,I1,ru,⟨rfl,λys hy=>by rw[I.lj hy B];exact hx⟩,Q,λb m=>(A b m).1⟩⟩
 done:=by
  intro X hP hw hK hc i U s f H E I A l C;refine BL λY=>?_;obtain⟨hi,xs,B⟩:=C;obtain⟨N,L,f2,J,G,D⟩:=A it (by simp);refine Y ?_;have O:(n:Int)-1-(i:Int)= -1:=by lia
  have y:=l;rw[O]at y;exact wpAny_pyNext_rev_end (I.ok.hd hc) y λh' eb=>⟨rfl,I.turned (t':=s.toks) (λb o m e=>eb b o m e) N L J G D⟩
 self:=λv v v v v l h=>xu l h
section
variable{X:Cx}{cm:String->À}{E:ă->XK}{tg e l:Ç}{p pos p1 NY:Pos}
def Wl(K:Ï)(h:TA):TI:=λb H R=>h b H λvs f=>∃a d,vs=[.ref a]/\ż K f a d/\R (Wk K a d.length) f
def MQ{v:TA}(O:Gl X "reversed")(N:X.mg "reversed"=Β)(U:PA X [l] v)(K:autoParam (Î [l] X.env=[(Ε,eval l X.env)]) Θ):PI X tg (.Call (.Name "reversed" p) [l] [] pos) (Wl X.K v):=by
 intro t s c H R I h;refine Call_<|iX I O N boot_reversed<|jP (Ż (U pos t s c H _ I h) λus s1 A=>?_) K rfl;refine BL λZ=>?_;obtain⟨vs,z,i,D,G⟩:=A;obtain⟨a,m,e,L,q⟩:=G;subst e;obtain⟨u,rfl,C⟩:=D.one;cases C;obtain⟨k,B,J,hz⟩:=i.list L;refine Z ?_;have g:k.toArray.size=m.length:=by rw[Ł,<-B.length]
 refine call_reversed_list J.isList ?_;have W:Inv X t c z {s1 with heap:=s1.heap.push (revObj a<|k.toArray.size-1)}:=i.kept λb o e=>Ć _ e;have w:(s1.heap.push<|revObj a<|k.toArray.size-1).IsRevIter s1.heap.objs.size a (m.length-1-(0:Int)):=⟨_,ĵ _ rfl,rfl,by rw[g];simp[revObj]⟩;refine xu w ⟨s1.heap.objs.size,[s1.heap.objs.size],_,_,z,rfl,W,GG a _ m.length,w,λb Q=>?_,q⟩;have e:=by simpa using Q
 subst e;exact i.rN (õ _)<|i.hok.fresh<|õ _
@[simp]def GH(m:M (List PV))(b:ć):Ĳ (List PV):=(m b).bind λps a=>.ok ps.reverse a
def GI{K:KK}{L F H:Hp}{a:À}{ps:List PV}{xs:List V}(hn:ps.length=xs.length)(hq:∀(c:Ctx) (F2 H2:Hp) (b:ă) (d:ć),ē K c F2 H2 b d->Ù F F2->Ù L H2->ż K.K H2 a xs/\ç K F2 ps xs):lz K L F (Wk K.K a xs.length) ps.reverse:=by
 intro c i F2 H2 b d rel sF sL;obtain⟨h1,h2⟩:=hq c F2 H2 b d rel sF sL;refine⟨λp hp=>?_,λhi=>⟨by rw[hi,BS,hn],xs,h1⟩⟩;have hi:=by have:=(bz.mp hp).1;simpa using this
 rw[BU hi]at hp;obtain⟨u,hu,ru⟩:=cq h2.pr hp;rw[hn]at hu;refine⟨⟨xs,u,h1,rfl,by lia,hu⟩,λx H' zz=>?_⟩;obtain⟨hH,hx⟩:=zz;subst hH;have:=hx xs h1;rw[hu]at this;cases this;exact⟨F2,rel,Ù.refl _,Ù.refl _,ru⟩
def P4{m:M PV}(hg:Gl X "reversed")(hm:X.mg "reversed"=Β)(hl:PE X l (tV ∅ E m))(hs:autoParam (Î [l] X.env=[(Ε,eval l X.env)]) Θ):PI X tg (.Call (.Name "reversed" p) [l] [] pos) (tI ∅ E<|GH<|Ef m):=
 λÅ s b H R I h=>MQ hg hm (ŧ hl aZ hs) hs Å s b H R I (by
  obtain⟨c,F,d,rel,h⟩:=h;unfold GH Ef at h;rw[Ĳ.Ek]at h;refine⟨c,F,d,rel,h.bind λq f v F1 H1 Û s1 s2 r1 h1=>?_⟩;cases q with
  |lst ps=>have k_:=r1;obtain⟨a,xs,rfl,e1,e2⟩:=k_;exact⟨a,xs,rfl,Û.sub.seq e1,h1 _ F1 H1 Û Č Č<|GI (H:=H1) e2.length λc' F2 H2 g i Ě sF x=>⟨(sF.trans Ě.sub).seq e1,ç.same sF _ _ e2⟩⟩
  |_=>exact h1.elim)
@[simp]def Kg(m:M PV)(b:ć):Ĳ RV:=(m b).bind fun p a=>match p with
  |.lst c=>.ok (.ow c.reverse) a|_=>.bad
theorem zZ:∀{xs:List V}{a:List Á},Ő xs a->Ő xs.reverse a.reverse
 |_,_,.nil=>.nil|_,_,.cons r t=>by rw[mz,mz];exact(zZ t).append (.cons r .nil)
def P5(K:Ï)(h:TA):TE:=λb H Q=>h b H λvs c=>∃a f,vs=[.ref a]/\ż K c a f/\∀l,c l=Β->Q (.ref l) (upd c l<|.lst f.reverse)
def Jd{ta:TA}(hc:X.calm=Δ)(YI:Gl X "list")(YJ:X.mg "list"=Β)(hg:Gl X "reversed")(hm:X.mg "reversed"=Β)(ha:PA X [l] ta)(hs:Î [l] X.env=[(Ε,eval l X.env)]):
 PE X (.Call (.Name "list" p1) [.Call (.Name "reversed" p) [l] [] pos] [] NY) (P5 X.K ta):=by
 intro Å s c H Q I h;refine Call_<|iX I YI YJ PySem.Pv.boot_list<|jP ?_ rfl rfl;refine sU ?_;refine Call_<|iX I hg hm boot_reversed<|jP (Ż (ha pos Å s c H _ I h) λus s1 zz=>?_) hs rfl;refine BL λZ=>?_;obtain⟨vs,H1,I1,r1,q1⟩:=zz;obtain⟨a,xs,e,hq,q⟩:=q1;subst e;obtain⟨u,rfl,ru⟩:=r1.one;cases ru;obtain⟨ę,rv,pl,hz⟩:=I1.list hq;obtain⟨oa,hoa,_⟩:=id pl.isList;refine Z ?_;refine call_reversed_list pl.isList<|xz ?_;have lh:ę.toArray.size<=sizeLine:=by rw[Ł,<-rv.length];exact hz
 have hS:(s1.heap.push<|revObj a<|(ę.toArray.size:Int)-1).objs.size=s1.heap.objs.size+1:=size_push' ..;refine vw (I:=s1.heap.objs.size) (l:=a) (items:=ę.toArray) (I1.ok.hd hc) ⟨_,ĵ _ rfl,rfl,rfl⟩ (pl.isList.at λo e=>Ć _ e) (Ĕ<|ö hoa) lh λh' tk fB c' hk hD hI=>?_;have ea:fB.toList=ę.reverse:=by
  refine List.ext_getElem? λi=>?_;by_cases hi:i<ę.length
  ·have KH:i<fB.size:=by rw[hI.1];simpa using hi
   have e1:=hI.2 i fB[i] (Array.getElem?_eq_getElem KH);rw[BU hi];have e2:ę[ę.length-1-i]?=Α fB[i]:=by simpa using e1
   rw[e2];simp[KH]
  ·rw[wR (by have:=hI.1;simp at this⊢;lia),wR (by simp;lia)]
 refine⟨.ref _,_,I1.laid (a:=(s1.heap.push<|revObj a<|(ę.toArray.size:Int)-1).objs.size) (t':=tk) (λb o e=>hk b o (Ĕ<|ö e)<|Ć _ e) (by rw[hS];exact mF _) (show fC X.prog X.w _ h' _ (.lst xs.reverse)from⟨by rw[BS];exact hz,fB.toList,c',?_,by simpa using hD⟩),rfl,q _<|I1.hok.fresh (by rw[hS];exact mF _)⟩;rw[ea];exact zZ rv
def MS{m:M PV}(hc:X.calm=Δ)(YI:Gl X "list")(YJ:X.mg "list"=Β)(hg:Gl X "reversed")(hm:X.mg "reversed"=Β)(hl:PE X l (tR ∅ E m))(hs:autoParam (Î [l] X.env=[(Ε,eval l X.env)]) Θ):
 PE X (.Call (.Name "list" p1) [.Call (.Name "reversed" p) [l] [] pos] [] NY) (tO ∅ E<|Kg m):=
 PE.wk (Jd hc YI YJ hg hm (ŧ hl aZ hs) hs) fun f H Q ⟨c,F,b,rel,h⟩=>⟨c,F,b,rel,h.bind fun q d v F1 H1 Û s1 s2 r1 h1=>by
   cases q with
   |lst ps=>have r0:=r1;obtain⟨a,xs,rfl,q1,q2⟩:=r0.lst Û.sub;refine⟨a,xs,rfl,q1,λl hl=>?_⟩;obtain⟨k1,k2⟩:=gH Û hl<|ç.of<|FF q2.pr;exact h1 _ _ _ k1 Č (Ù.upd hl) k2
   |_=>exact h1.elim⟩
end
mutual
def oj(K:Ï):PV->Á->Bool
 |.int i,v=>match v with
   |.int j _=>decide<|i=j|_=>Ε
 |.tup ps,v=>match v with
   |.ref a=>match K.lookup a with
     |some o=>(match o.cls with
      |.type t=>decide<|t="tuple"|_=>Ε)&&match o.data with
      |.seq ę _=>decide (ę.size<=16777216)&&GJ K ps ę.toList|_=>Ε
     |none=>Ε
   |_=>Ε
 |_,_=>Ε
def GJ(K:Ï):List PV->List Á->Bool
 |[],vs=>vs.isEmpty|p::ps,vs=>match vs with
  |v::r=>oj K p v&&GJ K ps r|[]=>Ε
end
set_option tactic.hygienic true
mutual
theorem Du{K:KK}:∀(p:PV) (v:Á),oj K.K p v=Δ->∃x,RelV x v/\∀F,Ē K F p x
 |.int i,v,h=>by
   unfold oj at h;split at h
   ·rename_i j t;have:=of_decide_eq_true h;subst this;exact⟨.int i,⟨t,rfl⟩,λF=>by unfold Ē;rfl⟩
   ·cases h
 |.tup ps,v,h=>by
   unfold oj at h;split at h
   ·rename_i a;split at h
    ·rename_i o ho;rw[þ]at h;obtain⟨h1,h2⟩:=h;split at h1
     ·rename_i t ht;have et:=of_decide_eq_true h1;subst et;split at h2
      ·rename_i ę n hd;rw[þ]at h2;obtain⟨xs,h3,h4⟩:=z_ ps ę.toList h2.2;refine⟨.ref a,rfl,λF=>?_⟩;unfold Ē;exact⟨a,xs,rfl,.inr ⟨o,ę,n,ho,ht,hd,by rw[ġ];exact of_decide_eq_true h2.1,h3⟩,h4 F⟩
      ·cases h2
     ·cases h1
    ·cases h
   ·cases h
 |.non,_,h=>by unfold oj at h;cases h|.bl _,_,h=>by unfold oj at h;cases h|.str _,_,h=>by unfold oj at h;cases h|.lst _,_,h=>by unfold oj at h;cases h|.ins _ _ _,_,h=>by unfold oj at h;cases h|.xc _ _ _,_,h=>by unfold oj at h;cases h|.ty _,_,h=>by unfold oj at h;cases h|.cls _,_,h=>by unfold oj at h;cases h
theorem z_{K:KK}:∀(ps:List PV) (vs:List Á),GJ K.K ps vs=Δ->∃xs,Ő xs vs/\∀F,ç K F ps xs
 |[],vs,h=>by
   unfold GJ at h;cases vs with
   |nil=>exact⟨[],.nil,λF=>ç.nil⟩
   |cons _ _=>cases h
 |p::ps,vs,h=>by
  unfold GJ at h;cases vs with
  |nil=>cases h|cons v r=>rw[þ]at h;obtain⟨x,h1,h2⟩:=Du p v h.1;obtain⟨xs,h3,h4⟩:=z_ ps r h.2;exact⟨x::xs,.cons h1 h3,λF=>ç.cons (h2 F)<|h4 F⟩
end
set_option tactic.hygienic false
def Je{K:KK}(h:oj K.K p (.ref a)=Δ)(F:Hp):Ē K F p (.ref a):=by
 obtain⟨x,c,g⟩:=Du p _ h;cases x with
 |ref b=>have e:=c;cases e;exact g F|non=>cases(show Ϯ a=Value.none from c)|bl b=>cases(show Ϯ a=bI b from c)|int i=>obtain⟨t,e⟩:=(show ∃t,Ϯ a=pj i t from c);cases e|str i=>obtain⟨t,e⟩:=(show ∃t,Ϯ a=mS i t from c);cases e|ty n=>cases(show Ϯ a=s_ n from c)|HI i=>obtain⟨t,e⟩:=(show ∃t,Ϯ a=xH i t from c);cases e|flt i=>obtain⟨t,e⟩:=(show ∃t,Ϯ a=xI i t from c);cases e
section
variable{α:Type}{RI:Oa α}{X:Cx}{cm:String->À}{E:ă->XK}{elt tg iter:Ç}{ifs:List Ç}{scope:û}{pos:Pos}{mi:M (List α)}{g:α->ć->Option ć}{mt:M Bool}{me:M PV}
def Eo(h:tO ∅ E (Ģ js nl mi g mt me) a H Q):vN js nl (tG ∅ E (Iz ∅ RI) mi) (R8 ∅ RI g) (tB ∅ EF mt) (tV ∅ EF me) a H Q:=vT (λh=>h) h
def Dx(N':List Str)(js:List Nat)(nl:Nat)(sc:û)(rX:X.env.scope=sc)(hcalm:X.calm=Δ)
 (hi:PI X.ar tg iter (tG ∅ E (Iz ∅ RI) mi))(hg:∀cl C s H fp,PG (km X.ar N' scope cl C s H fp) tg<|R8 ∅ RI g)(ht:∀cl C s H fp,CP (km X.ar N' scope cl C s H fp) ifs<|tB ∅ EF mt)(he:∀cl C s H fp,PE (km X.ar N' scope cl C s H fp) elt<|tV ∅ EF me)
 (hcap:gG X.ar sc scope N' js)(hlen:autoParam (js.length+nl=N'.length) Η)
 (hk:autoParam (scope.kind=.function) Η)(hcell:autoParam (∀y∈scope.names,y.2=.cell->scope.names.lookup y.1=Α .cell) Κ)(hnames:autoParam (∀y∈scope.names,y.2=.local->scope.names.lookup y.1=Α .local) Κ)
 (hfree:autoParam (∀y∈scope.names,y.2=.free->(sc.names.lookup y.1=Α .cell\/sc.names.lookup y.1=Α .free)) Κ)
 (hs:autoParam (∀x,de iter X.env x=pure x) Ν):
 PE X (.ListComp elt [⟨tg,iter,ifs,0⟩] scope pos) (tO ∅ E<|Ģ js nl mi g mt me):=
 PE.wk (PE.ar<|CQ N' js nl sc rX hcalm hi hg ht he hcap hlen hk hcell hnames hfree hs) λz z z h=>Eo h
end
def P6(K:KK):Oa (List PV×List PV):=λc F d v=>∃t a b e,v=.ref t/\F t=Α (.tup<|a++[.ref b])/\ç K F d.1 a/\c.L b=Α (.lst e)/\ç K F d.2 e
noncomputable def qQ(i:Nat):M (List<|List PV×List PV):=λρ=>match ρ[i]?with
 |some (.dw c)=>.ok c ρ|_=>.bad
section
variable{X:Cx}{cm:String->À}{E:ă->XK}{tg:Ç}
def P7(i:Nat){x:Str}{K:Pos}(Z:autoParam (EK X i x=Δ) Ζ):PI X tg (.Name x K) (tG ∅ E (Iz ∅<|P6<|kk X cm)<|qQ i):=λÅ s f H R I h=>by
 refine BL λM=>?_;obtain⟨c,F,g,rel,h⟩:=h;refine M ?_;unfold qQ at h;cases e:g[i]?with
 |none=>rw[e]at h;exact h.elim|some D=>
  rw[e]at h;cases D with
  |dw gY=>
   obtain⟨a,u,h1,y,w⟩:=rel.slot i _ e;refine A6 (pE Z) Å s f H R I ⟨.ref a,Ŀ h1,.inl ⟨a,rfl,⟨_,ż.of (rel.lent a _ y).1⟩,h _ F H rel Č Č ?_⟩⟩;intro c' j F2 H2 k l B m J G;have n:ż X.K H2 a (u.map V.ref):=ż.of<|J a _<|FS rel y;refine⟨λd Y=>?_,λhi=>⟨_,n,by rw[hi,ģ,Paired.length w];exact õ _⟩⟩;refine BL λA=>?_;obtain⟨t,W,q,b,r,Q,O,N,L⟩:=CV w Y;refine A ?_;have v:(u.map V.ref)[j]?=Α (.ref t):=by rw[œ,W];rfl
   refine⟨⟨_,.ref t,n,v⟩,λx H' C=>?_⟩;obtain⟨hH,U⟩:=C;subst hH;have:=U _ n;rw[v]at this;cases this;exact⟨F2,B,Ù.refl _,Ù.refl _,t,q,b,r,rfl,m _ _ Q,O.same m d.1 q,G _ _<|FS rel N,L.same m d.2 r⟩
  |_=>exact h.elim
noncomputable def gD(i j k:Nat):(List PV×List PV)->ć->Option ć:=λd a=>match d with
 |([p,q],c)=>Α<|((a.set i<|.sh p).set j (.sh q)).set k (.bw c)|_=>Β
def P8{i j k:Nat}{x y z:Str}{C py B pos:Pos}{n:Nat}(Y:X.calm=Δ)(g:X.N.Nodup)(W:X.N[i]?=Α x)(U:X.N[j]?=Α y)(R:X.N[k]?=Α z)(N:Loc X.env.scope x)(L:Loc X.env.scope y)(K:Loc X.env.scope z)
 (fx:autoParam (X.fn x=Δ\/X.env.scope.names.lookup x=Α .local) Φ)(fy:autoParam (X.fn y=Δ\/X.env.scope.names.lookup y=Α .local) Φ)(fz:autoParam (X.fn z=Δ\/X.env.scope.names.lookup z=Α .local) Φ):
 PG X (.Tuple [.Name x C,.Name y py,.Name z B] n pos) (R8 ∅ (P6<|kk X cm)<|gD i j k):=
 PG.U5 (xX Y (jd (mW g W N fx) (jd (mW g U L fy) (jd (mW g R K fz) xW rfl) rfl) rfl) rfl rfl)<|by
   rintro v a H Q ⟨c,F,e,d,rel,⟨t,xs,b,m,O,J,f,I,G⟩,h⟩;subst O;obtain⟨D,qs⟩:=d;rcases D with _|⟨p,_|⟨q,_|⟨_,_⟩⟩⟩
   ·exact h.elim
   ·exact h.elim
   ·skip
    refine BL λV=>?_;obtain⟨u,r,rfl,A,f⟩:=f;obtain⟨w,r',rfl,o,f⟩:=f;refine V ?_;subst f;refine⟨t,_,rfl,jH.of<|rel.sub _ _ J,rfl,u,_,rfl,w,_,rfl,.ref b,_,rfl,rfl,?_⟩;have e1:=rel.put (i:=i) (s:=.sh p) rfl ⟨u,rfl,A⟩;have Z:=e1.put (i:=j) (s:=.sh q) rfl ⟨w,rfl,o⟩;exact h _<|Z.put rfl ⟨b,m,rfl,I,G⟩
   ·exact h.elim
end
open M5
def tMk(X:Cx)(e:String->À)(E:ă->XK)(n:Nat)(C:String)(i:MI)(h:TA):TE:=λa H Q=>h a H λvs c=>∀x b,c x=Β->c b=Β->b≠x->IJ (kk X e) n C i (.ref x::vs) (upd (upd c b<|.own x) x<|.ins (e C) b []) (λv j=>v=.non/\Q (.ref x) j) (E a)
section
variable{X:Cx}{cm:String->À}{E:ă->XK}{e:Ç}{es:List Ç}{pos p:Pos}{CX:gX}{k n:Nat}{f:À}{fd:ą}{ps:List Str}{C:String}{mi:MI}{x:Str}
def P9{c:TA}(M:Mk X.K (cm C) f)(F:Ϲ X.prog X.w X.K X.mg X.base CX k f fd ps (IJ ∅ n C mi))(m:Ń (k+1) X.A)(t:Gl X x)(o:X.mg x=Α (.ref<|cm C))(u:Binds X.K fd ps [])(l:ϝ CX X E)
 (v:PA X (e::es) c)(j:autoParam ((x==("__debug__":Str))=Ε) Ζ)(he:autoParam (Î (e::es) X.env=(Ε,eval e X.env)::Î es X.env) Θ)(w:autoParam ((ü pos<|Î es X.env).any (·.1)=Ε) Ζ):
 PE X (.Call (.Name x p) (e::es) [] pos) (tMk X cm E n C mi c):=by
 intro i s a H Q I h;refine io<|pF I t o ?_ j;refine kc I.ok.mod.EU M.kp (Ż (v pos i s a H _ I h) λus s1 ⟨vs,H1,g,r,q⟩=>⟨g.vk,?_⟩) he w;exact vW M F m u l g r q
end
noncomputable def S0(r:PV):Slot:=.dw [([.str "ab",.int 3],[r,.non]),([.str "a",.int 1],[.non])]
def jp(k:s.own=Ε)(h:jg F b c a):jg F (b.set i x) (c.set i s) a:=λj q=>by
 have l:j≠i:=λz=>by
  subst z;obtain⟨s',y,g,_,f⟩:=q;rcases ϛ g with⟨_,rfl,_⟩|⟨q,_⟩
  ·have:=lv f;rw[k]at this;cases this
  ·exact q rfl
 exact h j<|q.off l
noncomputable def Jf(i:Nat)(ρ:ć):Bool:=match ρ[i]?with
 |some (.dw _)=>Δ|_=>Ε
noncomputable def Qa(b:ć->Bool)(f e:M RV):M RV:=λρ=>if b ρ=Δ then f ρ else e ρ
def Wm(b:ć->Bool)(m:PE X e (tO (kk X g) E k))(l:PE X e (tO (kk X g) E j)):PE X e (tO (kk X g) E<|Qa b k j):=by
 rintro f s a H Q I ⟨c,F,d,rel,h⟩;unfold Qa at h;split at h
 ·exact m f s a H Q I ⟨c,F,d,rel,h⟩
 ·exact l f s a H Q I ⟨c,F,d,rel,h⟩
inductive WR where
 |t (i:Nat) (p:PV)|d (i:Nat) (ps:List PV)|l (i:Nat) (p:PV)
def WR.ix:WR->Nat
 |.t i _=>i|.d i _=>i|.l i _=>i
noncomputable def WR.to(j:Nat):WR->WR
 |.t _ p=>.t j p|.d _ a=>.d j a|.l _ p=>.l j p
noncomputable def qE(σ:ă)(i:Nat):Option V:=(σ[i]?).getD Β
def Aa(K:KK)(L B e h:Hp)(o:Option V)(i:Hp):WR->Prop
 |.t _ p=>∃a c v,o=Α (.ref a)/\L a=Α (.lst c)/\Ē K e p v/\c.length<sizeLine/\i=upd h a (.lst<|c++[v])|.d _ j=>∃a g t f b,o=Α (.ref a)/\L a=Α (.lst g)/\e t=Α (.tup<|f++[.ref b])/\ç K e j f/\h b=Α (.lst [])/\e b=Β/\B b=Β/\i=upd h a (.lst<|g++[.ref t])|.l _ p=>∃a g t f b c v,o=Α (.ref a)/\L a=Α (.lst<|g++[.ref t])/\e t=Α (.tup<|f++[.ref b])/\L b=Α (.lst c)/\Ē K e p v/\i=upd h b (.lst<|c++[v])
theorem Aa.to{K:KK}(h:Aa K L B c b o a w):Aa K L B c b o a (w.to j):=by cases w<;>exact h
def Kh{w:WR}:(w.to j).ix=j:=by cases w<;>rfl
def lI(K:KK)(E:ă->XK)(c:Ctx)(F:Hp)(e:ă)(n:Nat)(D:Ends):Ĳ WR->Prop
 |.ok w b=>∀a f g h,ē K c f g a b->Ù F f->(∀i,i<n->qE a i=qE e i)->Aa K c.L c.B f g (qE a w.ix) h w->D.nx a h|.exc x b=>∀a C d f g,ē K c f g a b->Ù F f->yo K f x C d->E a C d g|.bad=>False
def tW(K:KK)(E:ă->XK)(n:Nat)(m:M WR):TS:=λD a H=>∃c F b,ē K c F H a b/\lI K E c F a n D (m b)
section
variable{K:KK}{E:ă->XK}{c:Ctx}{F F1:Hp}{σ:ă}{n:Nat}{D:Ends}
def lI.mono{r:Ĳ WR}(h:lI K E c F σ n D r)(sF:Ù F F1):lI K E c F1 σ n D r:=by
 cases r with
 |ok w b=>exact λa F' H' H2 rel s1 e q=>h a F' H' H2 rel (sF.trans s1) e q
 |exc x b=>exact λa C d F' H' rel s1 q=>h a C d F' H' rel (sF.trans s1) q
 |bad=>exact h
theorem lI.bind{g l:Type}{R:RR g l}{Q:l->Hp->Prop}{r:Ĳ g}{f:g->ć->Ĳ WR}(h:lI K E c F σ n D (r.bind f))
 (k:∀p a v F1 e,ē K c F1 e σ a->Ù F F1->Ù H e->R c σ a F1 e p v->lI K E c F1 σ n D (f p a)->Q v e):ϰ K E R c F H σ Q r:=by
 cases r with
 |ok p b=>exact λv j i rel s1 s2 q=>k p b v j i rel s1 s2 q<|lI.mono (show lI K E c F σ n D (f p b)from h) s1
 |exc x b=>exact λC d j i rel s1 q=>h σ C d j i rel s1 q
 |bad=>exact h
end
section
variable{X:Cx}{cm:String->À}{E:ă->XK}{a e:Ç}{pos:Pos}{n:Nat}{mt:M Bool}{mo:M RV}{me:M PV}{mb:M Fl}{mr m1 m2:M WR}{ss rest KI:List æ}
@[simp]def uy(mt:M Bool)(mb:M Fl)(mr:M WR)(f:ć):Ĳ WR:=(mt f).bind fun b c=>if b=Δ then(match mb c with
  |.exc x d=>.exc x d|_=>.bad)else mr c
def tQ(t:PT X a (tB ∅ E mt))(u:b_ X ss (tS ∅ E mb))(s:b_ X rest (tW ∅ E n mr)):b_ X (.If a ss [] pos::rest) (tW ∅ E n<|uy mt mb mr):=
 b_.wk (gF (CG t u CD) s) λD j H ⟨c,F,i,rel,h⟩=>⟨c,F,i,rel,lI.bind h λb d v o H1 m s1 y q k=>by
  have e:=q;subst e;cases b with
  |true=>
   refine⟨c,o,d,m,?_⟩;cases l:mb d with
   |exc x g=>rw[l]at k;exact k|ok f g=>rw[l]at k;exact k.elim|bad=>rw[l]at k;exact k.elim
  |false=>exact⟨c,o,d,m,k⟩⟩
@[simp]def MT(mt:M Bool)(m1 m2:M WR)(d:ć):Ĳ WR:=(mt d).bind λb c=>if b=Δ then m1 c else m2 c
def Qb(hc:PT X a (tB ∅ E mt))(h1:b_ X ss (tW ∅ E n m1))(h2:b_ X KI (tW ∅ E n m2)):b_ X [.If a ss KI pos] (tW ∅ E n<|MT mt m1 m2):=
 b_.wk (kh<|CG hc h1 h2)<|by rintro D g H ⟨c,F,f,rel,h⟩;exact ⟨c,F,f,rel,lI.bind h λb d v F1 H1 Û s1 x q h1=>by
  have e:=q;subst e;cases b with
  |true=>rw[if_pos rfl]at h1⊢;exact⟨c,F1,d,Û,h1⟩|false=>rw[if_neg oC]at h1⊢;exact⟨c,F1,d,Û,h1⟩⟩
def tU(h:i≠j):qE (b.set j v) i=qE b i:=by unfold qE;rw[jK<|Ť h]
@[simp]def Ki(i:Nat)(mo:M RV)(mr:M WR)(c:ć):Ĳ WR:=(mo c).bind λr b=>mr<|b.set i r.slot
def lI.set{K:KK}(m:∀i,i<n->qE b i=qE g i)(h:lI K E c F g n D r):lI K E c F b n D r:=by
 cases r with
 |ok w d=>exact λf u t s rel s1 e q=>h f u t s rel s1 (λi j=>(e i j).trans (m i j)) q
 |exc x d=>exact h|bad=>exact h
def Qc{i:Nat}{x:Str}{O:Pos}(hN:X.N.Nodup)(hi:X.N[i]?=Α x)(Z:Loc X.env.scope x)(he:PE X e (tO ∅ E mo))(hr:b_ X rest (tW ∅ E n mr))(hn:autoParam (n<=i) Ι)(hs:autoParam (ť e (Α<|.Name x O) pos.line X.env=pure Ε) Ζ)(hf:autoParam (X.fn x=Δ\/X.env.scope.names.lookup x=Α .local) Μ):
 b_ X (.Assign [.Name x O] e pos::rest) (tW ∅ E n<|Ki i mo mr):=b_.wk (gF (ub hN hi Z he hs hf) hr)<|by rintro D d H ⟨c,F,f,rel,h⟩;exact ⟨c,F,f,rel,lI.bind h λr b v g H1 j s1 m q h1=>by
 have l:lI ∅ E c g (d.set i<|some v) n D (mr<|b.set i r.slot):=lI.set (λj hj=>tU<|by lia) h1;cases r with
 |sh p=>exact⟨c,g,_,j.put (s:=.sh p) rfl ⟨v,rfl,q⟩,l⟩|ow k=>obtain⟨a,o,rfl,B,A,y,w,u⟩:=q;exact⟨c,g,_,j.A5 (s:=.ow k) ⟨a,o,rfl,B,A,y,u⟩ λm z=>V.ref.inj z▸w,l⟩
 |ot k K W=>refine BL λU=>?_;obtain⟨p,a,G,o,C,rfl,L,J,B,A,y,w,u,Y⟩:=q;refine U ?_;exact⟨c,g,_,j.A5 (s:=.ot k K W) ⟨p,a,G,o,C,rfl,L,J,B,A,y,u,Y⟩ λm z=>pM z ⟨p,G,C,rfl,L,J.length.symm⟩▸w,l⟩
 |bn t k K I=>exact⟨c,g,_,j.LW q,l⟩⟩
def yH(h:b[i]?=Α (Α v)):qE b i=Α v:=by unfold qE;rw[h];rfl
def Ab(i:Nat)(me:M PV):M WR:=λc=>match c[i]?with
 |some (.bw _)=>(me c).bind λp b=>match b[i]?with
  |some (.bw g)=>if g.length<16777216then .ok (.t i p) b else .bad|_=>.bad
 |_=>.bad
set_option tactic.hygienic true in
def GK(h:tW ∅ E n (Ab i me) D f H):t_ (N8 X.K "list" pH (dR i) (tL ∅ E<|É me á)) D f H:=by
 obtain⟨c,F,g,rel,h⟩:=h;unfold Ab at h;cases s:g[i]?with
 |none=>rw[s]at h;exact h.elim|some K=>
  rw[s]at h;cases K with
  |bw O=>
   obtain⟨a,J,l,G,z3⟩:=rel.slot i _ s;refine⟨.ref a,Ŀ l,.inl ⟨rfl,_,ż.of (rel.lent a _ G).1⟩,c,F,g,rel,?_⟩;unfold É;cases o:me g with
   |bad=>rw[o]at h;exact h|exc x b=>rw[o]at h;exact λC d F' H' B s1 q=>h f C d F' H' B s1 q
   |ok p b=>
    rw[o]at h;intro us F1 H1 k s1 s2 N;have Q:=N;cases Q.pr with
    |cons L t=>
     rename_i v gZ;cases t;cases r:b[i]?with
     |none=>dsimp only[Ĳ.bM]at h;rw[r]at h;exact h.elim|some Z=>
      dsimp only[Ĳ.bM]at h;rw[r]at h;cases Z with
      |bw ps=>
       obtain⟨a2,m,w,u,I⟩:=k.slot i _ r;rw[l]at w;cases w;dsimp only at h;split at h
       ·rename_i R;have y:m.length<sizeLine:=by rw[<-I.length,ġ];exact R
        exact⟨a,m,v,rfl,rfl,(k.lent a _ u).1,y,h f F1 H1 _ k s1 (λz z=>rfl) ⟨a,m,v,yH<|Ŀ l,u,L,y,rfl⟩⟩
       ·exact h.elim
      |_=>exact h.elim
  |_=>exact h.elim
def MU{i:Nat}{x:Str}{c g d:Pos}(q:PE X (.Name x c) (dR i))(he:PE X e (tV ∅ E me))(o:autoParam (dg (.Name x c) "append" X.env (eval (.Name x c) X.env)=eval (.Name x c) X.env) Ζ)
 (l:autoParam (((ü d<|Î [e] X.env).all (λx=>!x.1)&&(af d<|ag [] X.env).all (λx=>x.1.isSome)&&decide ([e].length+([]:List Ϭ).length+(if([]:List Ϭ).isEmpty then 0 else 1)<30))=Δ) Η)
 (m:autoParam ((g.endLine==d.line)=Δ) Η)(fJ:autoParam (Î [e] X.env=(Ε,eval e X.env)::Î [] X.env) Θ)(r:autoParam ((ü d<|Î [] X.env).any (·.1)=Ε) Ζ)(p:autoParam (ť (.Call (.Attribute (.Name x c) "append" g) [e] [] d) Β pos.line X.env=pure Ε) Ζ):
 b_ X [.Expr (.Call (.Attribute (.Name x c) "append" g) [e] [] d) pos] (tW ∅ E n<|Ab i me):=
 b_.wk (kh<|Ŧ (cQ ώ Ϙ ϭ Ņ q (Í he î fJ) o l m fJ r) p) λy y y h=>GK h
noncomputable def Ac(i j:Nat):M WR:=λρ=>match ρ[i]?,ρ[j]?with
 |some (.dw f),Α (.ot d [] [])=>if f.length<16777216then .ok (.d i d) (ρ.set j .no)else .bad|_,_=>.bad
set_option tactic.hygienic true in
def GL(h:tW ∅ E n (Ac i j) D d H):t_ (N8 X.K "list" pH (dR i) (zw (dR j) D5)) D d H:=by
 obtain⟨c,F,f,rel,h⟩:=h;unfold Ac at h;split at h
 ·rename_i gY ps G s;split at h
  ·rename_i B;refine BL λZ=>?_;obtain⟨a,A,l,k,u⟩:=rel.slot i _ G;obtain⟨p,b,r,vs,ys,q,o,m,z,y,x,w,v⟩:=rel.slot j _ s;refine Z ?_;subst w v;have C:(A.map V.ref).length<sizeLine:=by rw[ģ,Paired.length u,ġ];exact B
   refine⟨.ref a,Ŀ l,.inl ⟨rfl,_,ż.of (rel.lent a _ k).1⟩,.ref p,Ŀ q,a,_,.ref p,rfl,rfl,(rel.lent a _ k).1,C,?_⟩;obtain⟨m1,_⟩:=rel.move ⟨_,_,s,Ŀ q,⟨p,r,[],rfl,o,m.length.symm⟩⟩;exact h d F H _ m1 Č (λe e=>rfl) ⟨a,_,p,r,b,yH<|Ŀ l,k,o,m,z,y,x,rfl⟩
  ·exact h.elim
 ·exact h.elim
def MV{i j:Nat}{x y:Str}{c py g d:Pos}(s:PE X (.Name x c) (dR i))(he:PE X (.Name y py) (dR j))(q:autoParam (dg (.Name x c) "append" X.env (eval (.Name x c) X.env)=eval (.Name x c) X.env) Ζ)
 (o:autoParam (((ü d<|Î [.Name y py] X.env).all (λx=>!x.1)&&(af d<|ag [] X.env).all (λx=>x.1.isSome)&&decide ([Expr.Name y py].length+([]:List Ϭ).length+(if([]:List Ϭ).isEmpty then 0 else 1)<30))=Δ) Η)
 (p:autoParam ((g.endLine==d.line)=Δ) Η)(fJ:autoParam (Î [.Name y py] X.env=(Ε,eval (.Name y py) X.env)::Î [] X.env) Θ)(t:autoParam ((ü d<|Î [] X.env).any (·.1)=Ε) Ζ)(r:autoParam (ť (.Call (.Attribute (.Name x c) "append" g) [.Name y py] [] d) Β pos.line X.env=pure Ε) Ζ):
 b_ X [.Expr (.Call (.Attribute (.Name x c) "append" g) [.Name y py] [] d) pos] (tW ∅ E n<|Ac i j):=
 b_.wk (kh<|Ŧ (cQ ώ Ϙ ϭ Ņ s (ŧ he aZ fJ) q o p fJ t) r) λz z z h=>GL h
def Jg{d:Type}{l:List d}{x:d}:mY (l++[x]) (-1)=Α x:=by unfold mY Hr;rw[if_neg (by lia),if_pos (by simp;lia)];rw[show(-1+((l++[x]).length:Int)).toNat=l.length by simp;lia];simp
abbrev Qd(K:Ï)(i:Nat):TE:=HQ (UN K) (HQ (UN K) (dR i)<|Y9 (rU λi=>.int<|-i)<|tC<|.int 1)<|tC<|.int 2
def Ad{c b:Type}{G:c->b->Prop}{l:List c}{m:List b}{d:b}(h:Paired G l m)(e:m.getLast?=Α d):∃f x,l=f++[x]/\Paired G f m.dropLast/\G x d:=by
 induction h with
 |nil=>cases e|cons r t g=>
  cases t with
  |nil=>cases e;exact⟨[],_,rfl,.nil,r⟩|cons r' t'=>obtain⟨k,x,o,j,i⟩:=g (by exact e);exact⟨_::k,x,by rw[o];rfl,.cons r j,i⟩
def Jh{c b:Type}{G:c->b->Prop}{l:List c}{m:List b}{y:b}(h:Paired G l m)(e:m.getLast?=Α y):∃k x,l=k++[x]/\G x y:=
 have⟨k,x,e,_,g⟩:=Ad h e
 ⟨k,x,e,g⟩
def DA{K:KK}{i:Nat}(rel:ē K c F H f g)(e:g[i]?=Α (.dw s))(hd:s.getLast?=Α d):
 ∃a m t xs b vs,f[i]?=Α (Α<|.ref a)/\c.L a=Α (.lst<|m++[.ref t])/\F t=Α (.tup<|xs++[.ref b])/\ç K F d.1 xs/\c.L b=Α (.lst vs)/\ç K F d.2 vs:=by
 refine BL λZ=>?_;obtain⟨a,ts,l,j,h⟩:=rel.slot i _ e;obtain⟨k,t,rfl,xs,b,vs,r,q,p,o⟩:=Jh h hd;refine Z ?_;exact⟨a,k.map V.ref,t,xs,b,vs,Ŀ l,by rw[j,š];rfl,r,q,p,o⟩
def Wn{y:V}(h:xs.length=2):mY (xs++[y]) 2=Α y:=by simp[<-h]
def GN{K:Ï}{c:ă}{a t b:À}(h:c[i]?=Α (Α<|.ref a))(g:H a=Α (.lst<|us++[.ref t]))(f:H t=Α (.tup<|xs++[.ref b]))(d:xs.length=2)(q:Q (.ref b) H):Qd K i c H Q:=
 ⟨.ref a,h,1,rfl,.inl ⟨a,_,-1,.ref t,rfl,rfl,ż.of g,Jg,.inr<|.inl ⟨t,_,2,.ref b,rfl,rfl,jH.of f,Wn d,q⟩⟩⟩
def Ae(i:Nat)(me:M PV):M WR:=λc=>match c[i]?with
 |some (.dw h)=>match h.getLast? with
  |some d=>if d.1.length=2/\d.2.length<16777216then(me c).bind λp b=>.ok (.l i p) b else .bad
  |none=>.bad
 |_=>.bad
set_option tactic.hygienic true in
def GO(h:tW ∅ E n (Ae i me) D f H):t_ (N8 X.K "list" pH (Qd X.K i) (tL ∅ E<|É me á)) D f H:=by
 obtain⟨c,F,j,rel,h⟩:=h;unfold Ae at h;split at h
 ·rename_i gY R;split at h
  ·rename_i d hd;split at h
   ·rename_i y;refine BL λV=>?_;obtain⟨a,K,t,J,b,w,s,r,o,I,k,G⟩:=DA rel R hd;refine V ?_;refine GN s (rel.lent a _ r).1 (rel.sub _ _ o) (by rw[<-I.length];exact y.1) ⟨.inl ⟨rfl,_,ż.of (rel.lent b _ k).1⟩,c,F,j,rel,?_⟩;unfold É;cases l:me j with
    |bad=>rw[l]at h;exact h|exc x g=>rw[l]at h;exact λC d F' Y B s1 q=>h f C d F' Y B s1 q
    |ok p g=>
     rw[l]at h;intro ws Z W m s1 s2 N;have O:=N;cases O.pr with
     |cons L u=>rename_i v gZ;cases u;exact⟨b,w,v,rfl,rfl,(m.lent b _ k).1,by rw[<-G.length,ġ];exact y.2,h f Z W _ m s1 (λz z=>rfl) ⟨a,K,t,J,b,w,v,yH s,r,s1 _ _ o,k,L,rfl⟩⟩
   ·exact h.elim
  ·exact h.elim
 ·exact h.elim
def MX{i:Nat}{o:Ç}{ap cp:Pos}(ho:PE X o (Qd X.K i))(he:PE X e (tV ∅ E me))(jE:autoParam (dg o "append" X.env (eval o X.env)=eval o X.env) Ζ)
 (qY:autoParam (((ü cp<|Î [e] X.env).all (λx=>!x.1)&&(af cp<|ag [] X.env).all (λx=>x.1.isSome)&&decide ([e].length+([]:List Ϭ).length+(if([]:List Ϭ).isEmpty then 0 else 1)<30))=Δ) Η)
 (jF:autoParam ((ap.endLine==cp.line)=Δ) Η)(fJ:autoParam (Î [e] X.env=(Ε,eval e X.env)::Î [] X.env) Θ)(bZ:autoParam ((ü cp<|Î [] X.env).any (·.1)=Ε) Ζ)(hs:autoParam (ť (.Call (.Attribute o "append" ap) [e] [] cp) Β pos.line X.env=pure Ε) Ζ):
 b_ X [.Expr (.Call (.Attribute o "append" ap) [e] [] cp) pos] (tW ∅ E n<|Ae i me):=
 b_.wk (kh<|Ŧ (cQ ώ Ϙ ϭ Ņ ho (Í he î fJ) jE qY jF fJ bZ) hs) λy y y h=>GO h
def MY(d:PE X (.Name x c) (dR i)):PE X (.Subscript (.Subscript (.Name x c) (.UnaryOp .USub (.Constant (.int 1) j1 p1) p2) p3) (.Constant (.int 2) j2 p4) p5) (Qd X.K i):=
 Fe AX (Fe AX d (JR E5 xV) λy y=>rfl) xV λy y=>rfl
noncomputable def uz(i:Nat):M PV:=λρ=>match ρ[i]?with
 |some (.dw d)=>.ok (.int d.length) ρ|_=>.bad
noncomputable def Af(i:Nat):M PV:=λρ=>match ρ[i]?with
 |some (.dw f)=>match f.getLast? with
  |some d=>if d.1.length=2then .ok (.int d.2.length) ρ else .bad|none=>.bad
 |_=>.bad
end
inductive FW where
 |ok (w:WR)|exc (x:PX)|bad
abbrev MW:=List Slot->FW
def gK(n k:Nat)(mb:M WR):MW:=λas=>if as.length=n then(match mb (Ğ k as)with
 |.ok w _=>if w.ix<n then .ok w else .bad|.exc x _=>.exc x|.bad=>.bad)else .bad
def Qe(K:KK)(E:XK)(F H:Hp)(vs:List V)(Q:VK):FW->Prop
 |.ok w=>∀b a c,Gr F H b a->Aa K (cu F H).L H b a (vs[w.ix]?) c w->Q .non c|.exc x=>∀C d b a,Gr F H b a->yo K b x C d->E C d a|.bad=>False
def Qf(K:KK)(n:Nat)(d:MW):Sp:=λvs H Q E=>∃F a,a.length=n/\Ù F H/\Paired (du K F H) a vs/\Qe K E F H vs Q (d a)
def Ep(h:i<vs.length):qE (L2.start N vs) i=vs[i]?:=by
 unfold qE L2.start;rw[Ϫ (by simpa using h),œ,Ĩ h];rfl
section
variable{Pg:ï}{w:ã}{K:Ï}{cm:String->À}{mg:Str->Option Á}{base:Ô}{CX:gX}
def fnW{x qual:Str}{st:æ}{f:À}{D:ą}{N i:List Str}{k n j:Nat}{mb:M WR}{v:MW}(F:CN K x qual st f D)(S:ı N i (è st))
 (dO:∀(h:Á) (A:ì) (c:List Env) (s:Ä) (H:Hp) (E:XK),Ń k (A.deeper<|ň qual (è st) s.heap.objs.size f h)→(A.deeper<|ň qual (è st) s.heap.objs.size f h).units+64<ύ→
   b_ (kj CX Pg w K mg base N qual (è st) f h A c s H E) (Ō st) (tW ⟨K,cm⟩ (λu=>E) i.length mb))(W:autoParam (i.length=n) Η)(X:autoParam (N.length=j) Η)(Y:autoParam (v=gK n j mb) Η):Ϲ Pg w K mg base CX (k+1) f D i (Qf ⟨K,cm⟩ n v):=by
 subst W X Y;refine BL λZ=>?_;obtain⟨oc,od,kV,doc,pm,an,h,ct,AG,rfl,R,L⟩:=F.ex;refine Z ?_;refine zy R L S (by rintro vs H Q E ⟨F,p,m,_,o,_⟩;rw[<-Paired.length o];exact m) λA c s H vs Q E z O=>?_;refine BL λZ=>?_;obtain⟨F,p,m,o,B,g⟩:=O;refine Z ?_;refine⟨_,dO h A c s H E z z.units,cu F H,F,Ğ N.length p,ē.start o B,?_⟩;unfold gK at g;rw[if_pos m]at g;cases e:mb (Ğ N.length p)with
 |bad=>rw[e]at g;exact g|exc x a=>rw[e]at g;exact λb C d t r rel s1 q=>g C d t r rel.gr q
 |ok w a=>
  rw[e]at g;dsimp only at g;split at g
  ·rename_i y;intro b t r H2 rel s1 U q;refine g t r H2 rel.gr ?_;rw[U _ y,Ep (by rw[<-Paired.length B,m];exact y)]at q;exact q
  ·exact g.elim
end
noncomputable def lJ(ρ:ć):List Nat->Option (List Slot)
 |[]=>Α []|i::b=>((ρ[i]?).bind ϲ).bind λs=>(lJ ρ b).map (s::·)
theorem uA{K:KK}(rel:ē K c F H a b):∀{ns:List Nat}{as:List Slot},lJ b ns=Α as->∃vs:List V,ns.map (qE a)=vs.map Α/\Paired (du K F H) as vs
 |[],as,h=>by cases h;exact⟨[],rfl,.nil⟩|i::ns,as,h=>by obtain⟨s,k,h⟩:=sJ.mp h;refine BL λZ=>?_;obtain⟨l,j,rfl⟩:=jN.mp h;obtain⟨v,e,d⟩:=mZ rel k;obtain⟨vs,g,f⟩:=uA rel j;refine Z ?_;exact⟨v::vs,by rw[â,â,g,yH e],.cons d f⟩
def Od(ns:List Nat):TA:=λa H Q=>∃b:List V,ns.map (qE a)=b.map Α/\Q b H
noncomputable def rW:WR->Option Slot->Bool
 |.t _ _,Α (.bw _)=>Δ|.d _ _,Α (.dw _)=>Δ|.l _ _,Α (.dw _)=>Δ|_,_=>Ε
def ϴ(c:MW)(ns:List Nat):M WR:=λa=>match lJ a ns with
 |none=>.bad|some d=>match c d with
  |.ok w=>(match ns[w.ix]?with
    |some j=>if rW w a[j]?=Δ then .ok (w.to j) a else .bad|none=>.bad)
  |.exc x=>.exc x a|.bad=>.bad
section
variable{X:Cx}{cm:String->À}{E:ă->XK}{CX:gX}{k j n m:Nat}{f:À}{fd:ą}{ps:List Str}{mf:MW}{x:Str}{st:æ}{p pos vd:Pos}{e:Ç}{es:List Ç}
def yI:PA X [] (Od []):=PA.wk aZ<|by
 rintro a H Q ⟨b,d,c⟩;cases b with
 |nil=>exact c|cons _ _=>cases d
def Br(h:qE a i=Α v):a[i]?=Α (Α v):=Ŀ h
def aS(i:Nat){ns:List Nat}{b:Pos}(o:PE X (.Name x b) (dR i))(l:PA X es (Od ns))(h:autoParam (Î (.Name x b::es) X.env=(Ε,eval (.Name x b) X.env)::Î es X.env) Θ):PA X (.Name x b::es) (Od (i::ns)):=
 PA.wk (ŧ o l h)<|by
   rintro a H Q ⟨c,d,s⟩;cases c with
   |nil=>cases d|cons v c=>
    injection d with r q
    exact⟨v,Br r,c,q,s⟩
def qd{sp:Sp}{d:TA}(F:Ϲ X.prog X.w X.K X.mg X.base CX k f fd ps sp)(w:Ń k X.A)(A:Gl X x)(y:X.mg x=Α (.ref f))(z:bJ X.K (.ref f)=Δ)(B:Binds X.K fd ps [])(v:ϝ CX X E)
 (C:PA X (e::es) d)(u:autoParam ((x==("__debug__":Str))=Ε) Ζ)(he:autoParam (Î (e::es) X.env=(Ε,eval e X.env)::Î es X.env) Θ)(D:autoParam ((ü pos<|Î es X.env).any (·.1)=Ε) Ζ):
 PE X (.Call (.Name x p) (e::es) [] pos) (λa H Q=>d a H λvs l=>sp vs l Q<|E a):=by
 intro t s a H Q I h;refine io<|pF I A y ?_ u;refine kc I.ok.mod.EU z (Ż (C pos t s a H _ I h) λus s1 ⟨vs,l,i,r,q⟩=>⟨i.vk,?_⟩) he D;exact pR F w B v i r q
def qR{ps:List Slot}(h:gK n k mb ps≠.bad):ps.length=n:=by
 unfold gK at h;by_cases d:ps.length=n
 ·exact d
 ·rw[if_neg d]at h;exact absurd rfl h
def MZ{p:PV}(h:rW (.t j p) o=Δ):∃ps,o=Α (.bw ps):=by
 cases o with
 |none=>cases h|some s=>cases s<;>first|exact⟨_,rfl⟩|cases h
def M_{p:List PV}(h:rW (.d j p) o=Δ):∃ps,o=Α (.dw ps):=by
 cases o with
 |none=>cases h|some s=>cases s<;>first|exact⟨_,rfl⟩|cases h
def M0{p:PV}(h:rW (.l j p) o=Δ):∃ps,o=Α (.dw ps):=by
 cases o with
 |none=>cases h|some s=>cases s<;>first|exact⟨_,rfl⟩|cases h
def Ag{F:Hp}(h:F t=Α (.tup<|xs++[.ref b]))(h':F t=Α (.tup<|ys++[.ref a])):b=a:=by
 rw[h]at h';injection h' with h'
 injection h' with h'
 have:=(wT h' rfl).2;injection this with this
 injection this
def Qg{K:KK}(rel:ē K c F H o q)(g:Gr F H F' H')(R:rW w q[i]?=Δ)(h:Aa K (cu F H).L H F' H' (qE o i) H2 w):Aa K c.L c.B F' H' (qE o i) H2 w:=by
 have I:∀{J:List (List PV×List PV)}{a:À}{s:List V},q[i]?=Α (.dw J)->qE o i=Α (.ref a)->(cu F H).L a=Α (.lst s)->c.L a=Α (.lst s)/\∃A:List À,s=A.map V.ref/\∀t∈A,∃y b z,F t=Α (.tup<|y++[.ref b])/\c.L b=Α (.lst z):=by intro J a s e r B;obtain⟨a',A,L,D,Y⟩:=rel.slot i _ e;have G:=Ŀ L;rw[Br r]at G;cases G;have u:=(rel.lent a _ D).1;rw[(Ϣ B).1]at u;cases u;refine⟨D,A,rfl,λt Q=>?_⟩;refine BL λE=>?_;obtain⟨j,hj⟩:=BV Q;obtain⟨d,_,y,b,z,O,_,k3,_⟩:=cq Y hj;refine E ?_;exact⟨y,b,z,O,k3⟩
 cases w with
 |t j p=>obtain⟨ps,e⟩:=MZ R;obtain⟨a,z,v,r,B,C⟩:=h;obtain⟨a',gZ,L,D,Y⟩:=rel.slot i _ e;have G:=Ŀ L;rw[Br r]at G;cases G;have u:=(rel.lent a _ D).1;rw[(Ϣ B).1]at u;cases u;exact⟨a,z,v,r,D,C⟩|d j ps=>obtain⟨J,e⟩:=M_ R;obtain⟨a,s,t,y,b,r,B,C,W,U,h6,h7,h8⟩:=h;exact⟨a,s,t,y,b,r,(I e r B).1,C,W,U,h6,rel.base.free h7,h8⟩|l j p=>
  obtain⟨J,e⟩:=M0 R;obtain⟨a,s,t,y,b,z,v,r,B,C,W,U⟩:=h;obtain⟨g1,A,g2,g3⟩:=I e r B;have Q:t∈A:=by
   have:V.ref t∈A.map V.ref:=by rw[<-g2];simp
   obtain⟨t',m1,N⟩:=Ĉ.mp this;injection N with N
   exact N▸m1
  obtain⟨xs',b',gZ,O,Z⟩:=g3 t Q;have eb:=Ag (g.f _ _ O) C;subst eb;have u:=(rel.lent b' _ Z).1;rw[(Ϣ W).1]at u;cases u;exact⟨a,s,t,y,b',z,v,r,g1,C,Z,U⟩
def w_call(F:Ϲ X.prog X.w X.K X.mg X.base CX k f fd ps (Qf ∅ m mf))(D:Df X.K X.mg x st ps f fd)(hr:Ń j X.A)(hx:ϝ CX X E){ns:List Nat}(ha:PA X (e::es) (Od ns))
 (q:∀{as:List Slot},mf as≠.bad->as.length=m:=by exact qR)(hg:autoParam (Gl X x) Ζ)(Y:autoParam (k<=j) Ι)(Z:autoParam ((x==("__debug__":Str))=Ε) Ζ)(he:autoParam (Î (e::es) X.env=(Ε,eval e X.env)::Î es X.env) Θ)(bZ:autoParam ((ü pos<|Î es X.env).any (·.1)=Ε) Ζ)(hs:autoParam (ť (.Call (.Name x p) (e::es) [] pos) Β vd.line X.env=pure Ε) Ζ):
 b_ X [.Expr (.Call (.Name x p) (e::es) [] pos) vd] (tW ∅ E n<|ϴ mf ns):=
 b_.wk (kh<|Ŧ (qd F (hr.mono Y) hg D.m D.F.kp D.b hx ha Z he bZ) hs)<|by
  rintro D a H ⟨c,F,o,rel,h⟩;unfold ϴ at h;cases y:lJ o ns with
  |none=>rw[y]at h;exact h.elim|some as=>
   rw[y]at h;dsimp only at h;obtain⟨s,I,U⟩:=uA rel y;refine⟨s,I,F,as,q λz=>?_,rel.sub,U,?_⟩
   ·rw[z]at h;exact h
   ·cases u:mf as with
    |bad=>rw[u]at h;exact h|exc x=>rw[u]at h;exact λC d G B g W=>h a C d G B (rel.call g) g.f W
    |ok w=>
     rw[u]at h;dsimp only at h;cases A:ns[w.ix]?with
     |none=>rw[A]at h;exact h.elim|some i=>
      rw[A]at h;dsimp only at h;split at h
      ·rename_i t;intro G B H2 g K;have r:s[w.ix]?=qE a i:=by
        have:=congrArg (λl=>l[w.ix]?) I;simp only[œ,A]at this;cases r:s[w.ix]?with
        |none=>rw[r]at this;cases this|some v=>rw[r]at this;injection this with this;exact this.symm
       rw[r]at K;have:=Qg rel g t K;refine h a G B H2 (rel.call g) g.f (λV V=>rfl) ?_;rw[Kh];exact this.to
      ·exact h.elim
end
section
variable{X:Cx}{cm:String->À}{E:ă->XK}{e:Ç}{p pos:Pos}
set_option tactic.hygienic true
def yJ(i:Nat){x:Str}{f:Pos}(o:X.mg "len"=Β)(n:PE X (.Name x f) (dR i))(q:autoParam (Gl X "len") Ζ)(he:autoParam (Î [.Name x f] X.env=(Ε,eval (.Name x f) X.env)::Î [] X.env) Θ)(bZ:autoParam ((ü pos<|Î [] X.env).any (·.1)=Ε) Ζ):
 PE X (.Call (.Name "len" p) [.Name x f] [] pos) (tV ∅ E<|uz i):=PE.wk (ue ō q o İ<|ŧ n aZ he)<|by
 rintro b H Q ⟨c,F,d,rel,h⟩;unfold uz at h;split at h
 ·rename_i gY e;obtain⟨a,m,l,k,j⟩:=rel.slot i _ e;refine⟨.ref a,Ŀ l,m.map V.ref,.inl<|ż.of (rel.lent a _ k).1,h _ F H rel Č Č ?_⟩;show Ē _ _ _ _;unfold Ē;rw[ģ,Paired.length j]
 ·exact h.elim
def GP(i:Nat){o:Ç}(v:X.mg "len"=Β)(u:PE X o (Qd X.K i))(x:autoParam (Gl X "len") Ζ)(he:autoParam (Î [o] X.env=(Ε,eval o X.env)::Î [] X.env) Θ)(bZ:autoParam ((ü pos<|Î [] X.env).any (·.1)=Ε) Ζ):
 PE X (.Call (.Name "len" p) [o] [] pos) (tV ∅ E<|Af i):=PE.wk (ue ō x v İ (ŧ u aZ he) (he:=he))<|by
 rintro f H Q ⟨c,F,g,rel,h⟩;unfold Af at h;split at h
 ·rename_i gY e;split at h
  ·rename_i d hd;split at h
   ·rename_i w;refine BL λZ=>?_;obtain⟨a,us,t,xs,b,s,r,q,n,m,l,k⟩:=DA rel e hd;refine Z ?_;refine GN r (rel.lent a _ q).1 (rel.sub _ _ n) (by rw[<-m.length];exact w) ⟨s,.inl<|ż.of (rel.lent b _ l).1,h _ F H rel Č Č ?_⟩;show Ē _ _ _ _;unfold Ē;rw[k.length]
   ·exact h.elim
  ·exact h.elim
 ·exact h.elim
set_option tactic.hygienic false
end
@[simp]theorem S1{i:Nat}{a:ć}:uz i a=(match a[i]?with
  |some (.dw b)=>.ok (.int b.length) a|_=>.bad):=rfl
@[simp]theorem Qh{i:Nat}{a:ć}:Af i a=(match a[i]?with
  |some (.dw b)=>match b.getLast? with
   |some d=>if d.1.length=2then .ok (.int d.2.length) a else .bad|none=>.bad
  |_=>.bad):=rfl
abbrev DL:=List<|List PV×List PV
noncomputable def dQ:Slot->Bool
 |.no=>Δ|.sh _=>Δ|.ow _=>Δ|.bw _=>Δ|_=>Ε
def rm(s:Slot):Slot:=(ϲ s).getD .no
def cA(b c:Nat)(T:List PV)(D:DL)(a:ć):ć:=((a.map rm).set b (.bw T)).set c (.dw D)
noncomputable def Ah(iT iD:Nat)(w:WR)(T:List PV)(D:DL):Option (List PV×DL):=match w with
 |.t k p=>if k=iT then Α (T++[p],D)else Β|.d k ps=>if k=iD then Α (T,D++[(ps,[])])else Β|.l k p=>if k=iD then(match D.getLast? with
   |some d=>Α (T,D.dropLast++[(d.1,d.2++[p])])|none=>Β)else Β
noncomputable def ky(i j d e:Nat)(f:M WR):List PV->ć->List PV->DL->Ĳ (List PV×DL)
 |[],a,T,D=>.ok (T,D) a|p::g,a,T,D=>match p with
  |.tup [c,b]=>(match f (cA d e T D<|(a.set i<|.sh c).set j (.sh b))with
    |.ok w _=>(match Ah d e w T D with
      |some (h,k)=>ky i j d e f g ((a.set i<|.sh c).set j (.sh b)) h k|none=>.bad)
    |.exc x _=>.exc x<|(a.set i<|.sh c).set j (.sh b)|.bad=>.bad)
  |_=>.bad
def S2(i j e f:Nat)(k:M (List PV))(h:M WR)(mt:M Fl):M Fl:=fun c=>if c.all dQ=Δ∧e<c.length∧f<c.length then
    (match k ((c.set e .no).set f .no)with
    |.ok d b=>if b.all dQ=Δ then(ky i j e f h d b [] []).bind fun g a=>(match mt (cA e f g.1 g.2 a)with
      |.ok (.rt<|.sh p) _=>.ok (.rt<|.sh p) a|.exc x _=>.exc x a|_=>.bad)else .bad
    |_=>.bad)
 else .bad
def uB(K:KK)(F H:Hp)(x:À×À)(d:List PV×List PV):Prop:=∃a b,F x.1=Α (.tup<|a++[.ref x.2])/\ç K F d.1 a/\H x.2=Α (.lst b)/\ç K F d.2 b
def Ex(K:KK)(c:Ctx)(F H:Hp)(b:ă)(d:ć)(iT iD:Nat)(T:List PV)(D:DL)(pT pD:À)(tb:List (À×À)):Prop:=
 qE b iT=Α (.ref pT)/\qE b iD=Α (.ref pD)/\(∃us,H pT=Α (.lst us)/\ç K F T us)/\H pD=Α (.lst<|tb.map λx=>.ref x.1)/\Paired (uB K F H) tb D/\(pT::pD::tb.map (·.2)).Nodup/\∀a∈pT::pD::tb.map (·.2),F a=Β/\c.B a=Β/\jg F b d a
section
variable{K:KK}{c:Ctx}{F H F' H':Hp}{σ:ă}{ρ:ć}{iT iD:Nat}{T:List PV}{D:DL}{pT pD:À}{tb:List (À×À)}
def M1(h:Paired (uB K F H) tb D)(b:x∈tb.map (·.2)):H x≠Β:=by obtain⟨y,a,rfl⟩:=Ĉ.mp b;obtain⟨k,e⟩:=BV a;obtain⟨d,_,xs,vs,_,_,f,_⟩:=cq h e;rw[f];intro z;cases z
def Ex.some(h:Ex K c F H σ ρ iT iD T D pT pD tb){a:À}(ha:a∈pT::pD::tb.map (·.2)):H a≠Β:=by
 obtain⟨_,_,⟨us,h1,_⟩,h2,h3,_⟩:=h;rcases ù.mp ha with rfl|ha
 ·rw[h1];intro z;cases z
 rcases ù.mp ha with rfl|ha
 ·rw[h2];intro z;cases z
 ·exact M1 h3 ha
def Ex.call(rel:ē K c F H σ ρ)(h:Ex K c F H σ ρ iT iD T D pT pD tb)(g:Gr F H F' H'):Ex K c F' H' σ ρ iT iD T D pT pD tb:=by have t:=fun{a}=>h.some (a:=a);refine BL λZ=>?_;obtain⟨s,r,⟨j,x,m⟩,w,v,u,e⟩:=h;refine Z ?_;exact⟨s,r,⟨j,g.h _ _ x,m.same g.f T j⟩,g.h _ _ w,Paired.KZ v<|by rintro x d ⟨f,i,q,p,o,n⟩;exact ⟨f,i,g.f _ _ q,p.same g.f d.1 f,g.h _ _ o,n.same g.f d.2 i⟩,u,λa b=>⟨g.out a (t b) (e a b).1,(e a b).2.1,rel.lw g.f (e a b).2.2⟩⟩
def ē.Bt(r:ē K c F H σ ρ)(n:F a=Β)(i:c.B a=Β)(m:jg F σ ρ a):ē K c F (upd H a o) σ ρ where
 sub:=λb u e=>by
  have f:b≠a:=λz=>by rw[z,n]at e;cases e
  rw[ñ f];exact r.sub b u e
 base:=λb u e=>by
  have f:b≠a:=λz=>by rw[z,i]at e;cases e
  rw[ñ f];exact r.base b u e
 f0:=r.f0
 ge:=r.ge
 lent:=λb u e=>by
  have f:b≠a:=λz=>by rw[z,r.lb a i]at e;cases e
  rw[ñ f];exact r.lent b u e
 lb:=r.lb
 len:=r.len
 slot:=λj s e=>(r.slot j s e).grow (Ù.refl F)<|by
  rintro b u ⟨y,v,t⟩ q p h3;have f:b≠a:=λz=>by subst z;exact m j ⟨s,y,e,yn v,t⟩
  exact⟨by rw[ñ f];exact q,p⟩
 sep:=r.sep
def yK{i:Nat}(h:ρ.all p=Δ)(e:ρ[i]?=Α s):p s=Δ:=by rw[fL]at h;exact h s<|BO e
noncomputable def Ctx.yL(c:Ctx)(A:List À)(H:Hp):Ctx:=⟨λb=>if b∈A then H b else c.B b,c.F₀,c.L,c.S⟩
theorem ē.yL(r:ē K c F H σ ρ)(g:∀a∈A,H a≠Β/\F a=Β/\c.B a=Β/\jg F σ ρ a)(L:ρ.all dQ=Δ):ē K (c.yL A H) F H σ ρ where
 sub:=r.sub
 base:=λb u e=>by
  have k:(if b∈A then H b else c.B b)=Α u:=e;split at k
  ·exact k
  ·exact r.base b u k
 f0:=r.f0
 ge:=λa O N=>by
  have l:(if a∈A then H a else c.B a)≠Β:=O;split at l
  ·rename_i q;exact(g a q).2.1
  ·exact r.ge a l N
 lent:=r.lent
 lb:=fun a h=>by
   have j:(if a∈A then H a else c.B a)=Β:=h;split at j
   ·rename_i q;exact absurd j (g a q).1
   ·exact r.lb a j
 len:=r.len
 slot:=λi s e=>by
  have J:=yK L e;have q:=r.slot i s e;cases s with
  |no=>trivial|sh p=>exact q|bw I=>exact q|ow I=>obtain⟨a,x,m,G,E,C,B⟩:=q;refine⟨a,x,m,G,E,?_,B⟩;show(if a∈A then H a else c.B a)=Β;rw[if_neg λz=>(g a z).2.2.2 i ⟨_,_,e,Ŀ m,rfl⟩];exact C
  |_=>cases J
 sep:=r.sep
def ē.GQ(r:ē K (c.yL A d) F H σ ρ)(j:∀a∈A,d a≠Β/\c.B a=Β)(J:∀a,c.B a=Β->c.L a=Β)(I:ρ.all dQ=Δ):ē K c F H σ ρ where
 sub:=r.sub
 base:=λb u e=>r.base b u (by
  show(if b∈A then d b else c.B b)=Α u;rw[if_neg λz=>by rw[(j b z).2]at e;cases e];exact e)
 f0:=r.f0
 ge:=λa l L=>r.ge a (by
  show(if a∈A then d a else c.B a)≠Β;rw[if_neg λz=>l (j a z).2];exact l) L
 lent:=r.lent
 lb:=J
 len:=r.len
 slot:=λi s e=>by
  have G:=yK I e;have q:=r.slot i s e;cases s with
  |no=>trivial|sh p=>exact q|bw E=>exact q|ow E=>
   obtain⟨a,t,C,B,y,x,w⟩:=q;have g:(if a∈A then d a else c.B a)=Β:=x;refine⟨a,t,C,B,y,?_,w⟩;split at g
   ·rename_i z;exact(j a z).2
   ·exact g
  |_=>cases G
 sep:=r.sep
def ē.lend(r:ē K c F H σ ρ)(hp:ρ.all dQ=Δ)(h:Ex K c F H σ ρ iT iD T D pT pD tb)(n:iT≠iD):ē K (cu F H) F H σ (cA iT iD T D ρ) where
 sub:=r.sub
 base:=Ù.refl H
 f0:=Ù.refl F
 ge:=λU U h=>h
 lent:=λU U e=>Ϣ e
 lb:=fun a e=>by
   cases q:(cu F H).L a with
   |none=>rfl|some u=>have Q:H a=Β:=e;rw[(Ϣ q).1]at Q;cases Q
 len:=by unfold cA;simpa using r.len
 slot:=λi s e=>by
  obtain⟨k1,k2,⟨Z,E,W⟩,h2,h3,h4,C⟩:=h;have L:∀{a u},H a=Α u->F a=Β->(cu F H).L a=Α u:=fun{a u} e1 e2=>by show(match F a with|none=>H a|some _=>Β)=Α u;rw[e2];exact e1
  rcases ϛ e with⟨rfl,rfl,_⟩|⟨hj,e⟩
  ·refine⟨pD,tb.map (·.1),k2,L (by rw[h2,Ĺ];rfl) (C pD<|by simp).1,?_⟩;have:∀{z:List (À×À)}{I:DL},(∀x∈z,F x.2=Β)->Paired (uB K F H) z I->Paired (λ(t:À) (d:List PV×List PV)=>∃p b w,F t=Α (.tup<|p++[.ref b])/\ç K F d.1 p/\(cu F H).L b=Α (.lst w)/\ç K F d.2 w) (z.map (·.1)) I:=by
    intro z I O hq
    induction hq with
    |nil=>exact .nil|@cons x d l m q t ih=>obtain⟨p,w,f,k,q3,q4⟩:=q;exact .cons ⟨p,x.2,w,f,k,L q3 (O x<|by simp),q4⟩<|ih λy hy=>O y<|ð _ hy
   exact this (λx hx=>(C x.2<|ð _<|ð _<|Ĉ.mpr ⟨x,hx,rfl⟩).1) h3
  ·rcases ϛ e with⟨rfl,rfl,_⟩|⟨hj2,e⟩
   ·exact⟨pT,Z,k1,L E (C pT<|by simp).1,W⟩
   ·rw[œ]at e;cases g:ρ[i]?with
    |none=>rw[g]at e;cases e|some o=>
     rw[g]at e;have G:rm o=s:=Ň e;subst G;unfold rm;cases el:ϲ o with
     |none=>trivial|some s1=>obtain⟨v,Y,X⟩:=mZ r (show(ρ[i]?).bind ϲ=Α s1 by rw[g];exact el);rw[Y];exact(du.slot X).1
 sep:=λi j a E U=>by
  obtain⟨J,y,f,_,k⟩:=E;have k:=lv k;have:J.own=Ε:=by
   rcases ϛ f with⟨_,rfl,_⟩|⟨_,f⟩
   ·rfl
   ·rcases ϛ f with⟨_,rfl,_⟩|⟨_,f⟩
    ·rfl
    ·rw[œ]at f;cases g:ρ[i]?with
     |none=>rw[g]at f;cases f|some o=>rw[g]at f;have G:rm o=J:=Ň f;subst G;have hs:=yK hp g;cases o<;>first|rfl|cases hs
  rw[this]at k;cases k
def wo{a b:À}(h:(a::A).Nodup)(e:b∈A):b≠a:=λz=>(fK.mp h).1 (z▸e)
def Bu(b:∀x∈tb,x.2≠a)(h:Paired (uB K F H) tb D):Paired (uB K F<|upd H a o) tb D:=by
 induction h with
 |nil=>exact .nil|@cons x d l m q t p=>obtain⟨f,g,n,k,j,i⟩:=q;exact .cons ⟨f,g,n,k,by rw[ñ<|b x<|by simp];exact j,i⟩<|p λy r=>b y<|ð _ r
set_option tactic.hygienic true in
def Ex.put(rel:ē K c F H σ ρ)(h:Ex K c F H σ ρ iT iD T D pT pD tb)(g:Gr F H F' H')(Y:Aa K (cu F H).L H F' H' (qE σ w.ix) H2 w)(e:Ah iT iD w T D=Option.some (T',D')):
 ē K c F' H2 σ ρ/\∃EG,Ex K c F' H2 σ ρ iT iD T' D' pT pD EG:=by
 have O:=rel.call g;have hs:=fun{a}=>h.some (a:=a);have h0:=h;have h':=Ex.call rel h g;obtain⟨J,r,⟨I,h1,W⟩,L,Z,i,m⟩:=h';cases w with
 |t k p=>
  unfold Ah at e;dsimp only at e;split at e
  ·rename_i C;subst C;cases e;obtain⟨a,U,v,q,o,n,G,rfl⟩:=Y;have E:pT=a:=by
    have:qE σ k=Option.some (.ref a):=q;rw[J]at this;injection this with this
    injection this
   subst E;obtain⟨A,u,s⟩:=m pT (by simp);have B:I=U:=by have:=g.h _ _ (Ϣ o).1;rw[h1]at this;cases this;rfl
   subst B;refine⟨O.Bt A u s,tb,J,r,⟨I++[v],ā,ç.append W<|ç.cons n ç.nil⟩,?_,?_,i,m⟩
   ·rw[ñ<|wo i<|by simp];exact L
   ·exact Bu (λx f=>wo i<|ð _<|Ĉ.mpr ⟨x,f,rfl⟩) Z
  ·cases e
 |d k ps=>
  unfold Ah at e;dsimp only at e;split at e
  ·rename_i C;subst C;cases e;obtain⟨a,Up,t,xs,b,q,o,n,G,R,w6,Q,rfl⟩:=Y;have E:pD=a:=by
    have:qE σ k=Option.some (.ref a):=q;rw[r]at this;injection this with this
    injection this
   subst E;obtain⟨A,u,s⟩:=m pD (by simp);have B:Up=tb.map λx=>.ref x.1:=by have:=g.h _ _ (Ϣ o).1;rw[L]at this;cases this;rfl
   subst B;have hb:∀x∈pT::pD::tb.map (·.2),x≠b:=λx f z=>hs f (by rw[z];exact Q);have bD:b≠pD:=λz=>hb pD (by simp) z.symm;refine⟨O.Bt A u s,tb++[(t,b)],J,r,⟨I,?_,W⟩,?_,?_,?_,?_⟩
   ·rw[ñ<|Ť<|wo i<|by simp];exact h1
   ·rw[ā,š];rfl
   ·refine ug (Bu (λx f=>?_) Z) (.cons ⟨xs,[],n,G,by rw[ñ bD];exact R,ç.nil⟩ .nil);exact wo (fK.mp i).2 (Ĉ.mpr ⟨x,f,rfl⟩)
   ·rw[š,<-c_,<-c_,wU];refine⟨i,by simp,λx f y X=>?_⟩;have:y=b:=by simpa using X
    subst this;exact hb x f
   ·intro x f;rw[š,<-c_,<-c_]at f;rcases Ŵ.mp f with f|f
    ·exact m x f
    ·have:x=b:=by simpa using f
     subst this;exact⟨w6,rel.base.free Q,rel.lw g.f<|rel.fresh Q⟩
  ·cases e
 |l k p=>
  unfold Ah at e;dsimp only at e;split at e
  ·rename_i C;subst C;split at e
   ·rename_i d hd;cases e;refine BL λV=>?_;obtain⟨a,Up,t,xs,b,U,v,q,o,n,G,R,rfl⟩:=Y;refine V ?_;have E:pD=a:=by
     have:qE σ k=Option.some (.ref a):=q;rw[r]at this;injection this with this
     injection this
    subst E;refine BL λV=>?_;obtain⟨N,x,rfl,p1,⟨ys,ws,p2,p3,p4,p5⟩⟩:=Ad Z hd;refine V ?_;have et:x.1=t:=by
     have:=g.h _ _ (Ϣ o).1;rw[L,š]at this;injection this with this
     injection this with this
     have:=(wT this rfl).2;injection this with this
     injection this
    subst et;have eb:=Ag p2 n;have Rz:x.2∈pT::pD::(N++[x]).map (·.2):=by simp
    obtain⟨A,u,s⟩:=m x.2 Rz;subst eb;have B:ws=U:=by have:=g.h _ _ (Ϣ G).1;rw[p4]at this;cases this;rfl
    subst B;have n1:=wo i (show x.2∈pD::(N++[x]).map (·.2) by simp);have n2:=wo (fK.mp i).2 (show x.2∈(N++[x]).map (·.2) by simp);refine⟨O.Bt A u s,N++[x],J,r,⟨I,?_,W⟩,?_,?_,i,m⟩
    ·rw[ñ<|Ť n1];exact h1
    ·rw[ñ<|Ť n2];exact L
    ·refine ug (Bu (λy X z=>?_) p1)<|.cons ⟨ys,ws++[v],p2,p3,ā,ç.append p5<|ç.cons R ç.nil⟩ .nil;have h6:=(fK.mp (fK.mp i).2).2;rw[š,wU]at h6;exact h6.2.2 y.2 (Ĉ.mpr ⟨y,X,rfl⟩) x.2 (by simp) z
   ·cases e
  ·cases e
theorem Ex.yL(h:Ex K c F H σ ρ iT iD T D pT pD tb)(r:ē K (c.yL (pT::pD::tb.map (·.2)) H) n C σ b)(s:Ù F n)(f0:Ù c.F₀ F):Ex K c n C σ b iT iD T D pT pD tb:=by
 have Z:=fun{a}=>h.some (a:=a);refine BL λV=>?_;obtain⟨U,R,⟨w,h1,J⟩,h2,h3,h4,A⟩:=h;refine V ?_;have k:=λa u g e=>r.base a u (by
  show(if a∈pT::pD::tb.map (·.2)then H a else c.B a)=Option.some u;rw[if_pos g];exact e)
 have B:=λa g=>by show(if a∈pT::pD::tb.map (·.2)then H a else c.B a)≠Β;rw[if_pos g];exact Z g
 have go:∀{j:List (À×À)}{o:DL},(∀x∈j,x.2∈pT::pD::tb.map (·.2))->Paired (uB K F H) j o->Paired (uB K n C) j o:=by
  intro j o z hq
  induction hq with
  |nil=>exact .nil|@cons x d l m q t W=>obtain⟨p,v,Q,O,N,L⟩:=q;exact .cons ⟨p,v,s _ _ Q,O.same s d.1 p,k _ _ (z x<|by simp) N,L.same s d.2 v⟩<|W λy X=>z y<|ð _ X
 refine⟨U,R,⟨w,k _ _ (by simp) h1,J.same s T w⟩,k _ _ (by simp) h2,go (λx Y=>ð _<|ð _<|Ĉ.mpr ⟨x,Y,rfl⟩) h3,h4,λa g=>⟨?_,(A a g).2.1,λi q=>?_⟩⟩
 ·refine r.ge a (B a g) ?_;cases q:c.F₀ a with
  |none=>exact q|some u=>have:=f0 _ _ q;rw[(A a g).1]at this;cases this
 ·exact B a g (r.owned q).2.2
def yM(h:ρ.all dQ=Δ)(b:dQ s=Δ):(ρ.set i s).all dQ=Δ:=by
 rw[fL]at h⊢;intro x a;rcases List.mem_or_eq_of_mem_set a with q|q
 ·exact h x q
 ·rw[q];exact b
def Ex.sets(h:Ex K c F H σ ρ iT iD T D pT pD tb)(l:s.own=Ε)(g:iT≠i)(f:iD≠i):Ex K c F H (σ.set i<|Option.some v) (ρ.set i s) iT iD T D pT pD tb:=by refine BL λZ=>?_;obtain⟨k,j,p,o,n,m,d⟩:=h;refine Z ?_;exact⟨by rw[tU g];exact k,by rw[tU f];exact j,p,o,n,m,λa b=>⟨(d a b).1,(d a b).2.1,jp l (d a b).2.2⟩⟩
def DB(h:i<σ.length):qE (σ.set i<|Option.some v) i=Option.some v:=by unfold qE;rw[oJ h];rfl
def Ex.start(rel:ē K c F H σ ρ)(lT:iT<ρ.length)(lD:iD<ρ.length)(n:iT≠iD)(h1:H pT=Β)(h2:upd H pT (.lst []) pD=Β):
 ē K c F (upd (upd H pT<|.lst []) pD<|.lst []) ((σ.set iT<|Option.some<|.ref pT).set iD (Option.some<|.ref pD)) ((ρ.set iT .no).set iD .no)/\Ex K c F (upd (upd H pT<|.lst []) pD<|.lst []) ((σ.set iT<|Option.some<|.ref pT).set iD (Option.some<|.ref pD)) ((ρ.set iT .no).set iD .no) iT iD [] [] pT pD []:=by
 have hl:=rel.len;have r1:=(rel.made (o:=.lst []) h1).put (i:=iT) (x:=Option.some<|.ref pT) (s:=.no) rfl trivial;have r2:=(r1.made (o:=.lst []) h2).put (i:=iD) (x:=Option.some<|.ref pD) (s:=.no) rfl trivial;have ne:pD≠pT:=λz=>by rw[z,ā]at h2;cases h2
 have h3:=by rw[ñ ne]at h2;exact h2
 refine⟨r2,?_,?_,⟨[],?_,ç.nil⟩,ā,.nil,?_,λa ha=>?_⟩
 ·rw[tU n];exact DB (by lia)
 ·exact DB (by simp;lia)
 ·rw[ñ<|Ť ne];exact ā
 ·simp;exact Ť ne
 ·have:=by simpa using ha
  rcases this with rfl|rfl
  ·exact⟨rel.sub.free h1,rel.base.free h1,jp rfl<|jp rfl<|rel.fresh h1⟩
  ·exact⟨rel.sub.free h3,rel.base.free h3,jp rfl<|jp rfl<|rel.fresh h3⟩
end
section
variable{X:Cx}{cm:String->À}{E:ă->XK}{pos:Pos}
def Wo{i j K U m:Nat}{s1 s2:æ}{tg Z:Ç}{body tail:List æ}{mi:M (List PV)}{mf:MW}{ns:List Nat}{mt:M Fl}(h1:PS X s1 (HN (Lq D5)<|ua K))(h2:PS X s2 (HN (Lq D5)<|ua U))
 (hp:oY (Ú X.prog X.w) X.A X.env X.xe)(hc:X.calm=Δ)(hi:PI X tg Z (tI ∅ E mi))(hg:PG X tg (OG X.K 2<|E1 (ua i)<|E1 (ua j) OF))(hb:b_ X body (t_ λL H Q=>Od ns L H λvs H1=>Qf ∅ m mf vs H1 Q<|E L))
 (ht:b_ X tail (tS ∅ E mt))(hE:∀L y,E L=E y)(hlen:∀{as:List Slot},mf as≠.bad->as.length=m:=by exact qR)(n1:autoParam (K≠U) Ι)(n2:autoParam (K≠i) Ι)(n3:autoParam (U≠i) Ι)(n4:autoParam (K≠j) Ι)(n5:autoParam (U≠j) Ι)
 (hs:autoParam (∀x,de Z X.env x=pure x) Ν):b_ X (s1::s2::.For tg Z body [] pos::tail) (tS ∅ E<|S2 i j K U mi (ϴ mf ns) mt):=
 b_.wk (gF h1<|gF h2<|gF (E4 hp hc hi hg hb hs) ht)<|by
  rintro D L H ⟨c,F,R,rel,h⟩;unfold S2 at h;split at h
  ·rename_i RK;refine BL λV=>?_;obtain⟨bZ,lT,lD⟩:=RK;refine V ?_;refine⟨bB _,λpT hT=>⟨bB _,λpD hD=>?_⟩⟩;obtain⟨Ě,S4⟩:=Ex.start rel lT lD n1 hT hD;have Wp:((R.set K .no).set U .no).all dQ=Δ:=yM (yM bZ rfl) rfl;generalize (R.set K .no).set U .no=B at*;have pr:∀{F3 H3:Hp}{o:ă}{n:ć}{T:List PV}{D':DL}{tb:List (À×À)},ē ∅ c F3 H3 o n->n.all dQ=Δ->Ex ∅ c F3 H3 o n K U T D' pT pD tb->ē ∅ (c.yL (pT::pD::tb.map (·.2)) H3) F3 H3 o n:=λr hp e=>r.yL (λa ha=>⟨e.some ha,e.2.2.2.2.2.2 a ha⟩) hp;refine⟨_,F,B,pr Ě Wp S4,?_⟩;cases em:mi B with
   |bad=>rw[em]at h;exact h.elim|exc x G=>rw[em]at h;exact h.elim|ok A N=>
    rw[em]at h;dsimp only at h;split at h
    ·rename_i Qi;intro J F1 H1 Û sF1 _ Rj;have ex1:=S4.yL Û sF1 Ě.f0;have Wq:ē ∅ c F1 H1 _ N:=Û.GQ (λa ha=>⟨S4.some ha,(S4.2.2.2.2.2.2 a ha).2.1⟩) Ě.lb Qi;refine⟨λk m' y H'=>∃F2 G T D' tb,k<=A.length/\m'=A.length-k/\ē ∅ c F2 H' y G/\Ù F1 F2/\G.all dQ=Δ/\Ex ∅ c F2 H' y G K U T D' pT pD tb/\
      ϑ ∅ E c F2 D ((ky i j K U (ϴ mf ns) (A.drop k) G T D').bind λtd B=>(match mt (cA K U td.1 td.2 B)with
       |.ok (.rt<|.sh p) _=>.ok (.rt<|.sh p) B|.exc x _=>.exc x B|_=>.bad)),⟨_,F1,N,[],[],[],bB _,rfl,Wq,Ù.refl _,Qi,ex1,ϑ.mono h sF1⟩,?_⟩
     rintro k m' o H3 ⟨F3,n,T,D',tb,hle,rfl,g_,Sa,Ji,Qj,f⟩;have rp3:=pr g_ Ji Qj;obtain⟨go,stop⟩:=Rj _ k F3 H3 o n rp3 Sa λb u e=>(g_.lent b u e).1;by_cases kN:k<A.length
     ·obtain⟨g1,g2⟩:=go A[k] (Ĩ kN);rw[sv kN]at f;dsimp only[ky]at f;refine .inr ⟨g1,_,λy H' z=>z,λx H4 hy=>?_⟩;refine BL λW=>?_;obtain⟨F4,uj,S5,_,rp⟩:=g2 x H4 hy;refine W ?_;have ex4:=Qj.yL uj S5 g_.f0;have Kj:ē ∅ c F4 H4 o n:=uj.GQ (λa ha=>⟨Qj.some ha,(Qj.2.2.2.2.2.2 a ha).2.1⟩) g_.lb Ji;cases ep:A[k]with
      |tup qs=>
       rw[ep]at f rp;unfold Ē at rp;obtain⟨t,xs,rfl,ht,Y⟩:=rp
       match qs,Y,f with
       |[q1,q2],Y,f=>
         unfold ç at Y;refine BL λW=>?_;obtain⟨v1,r',rfl,r1,Y⟩:=Y;unfold ç at Y;obtain⟨v2,r'',rfl,r2,Y⟩:=Y;refine W ?_;unfold ç at Y;subst Y;refine⟨t,[v1,v2],rfl,Ù.tup Kj.sub ht,rfl,v1,[v2],rfl,v2,[],rfl,rfl,?_⟩;have Ba:ē ∅ c F4 H4 ((o.set i<|some v1).set j (Α v2)) ((n.set i<|.sh q1).set j (.sh q2)):=(Kj.put (s:=.sh q1) rfl ⟨v1,rfl,r1⟩).put (s:=.sh q2) rfl ⟨v2,rfl,r2⟩;have ex5:=(ex4.sets (i:=i) (v:=v1) (s:=.sh q1) rfl n2 n3).sets (i:=j) (v:=v2) (s:=.sh q2) rfl n4 n5;have Qk:((n.set i<|.sh q1).set j (.sh q2)).all dQ=Δ:=yM (yM Ji rfl) rfl;generalize (o.set i<|some v1).set j (Α v2)=O at*;dsimp only at f;generalize (n.set i<|.sh q1).set j (.sh q2)=I at*;have Wr:=Ba.lend Qk ex5 n1;dsimp only[ϴ]at f;cases el:lJ (cA K U T D' I) ns with
         |none=>rw[el]at f;exact f.elim|some as=>
          rw[el]at f;dsimp only at f;refine BL λV=>?_;obtain⟨vs,v1',v2'⟩:=uA Wr el;refine V ?_;refine⟨vs,v1',F4,as,hlen λz=>?_,Ba.sub,v2',?_⟩
          ·rw[z]at f;exact f
          ·cases Ws:mf as with
           |bad=>rw[Ws]at f;exact f.elim|exc x=>rw[Ws]at f;exact λC d F' H' g Y=>f O C d F' H' (Ba.call g) (S5.trans g.f) Y
           |ok w=>
            rw[Ws]at f;dsimp only at f;cases ej:ns[w.ix]?with
            |none=>rw[ej]at f;exact f.elim|some i'=>
             rw[ej]at f;dsimp only at f;by_cases hok:rW w (cA K U T D' I)[i']?=Δ
             ·rw[if_pos hok]at f;dsimp only at f;cases Wt:Ah K U (w.to i') T D' with
              |none=>rw[Wt]at f;exact f.elim|some td=>
               rw[Wt]at f;intro F' H' H6 g hw;have ev:vs[w.ix]?=qE O i':=by
                have:=congrArg (λl=>l[w.ix]?) v1';simp only[œ,ej,Option.map_some]at this;cases ev:vs[w.ix]?with
                |none=>rw[ev]at this;cases this|some v=>rw[ev]at this;injection this with this;exact this.symm
               rw[ev]at hw;obtain⟨IA,EG,ex6⟩:=ex5.put (w:=w.to i') (T':=td.1) (D':=td.2) Ba g (by rw[Kh];exact hw.to) Wt;exact⟨A.length-(k+1),by omega,F',I,td.1,td.2,EG,kN,rfl,IA,(Sa.trans S5).trans g.f,Qk,ex6,ϑ.mono f<|S5.trans g.f⟩
             ·rw[if_neg hok]at f;exact f.elim
       |[],_,f=>exact f.elim|[_],_,f=>exact f.elim|_::_::_::_,_,f=>exact f.elim
      |_=>rw[ep]at f;exact f.elim
     ·have e:k=A.length:=by lia
      refine .inl ⟨stop e,?_⟩;rw[wQ<|by lia]at f;refine⟨_,F3,_,g_.lend Ji Qj n1,?_⟩;have Ho:ϑ ∅ E c F3 D (match mt (cA K U T D' n)with
       |.ok (.rt<|.sh p) _=>.ok (.rt<|.sh p) n|.exc x _=>.exc x n|_=>.bad):=f
      cases Wu:mt (cA K U T D' n)with
      |bad=>rw[Wu]at Ho;exact Ho.elim|exc x P=>rw[Wu]at Ho;exact λy C d F' H' ű s' q=>by rw[hE y o];exact Ho o C d F' H' (g_.call ű.gr) s' q
      |ok fl P=>
       rw[Wu]at Ho;cases fl with
       |rt r=>
        cases r with
        |sh p=>exact λv y F' H' ű s' q=>Ho v o F' H' (g_.call ű.gr) s' q
        |_=>exact Ho.elim
       |_=>exact Ho.elim
    ·exact h.elim
  ·exact h.elim
end
abbrev Wv:=IS 1
section
variable{X:Cx}{elts:List Ç}{k:Nat}{tp:Pos}
def M6(K:Ï)(g:TA):TI:=λb H R=>g b H λvs d=>∃a,vs=[.ref a]/\(∃f,ż K d a f)/\R (Wv K a) d
def Ql{M:bE}(o:e.any (·.1)=Ε)(l:b.any (·.1.isNone)=Ε)
 (h:Ð M A (evalArgs (.type T) Δ e b) (λa d=>Ð M A (call (.type T) a.pos a.kw) Q E d) E s):Ð M A (fX pos (.type T) [] e b) Q E s:=by
 refine à<|iw<|ό h (λa d g=>à<|mK ?_) λy y x=>x;rw[o,l];refine à<|ď ?_;exact à<|ό g (λr m p=>à<|iw<|wpAny_point<|ď p) λy y x=>x
def GR{l:Ç}{w:TA}{p pos cp W:Pos}{j:Nat}(hg:Gl X "enumerate")(Z:X.mg "enumerate"=Β)(ha:PA X [l] w)(y:autoParam (Î [l] X.env=[(Ε,eval l X.env)]) Θ):
 PI X (.Tuple elts k tp) (.Call (.Name "enumerate" p) [l] [⟨Α "start",.Constant (.int 1) j cp,W⟩] pos) (M6 X.K w):=by
 intro v s c H R I h;refine io (iX I hg Z boot_enumerate<|Ql (by rw[y];rfl) rfl ?_);have A:=ha pos v s c H _ I h;rw[y]at A⊢;refine evalArgs_kwB rfl<|Ż A λus s1 ⟨vs,C,I1,N,O⟩=>kws_cons<|Ż (xV v s1 c C (λx H'=>x=.int 1/\H'=C) I1 ⟨rfl,rfl⟩) λv s2 ⟨x,H2,m,L,e1,e2⟩=>kws_nil ?_;subst e1 e2;refine BL λV=>?_;obtain⟨t,rfl⟩:=L;obtain⟨a,e,⟨xs,Y⟩,q⟩:=O;subst e;obtain⟨u,rfl,K⟩:=N.one;cases K;obtain⟨ę,rv,Q,hz⟩:=m.list Y;refine V ?_;refine SK.PM Q.isList λh' z U lh hk=>?_;have I3:=m.kept (t':=s2.toks) hk;refine xt z ⟨s2.heap.objs.size+1,[s2.heap.objs.size+1,s2.heap.objs.size],_,_,H2,rfl,I3,we 1 a _ _<|Nat.succ_ne_self _,⟨⟨_,z⟩,U⟩,λb n=>?_,q⟩;have D:s2.heap.objs.size<=b:=by
  rcases ù.mp n with rfl|n
  ·exact mF _
  ·have e':=by simpa using n
   exact sE e'.symm
 exact m.rN D<|m.hok.fresh D
end
@[simp]def Bv(m:M (List PV))(b:ć):Ĳ (List PV):=(m b).bind λps a=>.ok (ci 1 ps) a
section
variable{X:Cx}{cm:String->À}{E:ă->XK}{e:Ç}
def Jj{g:List Ç}{k j:Nat}{t p pos D u:Pos}{m:M (List PV)}(y:Gl X "enumerate")(w:X.mg "enumerate"=Β)(x:PE X e (tG ∅ E (J8<|kk X cm) m))(n:autoParam (Î [e] X.env=[(Ε,eval e X.env)]) Θ):
 PI X (.Tuple g k t) (.Call (.Name "enumerate" p) [e] [⟨Α "start",.Constant (.int 1) j D,u⟩] pos) (tI ∅ E<|Bv m):=λÅ s b H R I h=>GR y w (ŧ x aZ n) n Å s b H R I (by
 obtain⟨c,F,d,rel,h⟩:=h;refine⟨c,F,d,rel,h.bind λps f v K J r s1 s2 q z=>?_⟩;obtain⟨a,C,B,A⟩:=q;subst C;exact⟨a,rfl,B,z _ K J r Č Č<|uw 1 A⟩)
end
end P
namespace Sp
open PySem PySem.Builtin PySem.Builtin.Str PySem.StrLaws
abbrev S(l:List Nat):ah:=⟨l.toArray⟩
def GS(x:ah)(i j:Nat):strSub x i j=S ((x.cps.toList.drop i).take (j-i)):=by apply iA;apply Array.toList_inj.mp;rw[strSub_toList]
section
variable(x:ah){c:Nat}{cs:List Nat}
theorem qe:∀(l r:List Nat) (m a:Nat) (st:Array Nat×Nat),x.cps.toList.drop a=l++r->c∉l->forIn (fM a<|l.length+m) st (occBody x (S (c::cs)) x.length<|x.length+1)=forIn (fM (a+l.length) m) st (occBody x (S (c::cs)) x.length<|x.length+1)
 |[],r,m,a,st,_,_=>by simp|d::l,r,m,a,st,h,p=>by
  have s:=qe l r m (a+1) st (by rw[<-oP,h];rfl) λz=>p<|ð _ z;have t:subAt x (S (c::cs)) a=Ε:=by rw[sZ,h];exact beq_eq_false_iff_ne.mpr λe=>p (by injection e with u;simp[u])
  rw[show(d::l).length+m=l.length+m+1 by simp;lia,oQ,oM,occBody,if_neg λz=>by rw[t]at z;exact absurd z.2<|by decide];refine cE s ?_;rw[show a+(d::l).length=a+1+l.length by simp;lia]
noncomputable def Bw(L:Nat):Nat->List (List Nat)->List Nat
 |a,y::z::r=>(a+y.length)::Bw L (a+y.length+L) (z::r)|_,_=>[]
theorem GU(hc:c∉cs):∀(ys:List (List Nat)) (a m:Nat) (st:Array Nat×Nat),ys≠[]->(∀y∈ys,c∉y)->x.cps.toList.drop a=M4.ĉ (c::cs) ys->a+m=x.length+1->a<=x.length->st.1.size<=a->st.2<=a->(forIn (fM a m) st<|occBody x (S (c::cs)) x.length<|x.length+1).run.fst.toList=st.1.toList++Bw (cs.length+1) a ys
 |[],_,_,_,h,_,_,_,_,_,_=>absurd rfl h|[y],a,m,st,_,l,h,hm,ha,h1,h2=>by have f:=congrArg aa h;have e:M4.ĉ (c::cs) [y]=y:=rfl;rw[e]at h f;simp at f;have hX:x.cps.size=x.length:=rfl;rw[show m=y.length+1 by lia,qe x y [] 1 a st (by rw[h];simp) (l y<|by simp),oQ,oM,occBody,if_neg λz=>by have:=z.1.2;simp[f_]at this f;lia];show _=_++([]:List Nat);simp
 |y::z::r,a,m,st,_,l,h,hm,ha,h1,h2=>by
  have e:M4.ĉ (c::cs) (y::z::r)=y++(c::(cs++M4.ĉ (c::cs) (z::r))):=by show y++(c::cs)++_=_;simp
  rw[e]at h;have f:=congrArg aa h;simp at f;have hX:x.cps.size=x.length:=rfl;have d1:x.cps.toList.drop (a+y.length)=c::(cs++M4.ĉ (c::cs) (z::r)):=by rw[<-oP,h];simp
  have d2:x.cps.toList.drop (a+y.length+1)=cs++M4.ĉ (c::cs) (z::r):=by rw[<-oP,d1];rfl
  have hs:subAt x (S (c::cs)) (a+y.length)=Δ:=by rw[sZ,d1];simp[f_]
  obtain⟨k,rfl⟩:∃k,m=y.length+(cs.length+k+1):=⟨m-y.length-cs.length-1,by lia⟩;rw[qe x y _ _ a st h (l y<|by simp),oQ,oM,occBody,if_pos ⟨⟨⟨by lia,by lia⟩,by simp[f_]at f⊢;lia⟩,hs⟩];have ih:=GU hc (z::r) (a+y.length+1+cs.length) k (st.1.push<|a+y.length,a+y.length+(cs.length+1)) (by simp) (λq hq=>l q<|ð _ hq) (by rw[<-oP,d2];simp) (by lia) (by lia) (by simp;lia) (by simp;lia);rw[<-qe x cs _ _ _ _ d2 hc]at ih;refine cE ih ?_;show _=_++(a+y.length)::Bw _ (a+y.length+(cs.length+1)) (z::r);simp[show a+y.length+(cs.length+1)=a+y.length+1+cs.length by lia]
theorem Ai:∀(ys:List (List Nat)) (a:Nat),ys≠[]->x.cps.toList.drop a=M4.ĉ (c::cs) ys->partsFrom x (cs.length+1) a (Bw (cs.length+1) a ys)=ys.map S
 |[],_,h,_=>absurd rfl h|[y],a,_,h=>by show[strSub x a x.length]=[S y];have e:M4.ĉ (c::cs) [y]=y:=rfl;have i:=congrArg aa h;rw[e]at h i;simp at i;have k:x.cps.size=x.length:=rfl;rw[GS,h,<-k,i,List.take_length]|y::z::r,a,_,h=>by
  have e:M4.ĉ (c::cs) (y::z::r)=y++(c::(cs++M4.ĉ (c::cs) (z::r))):=by show y++(c::cs)++_=_;simp
  rw[e]at h;show strSub x a (a+y.length)::partsFrom x (cs.length+1) (a+y.length+(cs.length+1)) _=_;rw[Ai (z::r) _ (by simp) (by rw[Nat.add_assoc,<-oP,h];simp),GS,h];simp
end
def uC(p:c∉a)(o:∀q∈c::a,q<256)(j:ys≠[])(n:∀y∈ys,c∉y):Txt.split (S<|M4.ĉ (c::a) ys) (S (c::a))=ys.map S:=by
 have m:mO (S (c::a))=1:=by unfold mO;rw[if_pos<|by simpa using o]
 have k2:¬mO (S<|M4.ĉ (c::a) ys)<1:=by
  unfold mO;split
  ·lia
  ·split<;>lia
 have l:mQ (S<|M4.ĉ (c::a) ys) (S (c::a)) 0 (S<|M4.ĉ (c::a) ys).length ((S<|M4.ĉ (c::a) ys).length+1)=Bw (a.length+1) 0 ys:=by rw[occ_eq,GU (S<|M4.ĉ (c::a) ys) p ys 0 _ _ j n rfl (by lia) (by lia) (õ _)<|õ _];rfl
 have pt:=Ai (S<|M4.ĉ (c::a) ys) ys 0 j rfl;unfold Txt.split;rw[l,m,partsBetween_eq,show(S (c::a)).length=a.length+1from rfl,pt]
 match ys,j with
 |[y],_=>split<;>rfl|y::z::r,_=>
  rw[if_neg,if_neg]
  ·simp[Bw]
  ·simp only[oE];have:(S<|M4.ĉ (c::a) (y::z::r)).length=_:=congrArg aa (show M4.ĉ (c::a) (y::z::r)=y++(c::a)++M4.ĉ (c::a) (z::r)from rfl);simp at this;lia
end Sp
namespace P
open PySem PySem.Spec PyProof.Rows L2 M2 M3 M4 PySem.Builtin PySem.Builtin.Str
section
variable{prog:ï}{w:ã}{A:ì}{E:Á->Ä->Prop}{s:Ä}{x y:ah}{t u:Tok}{Q:Á->Ä->Prop}
def Jk(hy:(y.length==0)=Ε)(hq:∀l k,l.map (·.1)=Txt.split x y->Q (.ref s.heap.objs.size) {s with heap:=s.heap.push {cls:=.type "list",data:=.seq (strValues l).toArray},toks:=k})
 (lh:x.length<=sizeLine)(YK:(partsBetween x (mQ x y 0 x.length<|x.length+1) y.length).length<=sizeLine):Ð (Ú prog w) A (call (.builtin "str.split") [.str x t,.str y u]) Q E s:=by
 cases h1:(decide (x.length<y.length)||decide (mO x<mO y))
 ·cases hf:(mQ x y 0 x.length<|x.length+1).isEmpty
  ·refine oZ fY (jT _ _ _) xD (xE _ _) (meets_str_split_sep x y t u h1 hy hf lh YK) ?_;rw[strsFrom_eq];exact hq (numbered s.toks _) _<|(numbered_texts _ _).trans ((if_neg<|ne_true_of_eq_false h1).trans (if_neg<|ne_true_of_eq_false hf)).symm
  ·exact oZ fY (jT _ _ _) xD (xE _ _) (meets_str_split_not_found x y t u h1 hy hf)<|hq [(x,t)] s.toks ((if_neg<|ne_true_of_eq_false h1).trans (if_pos hf)).symm
 ·exact oZ fY (jT _ _ _) xD (xE _ _) (meets_str_split_cannot_occur x y t u h1)<|hq [(x,t)] s.toks (if_pos h1).symm
end
theorem wr:∀(l:List (ah×Tok)) {ys:List ah},l.map (·.1)=ys->Ő (ys.map V.str) (strValues l)
 |[],_,rfl=>.nil|(a,t)::l,_,rfl=>.cons ⟨t,rfl⟩<|wr l rfl
def Bx:V->List V->Hp->VK->Prop:=λx b H Q=>match x,b with
 |.str z,[.str y]=>(y.length==0)=Ε/\z.length+2<=16777216/\∀p,H p=Β->Q (.ref p) (upd H p<|.lst<|(Txt.split z y).map .str)|_,_=>False
set_option tactic.hygienic true in
def jq:N7 X "str.split" Bx:=by
 intro Å s a H x xs v us Q I m p h;unfold Bx at h;split at h
 ·rename_i z y;obtain⟨r,hz,q⟩:=h;obtain⟨t,rfl⟩:=m;obtain⟨u,rfl,n⟩:=vals1 p;obtain⟨t',rfl⟩:=n;refine Jk r (λl k e=>?_) (by rw[cH];lia) (by rw[length_partsBetween,cH];have:=StrLaws.occ_length_le z y 0 z.length<|z.length+1;lia);have j:=wr l e;refine⟨.ref s.heap.objs.size,_,I.laid (o:=.lst<|(Txt.split z y).map .str) (λb u q=>Ć _ q) (õ _) ⟨?_,strValues l,0,j,ĵ _ rfl⟩,rfl,q _ I.fresh⟩;rw[ģ,cH];have:=split_le z y;lia
 ·exact h.elim
def MtO(K:KK)(r:V->List V->Hp->VK->Prop)(f:PV->List PV->Option RV):Prop:=∀{c:Ctx}{F H:Hp}{a:ă}{b:ć}{p:PV}{h:List PV}{pv:RV}{v:V}{g:List V}{Q:VK},ē K c F H a b->rR K c a b F H p v->LS K c a b F H h g->f p h=Α pv->
 (∀z e d,ē K c e d a b->Ù F e->Ù H d->rO K c a b e d pv z->Q z d)->r v g H Q
@[simp]def uD(f:PV→List PV→Option RV)(mo:M PV)(e:M (List PV))(c:ć):Ĳ RV:=(mo c).bind fun p a=>match p with
  |.str _=>(e a).bind λps b=>Ĳ.zG (f p ps) b
  |_=>.bad
noncomputable def Qm:ah->Option Nat:=λy=>match y.cps.toList with
 |[c]=>Α c|_=>Β
noncomputable def ϖ:PV->List PV->Option RV
 |.str z,[.str y]=>if(y.length==0)=Ε/\z.length+2<=16777216then Α (.ow<|(PySem.Txt.split z y).map .str)else Β|_,_=>Β
theorem wu{K:KK}:∀ys:List ah,ç K F (ys.map .str)<|ys.map .str
 |[]=>ç.nil|y::ys=>ç.cons Ē.str<|wu ys
set_option tactic.hygienic true in
def jr{K:KK}:MtO K Bx ϖ:=by
 intro c F H a b p ps pv v vs Q rel l j e k;unfold ϖ at e;split at e
 ·rename_i z y;cases l.str;obtain⟨u,rfl,i⟩:=vp j;cases i.str;split at e
  ·rename_i f;cases e;refine⟨f.1,f.2,λq g=>?_⟩;obtain⟨n,m⟩:=gH rel g<|wu<|PySem.Txt.split z y;exact k _ F _ n Č (Ù.upd g) m
  ·cases e
 ·cases e
section
variable{X:Cx}{cm:String->À}{E:ă->XK}{o e:Ç}{es:List Ç}{name:Str}{aD gB pos:Pos}{id:String}{r:V->List V->Hp->VK->Prop}{f:PV->List PV->Option RV}{mo m:M PV}{ms:M (List PV)}
def Er(pa:PlainAttrs "str")(slot:PySem.Slot "str" name id)(lY:typeOf (.builtin id)=pure (.type "method_descriptor"))(hf:MtO ∅ r f)(hm:N7 X id r)(ho:PE X o (tR ∅ E mo))(ha:PA X (e::es) (FK ∅ E ms))
 (jE:autoParam (dg o name X.env (eval o X.env)=eval o X.env) Ζ)
 (qY:autoParam (((ü gB<|Î (e::es) X.env).all (fun x=>!x.1)&&(af gB<|ag [] X.env).all (fun x=>x.1.isSome)
   &&decide ((e::es).length+([]:List Ϭ).length+(if([]:List Ϭ).isEmpty then 0 else 1)<30))=Δ) Η)
 (jF:autoParam ((aD.endLine==gB.line)=Δ) Η)(hs:autoParam (Î (e::es) X.env=(Ε,eval e X.env)::Î es X.env) Θ)(kM:autoParam ((ü gB<|Î es X.env).any (·.1)=Ε) Ζ):
 PE X (.Call (.Attribute o name aD) (e::es) [] gB) (tO ∅ E<|uD f mo ms):=
 PE.wk (cQ pa slot lY hm ho ha jE qY jF hs kM) fun g H Q ⟨c,F,b,rel,h⟩=>⟨c,F,b,rel,ϰ.bind h fun p a v F1 H1 Û _ _ r1 h1=>by
   cases p with
   |str z=>
    cases r1.str;refine⟨rfl,c,F1,a,Û,ϰ.bind h1 λps d vs F2 H2 Ě sF sH r2 h2=>?_⟩;cases ef:f (.str z) ps with
    |none=>rw[ef]at h2;exact h2.elim|some pv=>rw[ef]at h2;exact hf Ě (.inl<|Ē.str) r2 ef λz F' H' ű s1 s2 q'=>h2 z F' H' ű s1 s2 q'
   |_=>exact h1.elim⟩
def Es(m:M PV):M PV:=λb=>(m b).bind λp a=>match p with
 |.str x=>if x.length<=16777216then .ok (.str x) a else .bad|.int i=>if i.natAbs.log2<1920then .ok (.str<|ϙ i) a else .bad|_=>.bad
def Kk(he:PE X e (tV ∅ E m)):PE X (.FormattedValue e (-1) Β pos) (tV ∅ E<|Es m):=by
 rintro L s a H Q I ⟨c,F,b,rel,h⟩;refine FormattedValue_plain<|Ż (he L s a H (λv n=>(∃x,v=.str x/\x.length<=16777216/\Q (.str x) n)\/∃i:Int,v=.int i/\i.natAbs.log2<1920/\Q (.str<|ϙ i) n) I ⟨c,F,b,rel,ϰ.bind h λp d v J n D f f w l=>?_⟩) λv s1 ⟨x,n,G,w,N⟩=>?_
 ·cases p with
  |str x=>
   have B:=by have z:=w;unfold Ē at z;exact z
   dsimp only at l;split at l
   ·rename_i u;exact .inl ⟨x,B,u,l _ J n D Č Č Ē.str⟩
   ·exact l.elim
  |int i=>
   have B:=by have z:=w;unfold Ē at z;exact z
   dsimp only at l;split at l
   ·rename_i u;exact .inr ⟨i,B,u,l _ J n D Č Č Ē.str⟩
   ·exact l.elim
  |_=>exact l.elim
 ·rcases N with⟨y,rfl,u,q⟩|⟨i,rfl,u,q⟩
  ·obtain⟨t,rfl⟩:=w;exact formatField_str (λt' tk=>⟨.str y,n,G.tok _,⟨t',rfl⟩,q⟩) (by exact u)
  ·obtain⟨t,rfl⟩:=w;exact formatField_int_small u ⟨.str<|ϙ i,n,G.tok _,⟨_,rfl⟩,q⟩
noncomputable def Jl:List (M PV)->ah->M PV
 |[],a=>λρ=>.ok (.str a) ρ
 |m::ms,a=>λρ=>(m ρ).bind λp c=>match p with
  |.str y=>if(a++y).length<=16777216then Jl ms (a++y) c else .bad|_=>.bad
def PJ(X:Cx)(cm:String->À)(E:ă->XK)(es:List Ç)(ms:List (M PV)):Prop:=∀b g s a H Q,b.length<=sizeLine->Inv X g a H s->tV ∅ E (Jl ms b) a H Q->Ð (Ú X.prog X.w) X.A (joinParts b<|pe es X.env) (EP X g a Q) X.xe s
def M7:PJ X cm E [] []:=by rintro out Å s a H Q j I ⟨c,F,b,rel,h⟩;exact joinParts_nil ⟨.str out,H,I.tok _,⟨_,rfl⟩,h _ F H rel Č Č Ē.str⟩ j
def tX{ms:List (M PV)}(he:PE X e (tV ∅ E m))(J:PJ X cm E es ms)(hs:autoParam (pe (e::es) X.env=eval e X.env::pe es X.env) Η):PJ X cm E (e::es) (m::ms):=by
 rintro i w s a H Q hz I ⟨c,F,d,rel,h⟩;refine joinParts_cons<|Ż (he w s a H (λv l=>∃y,v=.str y/\(i++y).length<=16777216/\tV ∅ E (Jl ms<|i++y) a l Q) I ⟨c,F,d,rel,ϰ.bind h λp b v O l D f f q k=>?_⟩) λv s1 ⟨x,l,N,q,y,L,u,G⟩=>?_
 ·cases p with
  |str y=>
   have K:=by have z:=q;exact z
   dsimp only at k;split at k
   ·rename_i u;exact⟨y,K,u,c,O,b,D,k⟩
   ·exact k.elim
  |_=>exact k.elim
 ·subst L;obtain⟨t,rfl⟩:=q;have B:=by exact u
  exact⟨B,J (i++y) w s1 a l Q B N G⟩
def Ww{c:Ç}{g:M PV}{ms:List (M PV)}(h:PJ X cm E (e::c::es) (m::g::ms))(hs:autoParam (pe (e::c::es) X.env=eval e X.env::eval c X.env::pe es X.env) Η):PE X (.JoinedStr (e::c::es) pos) (tV ∅ E<|Jl (m::g::ms) iz):=λÅ s a H Q I i=>by exact h iz Å s a H Q (by decide) I i
@[simp]theorem M8{b:ć}:Es m b=(m b).bind fun p a=>match p with
  |.str x=>if x.length<=16777216then .ok (.str x) a else .bad|.int i=>if i.natAbs.log2<1920then .ok (.str<|ϙ i) a else .bad|_=>.bad:=rfl
@[simp]theorem M9{b:ah}{a:ć}:Jl [] b a=.ok (.str b) a:=rfl
@[simp]theorem Nc{ms:List (M PV)}{c:ah}{b:ć}:Jl (m::ms) c b=(m b).bind fun p a=>match p with
  |.str y=>if(c++y).length<=16777216then Jl ms (c++y) a else .bad|_=>.bad:=rfl
end
section
variable{X:Cx}{K:KK}
def Kl:List V->Hp->VK->Prop:=λxs H Q=>Gb xs H Q\/∃z n,xs=[.str z]/\mN z=Α n/\z.length<=640/\Q (.int n) H
def yN:Ŝ X (.type "int") Kl:=by
 intro c s a H d e Q I r h;rcases h with h|⟨z,n,rfl,i,g,q⟩
 ·exact Ml c s a H d e Q I r h
 ·obtain⟨u,rfl,f⟩:=vals1 r;obtain⟨t,rfl⟩:=f;exact PySem.W.KIN.call_text i g ⟨.int n,H,I.tok _,⟨_,rfl⟩,q⟩
def kR:List PV->Option PV
 |[.str z]=>if z.length<=640then(mN z).map .int else Β|a=>Gd a
set_option tactic.hygienic true in
def yO:eZ K Kl kR:=by
 intro c F H a b ps pv vs Q rel r e k;unfold kR at e;split at e
 ·rename_i z;split at e
  ·rename_i f;obtain⟨n,g,rfl⟩:=jN.mp e;obtain⟨v,rfl,d⟩:=vp r;cases d.str;exact .inr ⟨z,n,rfl,g,f,k _ F H rel Č Č Ē.int⟩
  ·cases e
 ·exact .inl<|Mm rel r e k
def Km:List V->Hp->VK->Prop:=λxs H Q=>Ge xs H Q\/∃z,xs=[.str z]/\Q (.str z) H
def gj:Ŝ X (.type "str") Km:=by
 intro c s a H d e Q I r h;rcases h with h|⟨z,rfl,q⟩
 ·exact Mn c s a H d e Q I r h
 ·obtain⟨u,rfl,f⟩:=vals1 r;obtain⟨t,rfl⟩:=f;exact PySem.P.str_of_str ⟨.str z,H,I,⟨t,rfl⟩,q⟩
def ba:List PV->Option PV
 |[.str z]=>Α<|.str z|a=>IK a
def gk:eZ K Km ba:=by
 intro c F H a b ps pv vs Q rel r e k;unfold ba at e;split at e
 ·cases e;obtain⟨v,rfl,d⟩:=vp r;cases d.str;exact .inr ⟨_,rfl,k _ F H rel Č Č Ē.str⟩
 ·exact .inl<|Mo rel r e k
@[simp]theorem Qn{z:ah}:kR [.str z]=if z.length<=640then(mN z).map .int else Β:=rfl
@[simp]theorem Qo{i:Int}:kR [.int i]=Α (.int i):=rfl
@[simp]theorem Qp{i:Bool}:kR [.bl i]=Α (.int<|if i then 1 else 0):=rfl
@[simp]theorem Qq{z:ah}:ba [.str z]=Α (.str z):=rfl
@[simp]theorem Aj{i:Int}:ba [.int i]=if i.natAbs.log2<1920then Α (.str<|ϙ i)else Β:=rfl
end
noncomputable def DC(mb:M Fl):M Fl:=λρ=>match mb ρ with
 |.ok f a=>.ok f a|_=>.bad
@[simp]theorem S6{mb:M Fl}{b:ć}:DC mb b=(match mb b with
  |.ok f a=>.ok f a|_=>.bad):=rfl
section
variable{X:Cx}{cm:String->À}{E:ă->XK}
def Nd
 (G:∀(A:Á->Ä->Prop) (m:List (À×Obj)) (R:ă->XK),b_ (Ed X A m) r<|tS ∅ R mb):PS X (.Try r (h0::C) [] [] pos) (tS ∅ E<|DC mb):=by
 rintro m s b H D I ⟨c,F,d,rel,h⟩;refine wpAny_Try_except ?_;have J:Inv (Ed X (λe p=>Ð (Ú X.prog X.w) X.A (noteFrame e X.env) (λy o=>Ð (Ú X.prog X.w) X.A (setFlight e Β) (λy n=>Ð (Ú X.prog X.w) X.A (handleBy e X.env (h0::C)) (SP X m D) X.xe n) X.xe o) X.xe p) m) [] b H s:=Inv.Pw I;refine Ż (G _ m (λy y y y=>False) [] s b H D J ⟨c,F,d,rel,?_⟩) λf s1 q=>?_
 ·unfold DC at h;cases v:mb d with
  |bad=>rw[v]at h;exact h|exc x a=>rw[v]at h;exact h.elim|ok f a=>rw[v]at h;cases f<;>exact h
 ·have t:=SP.vZ q;cases f with
  |next=>exact mJ t|brk=>exact t|cont=>exact t|ret u=>exact t
end
end P
namespace Sp
open PySem PySem.Builtin PySem.Builtin.Str PySem.StrLaws
def Qr(x:ah)(c:Nat):(!(mQ x (S [c]) 0 x.length 1).isEmpty)=decide (c∈x.cps.toList):=by
 have hl:x.cps.toList.length=x.length:=by simp[f_]
 have h:=occ_none x (S [c]) x.length (fM 0<|x.length+1) 0<|λy y=>bB _;have e:(mQ x (S [c]) 0 x.length 1).isEmpty=Δ↔¬c∈x.cps.toList:=by
  rw[occ_eq];rw[List.isEmpty_iff,Array.toList_eq_nil_iff];refine h.trans ?_;have g:∀i,(j:i<x.length)->(subAt x (S [c]) i=Δ↔x.cps.toList[i]'(by lia)=c):=λi j=>by rw[sZ,sv<|by lia];show((List.take 1 _==[c])=Δ)↔_;simp
  constructor
  ·intro q z;obtain⟨i,j,e⟩:=List.getElem_of_mem z;exact q i (by simp;lia) ⟨show i+1<=x.length by lia,(g i<|by lia).mpr e⟩
  ·rintro q i _ ⟨p,n⟩;have o:i+1<=x.length:=p;exact q ((g i<|by lia).mp n▸ŵ _)
 cases q:(mQ x (S [c]) 0 x.length 1).isEmpty with
 |true=>have:=e.mp q;simp[this]|false=>
  have:=BL λz=>by rw[e.mpr z]at q;cases q
  simp[this]
end Sp
namespace P
open PySem PySem.Spec PyProof.Rows L2 M2 M3 M4
def Wx:R2:=λx y H Q=>∃c z,x=.str (S [c])/\y=.str z/\Q (.bl<|decide<|c∈z.cps.toList) H
def AB(p q:PV):Option PV:=match p,q with
 |.str y,.str z=>(Qm y).map λc=>.bl<|decide<|c∈z.cps.toList
 |_,_=>DN Ε p q
def Qs(K:Ï):R2:=λx y H Q=>Wx x y H Q\/IY K Ε x y H Q
section
variable{X:Cx}{K:KK}
def uE(g:X.A.units+64<ύ):aQ X (Ĵ .In) (Qs X.K):=by
 intro f s a H x y v u Q I e d h;rcases h with⟨c,z,rfl,rfl,q⟩|h
 ·obtain⟨t,rfl⟩:=e;obtain⟨t',rfl⟩:=d;refine in_str ?_;rw[Sp.Qr z c];exact⟨.bl _,H,I,rfl,q⟩
 ·exact Mx g f s a H x y v u Q I e d h
set_option tactic.hygienic true in
def uF:kZ K (Qs K.K) AB:=by
 intro c F H a b p q pv v u Q rel g f e k;unfold AB at e;split at e
 ·rename_i y z;obtain⟨h,d,rfl⟩:=jN.mp e;cases g.str;cases f.str;have i:y=S [h]:=by
   unfold Qm at d;split at d
   ·rename_i c2 j;cases d;exact iA (by rw[show y.cps=y.cps.toList.toArray by simp,j])
   ·cases d
  exact .inl ⟨h,z,by rw[i],rfl,k _ F H rel Č Č Ē.bl⟩
 ·exact .inr<|Gv rel g f e k
end
@[simp]theorem Wy{c:Nat}{z:ah}:AB (.str ⟨#[c]⟩) (.str z)=Α (.bl<|decide<|c∈z.cps.toList):=rfl
@[simp]theorem S7{p:PV}{a:List PV}:AB p (.lst a)=DN Ε p (.lst a):=by cases p<;>rfl
@[simp]theorem S8{p:PV}{a:List PV}:AB p (.tup a)=DN Ε p (.tup a):=by cases p<;>rfl
mutual
def om(K:Ï)(cm:String->À):PV->Á->Bool
 |.int i,v=>match v with
   |.int j _=>decide<|i=j|_=>Ε
 |.cls C,v=>match v with
   |.ref a=>decide<|a=cm C|_=>Ε
 |.tup ps,v=>match v with
   |.ref a=>match K.lookup a with
     |some o=>(match o.cls with
      |.type t=>decide<|t="tuple"|_=>Ε)&&match o.data with
      |.seq ę _=>decide (ę.size<=16777216)&&Ak K cm ps ę.toList|_=>Ε
     |none=>Ε
   |_=>Ε
 |_,_=>Ε
def Ak(K:Ï)(cm:String->À):List PV->List Á->Bool
 |[],vs=>vs.isEmpty|p::ps,vs=>match vs with
  |v::r=>om K cm p v&&Ak K cm ps r|[]=>Ε
end
set_option tactic.hygienic true
mutual
theorem Al{K:KK}:∀(p:PV) (v:Á),om K.K K.cm p v=Δ->∃x,RelV x v/\∀F,Ē K F p x
 |.int i,v,h=>by
   unfold om at h;split at h
   ·rename_i j t;have:=of_decide_eq_true h;subst this;exact⟨.int i,⟨t,rfl⟩,λF=>by unfold Ē;rfl⟩
   ·cases h
 |.cls C,v,h=>by
   unfold om at h;split at h
   ·rename_i a;have:=of_decide_eq_true h;subst this;exact⟨.ref<|K.cm C,rfl,λF=>by unfold Ē;rfl⟩
   ·cases h
 |.tup ps,v,h=>by
   unfold om at h;split at h
   ·rename_i a;split at h
    ·rename_i o ho;rw[þ]at h;obtain⟨h1,h2⟩:=h;split at h1
     ·rename_i t ht;have et:=of_decide_eq_true h1;subst et;split at h2
      ·rename_i ę n hd;rw[þ]at h2;obtain⟨xs,h3,h4⟩:=wv ps ę.toList h2.2;refine⟨.ref a,rfl,λF=>?_⟩;unfold Ē;exact⟨a,xs,rfl,.inr ⟨o,ę,n,ho,ht,hd,by rw[ġ];exact of_decide_eq_true h2.1,h3⟩,h4 F⟩
      ·cases h2
     ·cases h1
    ·cases h
   ·cases h
 |.non,_,h=>by unfold om at h;cases h|.bl _,_,h=>by unfold om at h;cases h|.str _,_,h=>by unfold om at h;cases h|.lst _,_,h=>by unfold om at h;cases h|.ins _ _ _,_,h=>by unfold om at h;cases h|.xc _ _ _,_,h=>by unfold om at h;cases h|.ty _,_,h=>by unfold om at h;cases h|.FE _ _,_,h=>by unfold om at h;cases h
theorem wv{K:KK}:∀(ps:List PV) (vs:List Á),Ak K.K K.cm ps vs=Δ->∃xs,Ő xs vs/\∀F,ç K F ps xs
 |[],vs,h=>by
   unfold Ak at h;cases vs with
   |nil=>exact⟨[],.nil,λF=>ç.nil⟩
   |cons _ _=>cases h
 |p::ps,vs,h=>by
  unfold Ak at h;cases vs with
  |nil=>cases h|cons v r=>rw[þ]at h;obtain⟨x,h1,h2⟩:=Al p v h.1;obtain⟨xs,h3,h4⟩:=wv ps r h.2;exact⟨x::xs,.cons h1 h3,λF=>ç.cons (h2 F)<|h4 F⟩
end
set_option tactic.hygienic false
noncomputable def GV(K:Ï)(b:String->À):List (Str×PV)->List ir->Bool
 |[],a=>a.isEmpty|(x,p)::t,a=>match a with
  |e::r=>gc x e.key&&om K b p e.val&&GV K b t r|[]=>Ε
theorem uG{K:Ï}(z:Str):∀{d:List (Str×PV)}{a:List ir},GV K y d a=Δ->(d.lookup z=Β/\(a.find? λe=>gc z e.key)=Β)\/∃p e,d.lookup z=Α p/\(a.find? λe=>gc z e.key)=Α e/\om K y p e.val=Δ
 |[],a,h=>by
   cases a with
   |nil=>exact .inl ⟨rfl,rfl⟩|cons _ _=>cases h
 |(x,p)::t,a,h=>by
  dsimp only[GV]at h;cases a with
  |nil=>cases h|cons e r=>
   rw[þ,þ]at h;obtain⟨⟨n,v⟩,u⟩:=h;by_cases j:z=x
   ·subst j;exact .inr ⟨p,e,by simp,by simp[n],v⟩
   ·have m:gc z e.key=Ε:=by
     cases q:gc z e.key with
     |false=>rfl|true=>exact absurd (Value.isStrOf_inj _ _ _ q n) j
    have l:(z==x)=Ε:=by simpa using j
    rcases uG z u with⟨i,g⟩|⟨s,w,i,g,o⟩
    ·exact .inl ⟨by rw[Š,l];exact i,by rw[List.find?_cons,m];exact g⟩
    ·exact .inr ⟨s,w,by rw[Š,l];exact i,by rw[List.find?_cons,m];exact g,o⟩
def yP(K:Ï)(e:String->À)(P:ip)(a:À)(d:List (Str×PV)):Prop:=∃b n,K.lookup a=Α ⟨.type "dict",Β,.dict b n,#[]⟩/\PySem.W.KeysLit P b.toList/\GV K e d b.toList=Δ/\(a==oW)=Ε
noncomputable def GX(nm:String)(ϸ:List (Str×PV)):PV->PV->Option PV
 |.str z,.cls n=>if n=nm then Α (.bl<|!(ϸ.lookup z).isSome)else Β|_,_=>Β
noncomputable def GY(nm:String)(ϸ:List (Str×PV)):PV->PV->Option PV
 |.cls n,.str z=>if n=nm then ϸ.lookup z else Β|_,_=>Β
def Kn(a:À)(b:List (Str×PV)):R2:=λx y H Q=>∃z,x=.str z/\y=.ref a/\Q (.bl<|!(b.lookup z).isSome) H
def Ko(K:KK)(a:À)(b:List (Str×PV)):R2:=λx y H Q=>∃z p,x=.ref a/\y=.str z/\b.lookup z=Α p/\∀v,(∀F,Ē K F p v)->Q v H
def rn(z:Str)(c:Array ir):findBy gc c z=(c.toList.find? λe=>gc z e.key).map (·.val):=by unfold findBy;rw[List.find?_toArray]
section
variable{X:Cx}{cm:String->À}{a:À}{ϸ:List (Str×PV)}{nm:String}
def Jm(h:yP X.K cm X.w.params a ϸ):aQ X (Ĵ .NotIn) (Kn a ϸ):=by
 intro Å s b H x y v u Q I l k m;refine BL λZ=>?_;obtain⟨z,rfl,rfl,q⟩:=m;obtain⟨t,rfl⟩:=l;cases k;obtain⟨B,n,A,w,r,o⟩:=h;refine Z ?_;refine wpAny_notIn_of (strKind_is X.prog X.w z t) o (PySem.W.mapOf_K I.vk A w) ⟨.bl _,H,I.tok _,rfl,?_⟩;have e:(findBy gc B z).isSome=(ϸ.lookup z).isSome:=by rw[rn];rcases uG z r with⟨j,i⟩|⟨p,e,j,i,q3⟩<;>rw[j,i]<;>rfl
 rw[e];exact q
def Nf(h:yP X.K cm X.w.params a ϸ):Az X (Ko ∅ a ϸ):=by
 intro j k Å s b H x y v u Q I B A J G;refine BL λZ=>?_;obtain⟨z,p,rfl,rfl,i,q⟩:=J;cases B;obtain⟨t,rfl⟩:=A;obtain⟨es,n,O,N,L,h4⟩:=h;refine Z ?_;have w:=PySem.W.mapOf_K (prog:=X.prog) I.vk O N;rcases uG z L with⟨l,o⟩|⟨p',e,l,o,E⟩
 ·rw[l]at i;cases i
 ·rw[l]at i;cases i;obtain⟨x,D,C⟩:=Al (K:=kk X cm) p e.val E;refine tail_any w.typeIs slot_dict_getitem.lookup (wpAny_getItem_of (strKind_is X.prog X.w z t) w ?_ ⟨x,H,I.tok _,D,q x C⟩) G;rw[rn,o];rfl
set_option tactic.hygienic true
def Jn(ha:cm nm=a):kZ ∅ (Kn a ϸ) (GX nm ϸ):=by
 intro c F H b d p q pv v u Q rel r1 r2 e k;unfold GX at e;split at e
 ·rename_i z n;split at e
  ·rename_i hn;subst hn;cases e;cases r1.str;have r2':u=.ref (cm n):=by
    rcases r2 with r2|r2
    ·unfold Ē at r2;exact r2
    ·exact r2.elim
   subst r2';exact⟨z,rfl,by rw[ha],k _ F H rel Č Č (by unfold Ē;rfl)⟩
  ·cases e
 ·cases e
def Jo(m:cm nm=a):kZ ∅ (Ko ∅ a ϸ) (GY nm ϸ):=by
 intro c F H b d p q pv v u Q rel f h e k;unfold GY at e;split at e
 ·rename_i n z;split at e
  ·rename_i l;subst l;cases h.str;have i:v=.ref (cm n):=by
    rcases f with f|f
    ·unfold Ē at f;exact f
    ·exact f.elim
   subst i;exact⟨z,pv,by rw[m],rfl,e,λx j=>k x F H rel Č Č<|j F⟩
  ·cases e
 ·cases e
set_option tactic.hygienic false
end
@[simp]def Jp(e:List (String×MF))(mo:M PV)(f:M (List Slot))(c:ć):Ĳ RV:=(mo c).bind fun p b=>match p with
  |.cls C=>(match e.lookup C with
    |some g=>(f b).bind λas a=>match g as with
     |.ret r=>.ok r a|.exc x=>.exc x a|.bad=>.bad
    |none=>.bad)
  |_=>.bad
def Wz(a:À)(l:Option À)(b:À):Prop:=b=a\/l=Α b
abbrev OB:=Option<|List Str×List PV
def Jq(K:KK)(F H:Hp)(a b:À)(C:String)(z:List Str×List PV):Prop:=∃fs,H a=Α (.ins (K.cm C) b fs)/\F a=Β/\fs.map (·.1)=z.1/\ç K F z.2 (fs.map (·.2))
structure Kp(a:À)(l:Option À)(F H F' H':Hp):Prop where
 h:∀b u,¬Wz a l b->H b=Α u->H' b=Α u
 f:Ù F F'
 sub:Ù F' H'
 out:∀b,¬Wz a l b->H b≠Β->F b=Β->F' b=Β
def Qt(K:KK)(F H:Hp)(C:String)(a:À):Option À->OB->Prop
 |none,Β=>True|some l,Α z=>Jq K F H l a C z|_,_=>False
abbrev DD:=À×À
def yQ(K:KK)(F H:Hp)(a:À)(dx:DD)(C:String)(l:Option À)(ns:List Str)(ps:List PV)(q:OB):Prop:=Jq K F H a dx.1 C (ns,ps)/\Qt K F H C dx.2 l q
inductive MR where
 |ret (p:PV) (ns:List Str) (ps:List PV) (q:OB)|exc (x:PX) (ns:List Str) (ps:List PV) (q:OB)|bad
abbrev MM:=List Str->List PV->OB->List PV->MR
noncomputable def gm(C:String)(ns:List Str)(a:List PV):OB->ć
 |none=>[.rc C ns a]|some z=>[.rc C ns a,.rd C z.1 z.2]
noncomputable def kS(C:String):OB->ć->Option (List Str×List PV×OB)
 |none,.rc c b a::_=>if c=C then Α (b,a,Β)else Β|some _,.rc c b a::.rd f d e::_=>if c=C/\f=C then Α (b,a,Α (d,e))else Β|_,_=>Β
def MR.of(C:String)(q:OB):Ĳ Fl->MR
 |.ok (.rt<|.sh p) a=>match kS C q a with
   |some z=>.ret p z.1 z.2.1 z.2.2|none=>.bad
 |.ok .nx a=>match kS C q a with
   |some z=>.ret .non z.1 z.2.1 z.2.2|none=>.bad
 |.exc x a=>match kS C q a with
   |some z=>.exc x z.1 z.2.1 z.2.2|none=>.bad
 |_=>.bad
def jt(n k:Nat)(C:String)(mb:M Fl):MM:=λns a q d=>if(gm C ns a q).length+d.length=n then MR.of C q (mb<|gm C ns a q++Ğ (k-(gm C ns a q).length) (d.map .sh))else .bad
def Qu(K:KK)(E:XK)(F H:Hp)(Q:VK)(a:À)(g:DD)(C:String)(l:Option À):MR->Prop
 |.ret p f e q=>∀v c b,Kp a l F H c b->yQ K c b a g C l f e q->Ē K c p v->Q v b|.exc x f e q=>∀h d c b,Kp a l F H c b->yQ K c b a g C l f e q->yo K c x h d->E h d b|.bad=>False
noncomputable def uH(a:À):Option À->List V
 |none=>[.ref a]|some l=>[.ref a,.ref l]
def Ht(K:KK)(C:String)(h:MM):Sp:=λvs H Q E=>∃F a f l d c q e g,l≠Α a/\vs=uH a l++e/\Ù F H/\yQ K F H a f C l d c q/\ç K F g e/\Qu K E F H Q a f C l (h d c q g)
noncomputable def vx(a:À)(d:DD)(C:String)(l:Option À)(F H:Hp):Ctx:=⟨λb=>if b=a\/l=Α b then Β else H b,F,λx=>Β,λa' e f=>(a'=a/\e=d.1/\f=C)\/(l=Α a'/\e=d.2/\f="2")⟩
section
variable{K:KK}{F H F' H':Hp}{a:À}{dx:DD}{C:String}{l:Option À}{ns:List Str}{ps:List PV}{q:OB}{σ:ă}{ρ:ć}{as:List PV}{gZ:List V}
def yQ.len(h:yQ K F H a dx C l ns ps q):(uH a l).length=(gm C ns ps q).length:=by
 have b:=h.2;cases l with
 |none=>cases q with
  |none=>rfl|some _=>exact b.elim
 |some _=>cases q with
  |none=>exact b.elim|some _=>rfl
def DE(h:ç K F as gZ){n i:Nat}(e:(Ğ n<|as.map .sh)[i]?=Α s'):Ū K c F H (((gZ.map Α++ý (n-gZ.length) Β)[i]?).getD Β) s'/\s'.own=Ε:=by
 have hl:=h.length;unfold Ğ at e;by_cases f:i<as.length
 ·rw[Ϫ (by simpa using f),œ]at e;obtain⟨p,d⟩:∃p,as[i]?=Α p:=⟨_,Ĩ f⟩;rw[d]at e;cases e;obtain⟨v,j,g⟩:=cq h.pr d;rw[Ϫ (by simp;lia),œ,j];exact⟨⟨v,rfl,g⟩,rfl⟩
 ·rw[ie (by simp;lia),ig]at e;split at e
  ·cases e;exact⟨trivial,rfl⟩
  ·cases e
def ē.startM(KQ:l≠Α a)(s:Ù F H)(o:yQ K F H a dx C l ns ps q)(h:ç K F as gZ)(hN:(gm C ns ps q).length<=N.length):
 ē K (vx a dx C l F H) F H (L2.start N<|uH a l++gZ) (gm C ns ps q++Ğ (N.length-(gm C ns ps q).length) (as.map .sh)):=by
 have hl:=h.length;obtain⟨⟨fs,o1,o2,o3,o4⟩,o5⟩:=o;have x:∀b,(b=a\/l=Α b)->(vx a dx C l F H).B b=Β:=λb hb=>by show(if b=a\/l=Α b then Β else H b)=Β;rw[if_pos hb]
 have v:Ū K (vx a dx C l F H) F H (Α<|.ref a) (.rc C ns ps):=⟨a,dx.1,fs,rfl,o1,o2,x a<|.inl rfl,o3,o4,.inl ⟨rfl,rfl,rfl⟩⟩;have A:Ù (vx a dx C l F H).B H:=λb u e=>by
  have e':(if b=a\/l=Α b then Β else H b)=Α u:=e;split at e'
  ·cases e'
  ·exact e'
 cases l with
 |none=>
  cases q with
  |some _=>exact o5.elim|none=>
   have Rk:L2.start N (uH a Β++gZ)=Α (.ref a)::(gZ.map Α++ý (N.length-1-gZ.length) Β):=by unfold L2.start uH;simp;lia
   rw[Rk];refine⟨s,A,Ù.refl _,λd d z=>z,λd d e=>(by cases e),λd d=>rfl,?_,λi t e=>?_,λi j b h1 h2=>?_⟩
   ·simp[gm,Ğ]at hN⊢;lia
   ·cases i with
    |zero=>cases e;exact v|succ i=>exact(DE h (n:=N.length-1)<|by simpa[gm]using e).1
   ·have B:∀{i},ĳ F (Α (.ref a)::(gZ.map Α++ý (N.length-1-gZ.length) Β)) (gm C ns ps Β++Ğ (N.length-(gm C ns ps Β).length) (as.map .sh)) i b→i=0:=fun{i} ⟨t,y,w,_,m⟩=>by
     have m:=lv m;cases i with
     |zero=>rfl|succ i=>have:=(DE (K:=K) (H:=H) (c:=vx a dx C Β F H) h (n:=N.length-1) (i:=i) (s':=t)<|by simpa[gm]using w).2;rw[this]at m;cases m
    rw[B h1,B h2]
 |some l=>
  cases q with
  |none=>exact o5.elim|some D=>
   obtain⟨us,u1,u2,u3,u4⟩:=o5;have Rk:L2.start N (uH a (Α l)++gZ)=Α (.ref a)::Α (.ref l)::(gZ.map Α++ý (N.length-2-gZ.length) Β):=by unfold L2.start uH;simp;lia
   rw[Rk];have Pf:Ū K (vx a dx C (Α l) F H) F H (Α<|.ref l) (.rd C D.1 D.2):=⟨l,dx.2,us,rfl,u1,u2,x l<|.inr rfl,u3,u4,.inr ⟨rfl,rfl,rfl⟩⟩;refine⟨s,A,Ù.refl _,λd d z=>z,λd d e=>(by cases e),λd d=>rfl,?_,λi t e=>?_,λi j b h1 h2=>?_⟩
   ·simp[gm,Ğ]at hN⊢;lia
   ·cases i with
    |zero=>cases e;exact v|succ i=>cases i with
     |zero=>cases e;exact Pf|succ i=>exact(DE h (n:=N.length-2)<|by simpa[gm]using e).1
   ·have B:∀{i},ĳ F (Α (.ref a)::Α (.ref l)::(gZ.map Α++ý (N.length-2-gZ.length) Β)) (gm C ns ps (Α D)++Ğ (N.length-(gm C ns ps<|some D).length) (as.map .sh)) i b→(i=0∧b=a)∨(i=1∧b=l):=fun{i} ⟨t,y,w,q3,m⟩=>by
     cases i with
     |zero=>cases w;cases q3;exact .inl ⟨rfl,(V.ref.inj m).symm⟩|succ i=>cases i with
      |zero=>cases w;cases q3;exact .inr ⟨rfl,(V.ref.inj m).symm⟩|succ i=>have m:=lv m;have:=(DE (K:=K) (H:=H) (c:=vx a dx C Β F H) h (n:=N.length-2) (i:=i) (s':=t)<|by simpa[gm]using w).2;rw[this]at m;cases m
    rcases B h1 with⟨e1,z1⟩|⟨e1,z1⟩<;>rcases B h2 with⟨e2,z2⟩|⟨e2,z2⟩
    ·rw[e1,e2]
    ·exact absurd (congrArg Α<|z2.symm.trans z1) KQ
    ·exact absurd (congrArg Α<|z1.symm.trans z2) KQ
    ·rw[e1,e2]
def ē.WA(r:ē K (vx a dx C l F H) F' H' σ ρ):Kp a l F H F' H':=
 ⟨λb u f e=>r.base b u (by show(if b=a\/l=Α b then Β else H b)=_;rw[if_neg<|show ¬(b=a\/l=Α b)from f];exact e),r.f0,r.sub,λb f h g=>r.ge b (by show(if b=a\/l=Α b then Β else H b)≠Β;rw[if_neg<|show ¬(b=a\/l=Α b)from f];exact h) g⟩
def uI(s:C≠"2")(KQ:l≠Α a)(o:Qt K F H C dx.2 l q)(r:ē K (vx a dx C l F H) F' H' σ ρ)(h:kS C q ρ=Α z):yQ K F' H' a dx C l z.1 z.2.1 z.2.2:=by
 have d:∀{i:Nat}{f:List Str}{p:List PV},ρ[i]?=Α (.rc C f p)->Jq K F' H' a dx.1 C (f,p):=fun{i f p} e=>by
  obtain⟨b,v,fs,u,n,m,t,k,j,g⟩:=r.slot i _ e;rcases g with⟨rfl,rfl,_⟩|⟨_,_,z⟩
  ·exact⟨fs,n,m,k,j⟩
  ·exact absurd z s
 unfold kS at h;split at h
 ·split at h
  ·rename_i e;subst e;cases h;cases l with
   |none=>exact⟨d (i:=0) rfl,trivial⟩|some _=>exact o.elim
  ·cases h
 ·split at h
  ·rename_i e;obtain⟨rfl,rfl⟩:=e;cases h;cases l with
   |none=>exact o.elim|some l=>
    refine⟨d (i:=0) rfl,?_⟩;refine BL λZ=>?_;obtain⟨b,v,fs,u,n,m,t,k,j,g⟩:=r.slot 1 _ rfl;refine Z ?_;rcases g with⟨_,_,z⟩|⟨z,rfl,_⟩
    ·exact absurd z.symm s
    ·cases z;exact⟨fs,n,m,k,j⟩
  ·cases h
 ·cases h
end
section
variable{Pg:ï}{w:ã}{K:Ï}{cm:String->À}{mg:Str->Option Á}{base:Ô}{CX:gX}
def fnM{x qual:Str}{st:æ}{f:À}{fd:ą}{N D:List Str}{k n j:Nat}{C:String}{mb:M Fl}{mm:MM}(F:CN K x qual st f fd)(S:ı N D (è st))
 (dO:∀(o:Á) (A:ì) (i:List Env) (s:Ä) (H:Hp) (E:XK),Ń k (A.deeper<|ň qual (è st) s.heap.objs.size f o)→(A.deeper<|ň qual (è st) s.heap.objs.size f o).units+64<ύ→
   b_ (kj CX Pg w K mg base N qual (è st) f o A i s H E) (Ō st) (tS ⟨K,cm⟩ (λU=>E) mb))(hn:autoParam (D.length=n) Η)(hj:autoParam (N.length=j) Η)(hf:autoParam (mm=jt n j C mb) Η)(hle:autoParam (n<=j) Ι)(W:autoParam (C≠"2") Ι):Ϲ Pg w K mg base CX (k+1) f fd D (Ht ⟨K,cm⟩ C mm):=by
 subst hn hj hf;refine BL λV=>?_;obtain⟨oc,od,kV,doc,pm,an,o,ct,AG,rfl,lk,vf⟩:=F.ex;refine V ?_;have G:∀{F H:Hp}{Q:VK}{E:XK}{a:À}{I:DD}{l:Option À}{u:List Str}{t:List PV}{q:OB}{B:List PV},Qu ⟨K,cm⟩ E F H Q a I C l (jt D.length N.length C mb u t q B)->(gm C u t q).length+B.length=D.length:=by
  intro F H Q E a I l u t q B h;unfold jt at h;split at h
  ·assumption
  ·exact h.elim
 refine zy lk vf S (by rintro vs H Q E ⟨F,a,I,l,u,t,q,gZ,B,_,h1,_,Y,y,X⟩;rw[h1,ŭ,Y.len,<-y.length];exact G X) λA i s H vs Q E hr vB=>?_;refine BL λZ=>?_;obtain⟨F,a,I,l,u,t,q,gZ,B,R,rfl,Y,y,X,g⟩:=vB;refine Z ?_;have hl:=G g;refine⟨_,dO o A i s H E hr hr.units,vx a I C l F H,F,_,ē.startM R Y y X (by lia),?_⟩;unfold jt at g;rw[if_pos hl]at g;cases e:mb (gm C u t q++Ğ (N.length-(gm C u t q).length) (B.map .sh))with
 |bad=>rw[e]at g;exact g|exc x b=>
  rw[e]at g;unfold MR.of at g;dsimp only at g;cases m:kS C q b with
  |none=>rw[m]at g;exact g.elim|some z=>rw[m]at g;exact λc C' d L J rel s1 rx=>g C' d L J rel.WA (uI W R y.2 rel m) rx
 |ok fl b=>
  rw[e]at g;unfold MR.of at g;cases fl with
  |nx=>
   dsimp only at g;cases m:kS C q b with
   |none=>rw[m]at g;exact g.elim|some z=>rw[m]at g;exact λc L J rel s1=>g .non L J rel.WA (uI W R y.2 rel m)<|Ē.non
  |bk=>exact g.elim|ct=>exact g.elim|rt r=>
   cases r with
   |sh p=>
    dsimp only at g;cases m:kS C q b with
    |none=>rw[m]at g;exact g.elim|some z=>rw[m]at g;exact λv c L J rel s1 rv=>g v L J rel.WA (uI W R y.2 rel m) rv
   |_=>exact g.elim
end
def bc{h g:Type}(K:KK)(E:ă->XK)(R:RR h g)(c:Ctx)(F:Hp)(b:ă)(Q:g->Hp->Prop):Ĳ h->Prop
 |.ok p a=>∀v e f,ē K c e f b a->Ù F e->R c b a e f p v->Q v f|.exc x a=>∀C d e f,ē K c e f b a->Ù F e->yo K e x C d->E b C d f|.bad=>False
def nF{e d:Type}(K:KK)(E:ă->XK)(R:RR e d)(m:M e):ă->Hp->(d->Hp->Prop)->Prop:=λa H Q=>∃c F b,ē K c F H a b/\bc K E R c F a Q (m b)
section
variable{α β α' β':Type}{K:KK}{E:ă->XK}{R:RR α β}{R':RR α' β'}{c:Ctx}{F F1 H H1:Hp}{σ:ă}
def bc.mono(h:bc K E R c F σ Q r)(f:Ù F F1):bc K E R c F1 σ Q r:=by
 cases r with
 |ok p a=>exact λv e b rel s1 q=>h v e b rel (f.trans s1) q
 |exc x a=>exact λC d e b rel s1 q=>h C d e b rel (f.trans s1) q
 |bad=>exact h
theorem bc.bind(h:bc K E R' c F σ d (r.bind f))
 (k:∀p a v F1 H1,ē K c F1 H1 σ a->Ù F F1->R c σ a F1 H1 p v->bc K E R' c F1 σ d (f p a)->Q v H1):bc K E R c F σ Q r:=by
 cases r with
 |ok p b=>exact λv l j rel s1 q=>k p b v l j rel s1 q<|bc.mono (show bc K E R' c F σ d (f p b)from h) s1
 |exc x b=>exact h|bad=>exact h
def bc.bindG(h:bc K E R' c F σ d (r.bind f))
 (k:∀p a v F1 H1,ē K c F1 H1 σ a->Ù F F1->Ù H H1->R c σ a F1 H1 p v->bc K E R' c F1 σ d (f p a)->Q v H1):ϰ K E R c F H σ Q r:=by
 cases r with
 |ok p b=>exact λv l j rel s1 s2 q=>k p b v l j rel s1 s2 q<|bc.mono (show bc K E R' c F σ d (f p b)from h) s1
 |exc x b=>exact h|bad=>exact h
def ϑ.bindM(h:ϑ K E c F D (r.bind f))
 (k:∀p a v F1 H1,ē K c F1 H1 σ a->Ù F F1->R c σ a F1 H1 p v->ϑ K E c F1 D (f p a)->Q v H1):bc K E R c F σ Q r:=by
 cases r with
 |ok p b=>exact λv g e rel s1 q=>k p b v g e rel s1 q<|ϑ.mono (show ϑ K E c F D (f p b)from h) s1
 |exc x b=>exact λC d g e rel s1 q=>h σ C d g e rel s1 q
 |bad=>exact h
end
def ē.Kq{K:KK}(r:ē K c F H d l)(O:ĳ F d l i a)(R:d[i]?=Α (Α<|.ref a))(g:Kp a Β F H B U)(h:Ū K c B U (Α<|.ref a) s)(Y:∀b,s.at_ B (.ref a) b->b=a):ē K c B U d (l.set i s):=by
 obtain⟨h1,h2,Q⟩:=r.owned O;have A:∀b,b≠a->¬Wz a Β b:=λb f z=>by rcases z with z|z;exact f z;cases z
 refine⟨g.sub,λb u e=>?_,r.f0.trans g.f,λb t L=>?_,λb u e=>?_,r.lb,by simpa using r.len,λj D e=>?_,λj k b J E=>?_⟩
 ·have f:b≠a:=λz=>by rw[z,Q]at e;cases e
  exact g.h b u (A b f)<|r.base b u e
 ·have f:b≠a:=λz=>by rw[z]at t;exact t Q
  refine g.out b (A b f) (λz=>t ?_)<|r.ge b t L;cases q:c.B b with
  |none=>rfl|some u=>rw[r.base _ _ q]at z;cases z
 ·have f:b≠a:=λz=>by rw[z,r.lb a Q]at e;cases e
  obtain⟨p,v⟩:=r.lent b u e;exact⟨g.h b u (A b f) p,g.out b (A b f) (by rw[p];intro z;cases z) v⟩
 ·rcases ϛ e with⟨rfl,rfl,hl⟩|⟨N,e⟩
  ·rw[R];exact h
  ·refine(r.slot j D e).grow g.f λb u ⟨y,p,v⟩ t L k3=>?_;have f:b≠a:=λz=>by
    subst z;exact N<|r.sep j i b ⟨D,y,e,yn p,v⟩ O
   exact⟨g.h b u (A b f) t,g.out b (A b f) (by rw[t];intro z;cases z) L⟩
 ·have off:∀{j},ĳ B d (l.set i s) j b→(j=i∧b=a)∨(j≠i∧ĳ B d l j b):=fun{j} ⟨D,y,J,I,E⟩=>by
   rcases ϛ J with⟨e,rfl,_⟩|⟨N,q⟩
   ·subst e;rw[R]at I;cases I;exact .inl ⟨rfl,Y b E⟩
   ·exact .inr ⟨N,D,y,q,I,E⟩
  have zF:=r.zF g.f;have C:ĳ B d l i a:=by obtain⟨X,y,x,w,W⟩:=O;exact⟨X,y,x,w,CZ g.f W⟩
  rcases off J with⟨p,x⟩|⟨p,x⟩<;>rcases off E with⟨v,w⟩|⟨v,w⟩
  ·rw[p,v]
  ·exact absurd (zF k i b w<|x▸C) v
  ·exact absurd (zF j i b x<|w▸C) p
  ·exact zF j k b x w
def ē.Nh{K:KK}(r:ē K c F H d k)(YA:j≠i)(Z:ĳ F d k i a)(U:d[i]?=Α (Α<|.ref a))(Y:ĳ F d k j l)(R:d[j]?=Α (Α<|.ref l))(h_:l≠a)(g:Kp a (Α l) F H v p)
 (e2:p l=Α o)(B:v l=Β)(h:∀C,C a=p a->Ū K c v C (Α<|.ref a) s)(X:∀b,s.at_ v (.ref a) b->b=a)(A:Ū K c v p (Α<|.ref l) t)(W:∀b,t.at_ v (.ref l) b->b=l):ē K c v p d ((k.set i s).set j t):=by
 have g2:Kp a Β F H v (λb=>if b=l then H l else p b):=⟨λb u x e=>by
  split
  ·rename_i z;rw[<-z];exact e
  ·rename_i z;exact g.h b u (λq=>by rcases q with q|q;exact x<|.inl q;injection q with q;exact z q.symm) e,g.f,λb u e=>by
  split
  ·rename_i z;rw[z,B]at e;cases e
  ·exact g.sub b u e,λb x Q O=>by
  by_cases z:b=l
  ·rw[z];exact B
  ·exact g.out b (λq=>by rcases q with q|q;exact x<|.inl q;injection q with q;exact z q.symm) Q O⟩
 have L:=r.Kq Z U g2 (h _ (by rw[if_neg<|λz=>h_ z.symm])) X;have eH:p=upd (λb=>if b=l then H l else p b) l o:=funext λb=>by
  by_cases z:b=l
  ·rw[z,ā,e2]
  ·rw[ñ z,if_neg z]
 have N:ĳ v d (k.set i s) j l:=by obtain⟨J,y,I,G,E⟩:=Y;exact⟨J,y,by rw[jK<|Ť YA];exact I,G,CZ g.f E⟩
 rw[eH]at A⊢;exact L.write N R A W
noncomputable def Jr:Slot->Option (Bool×String×List Str×List PV)
 |.rc C b a=>Α (Ε,C,b,a)|.rd C b a=>Α (Δ,C,b,a)|_=>Β
noncomputable def GZ(b:Bool)(C:String)(ns:List Str)(ps:List PV):Slot:=match b with
 |true=>.rd C ns ps|false=>.rc C ns ps
def i_(i:Nat)(C:String)(l:MM)(k:M (List PV)):M PV:=λc=>match(c[i]?).bind Jr with
 |some _=>(k c).bind λas a=>match(a[i]?).bind Jr with
  |some (b,m,j,h)=>if m=C then(match l j h Β as with
   |.ret p d e Β=>.ok p<|a.set i<|GZ b C d e|.exc x d e Β=>.exc x<|a.set i<|GZ b C d e|_=>.bad)else .bad
  |_=>.bad
 |_=>.bad
def dE(i:Nat)(C:String)(f:Str)(e:MM)(d:M (List PV)):M PV:=λa=>match(a[i]?).bind Jr with
 |some (_,g,c,_)=>if g=C/\c.contains f=Ε then i_ i C e d a else .bad|_=>.bad
def uJ(i j:Nat)(C:String)(l:MM)(k:M (List PV)):M PV:=λb=>match b[i]?,b[j]?with
 |some (.rc _ _ _),Α (.rc _ _ _)=>(k b).bind λas a=>match a[i]?,a[j]?with
  |some (.rc q h g),Α (.rc o m n)=>if q=C/\o=C then(match l h g (Α (m,n)) as with
   |.ret p c d (Α z)=>.ok p<|(a.set i<|.rc C c d).set j (.rc C z.1 z.2)|.exc x c d (Α z)=>.exc x<|(a.set i<|.rc C c d).set j (.rc C z.1 z.2)|_=>.bad)else .bad
  |_,_=>.bad
 |_,_=>.bad
section
variable{X:Cx}{cm:String->À}{E:ă->XK}{CX:gX}{k j:Nat}{f:À}{fd:ą}{ps:List Str}{mm:MM}{x y:Str}{st:æ}{p pos py:Pos}{e:Ç}{es:List Ç}{C:String}{mr:M (List PV)}{i:Nat}
def uK{K:KK}{ps:List PV}(rel:ē K c F H g d)(e:(d[i]?).bind Jr=Α (b,C,ns,ps)):∃a h fs,g[i]?=Α (Α<|.ref a)/\H a=Α (.ins (K.cm C) h fs)/\F a=Β/\c.B a=Β/\fs.map (·.1)=ns/\ç K F ps (fs.map (·.2))/\ĳ F g d i a/\
 ∀{L J:Hp}{G:List Str}{I:List PV},Jq K L J a h C (G,I)->Ū K c L J (Α<|.ref a) (GZ b C G I):=by
 cases n:d[i]?with
 |none=>rw[n]at e;cases e|some s=>
  rw[n]at e;have q:=rel.slot i s n;cases s with
  |rc C ns ps=>cases e;obtain⟨a,h,fs,m,v,u,l,t,r,o⟩:=q;exact⟨a,h,fs,Ŀ m,v,u,l,t,r,⟨_,_,n,Ŀ m,rfl⟩,λ⟨D,B,A,z,w⟩=>⟨a,h,D,rfl,B,A,l,z,w,o⟩⟩
  |rd C ns ps=>cases e;obtain⟨a,h,fs,m,v,u,l,t,r,o⟩:=q;exact⟨a,h,fs,Ŀ m,v,u,l,t,r,⟨_,_,n,Ŀ m,rfl⟩,λ⟨D,B,A,z,w⟩=>⟨a,h,D,rfl,B,A,l,z,w,o⟩⟩
  |_=>cases e
def Ni{ps:List PV}(z:(GZ t C ns ps).at_ F (.ref a) b):b=a:=by cases t<;>exact(V.ref.inj z).symm
set_option tactic.hygienic true in
def ww{c:Ctx}{F F1 H H1:Hp}{m:ă}{l:ć}{Q:VK}{as:List PV}{vs:List V}{a:À}(hx:m[i]?=Α (Α<|.ref a))(Û:ē ∅ c F1 H1 m l)(r1:ç ∅ F1 as vs)
 (h:bc ∅ E (rV<|kk X cm) c F1 m Q (match(l[i]?).bind Jr with
 |some (b,C',ns,ps)=>if C'=C then(match mm ns ps Β as with
  |.ret p qC gW Β=>.ok p<|l.set i<|GZ b C qC gW|.exc x qC gW Β=>.exc x<|l.set i<|GZ b C qC gW|_=>.bad)else .bad
 |_=>.bad)):Ht ∅ C mm (.ref a::vs) H1 Q (E m):=by
 split at h
 ·rename_i b C' ns ps e;split at h
  ·rename_i hC;subst hC;refine BL λZ=>?_;obtain⟨a2,dx,fs,q1,q2,q3,q4,q5,q6,q8,q9⟩:=uK Û e;refine Z ?_;rw[hx]at q1;cases q1;refine⟨F1,a,(dx,dx),Β,ns,ps,Β,vs,as,(by simp),rfl,Û.sub,⟨⟨fs,q2,q3,q5,q6⟩,trivial⟩,r1,?_⟩;have go:∀{F' H':Hp}{qC:List Str}{gW:List PV},Kp a Β F1 H1 F' H'->yQ ∅ F' H' a (dx,dx) C' Β qC gW Β->ē ∅ c F' H' m (l.set i<|GZ b C' qC gW):=λg o=>Û.Kq q8 hx g (q9 o.1) λy=>Ni;cases em:mm ns ps Β as with
   |bad=>rw[em]at h;exact h|ret p qC gW q=>
    rw[em]at h;cases q with
    |none=>exact λv F' H' g o rp=>h v F' H' (go g o) g.f rp
    |some _=>exact h.elim
   |exc x qC gW q=>
    rw[em]at h;cases q with
    |none=>exact λC d F' H' g o rp=>h C d F' H' (go g o) g.f rp
    |some _=>exact h.elim
  ·exact h.elim
 ·exact h.elim
def Js(i:Nat)(F:Ϲ X.prog X.w X.K X.mg X.base CX k f fd ps (Ht ∅ C mm))(D:Df X.K X.mg x st ps f fd)(hr:Ń j X.A)(hx:ϝ CX X E)(ho:PE X (.Name y py) (dR i))(ha:PA X es (tL ∅ E mr))
 (hg:autoParam (Gl X x) Ζ)(qB:autoParam (k<=j) Ι)(jD:autoParam ((x==("__debug__":Str))=Ε) Ζ)(he:autoParam (Î (.Name y py::es) X.env=(Ε,eval (.Name y py) X.env)::Î es X.env) Θ)(bZ:autoParam ((ü pos<|Î es X.env).any (·.1)=Ε) Ζ):
 PE X (.Call (.Name x p) (.Name y py::es) [] pos) (nF ∅ E (rV<|kk X cm)<|i_ i C mm mr):=
 PE.wk (qd F (hr.mono qB) hg D.m D.F.kp D.b hx (ŧ ho ha he) jD he bZ)<|by
   rintro l H Q ⟨c,F,d,rel,h⟩;unfold i_ at h;split at h
   ·rename_i z e;obtain⟨a,dx,fs,q1,_⟩:=uK rel e;exact⟨.ref a,q1,c,F,d,rel,bc.bindG h λas g vs F1 H1 Û s1 s2 r1 h1=>ww (F:=F) (H:=H) q1 Û r1 h1⟩
   ·exact h.elim
set_option tactic.hygienic true
def Jt{pl:Sem Bool}{aD:Pos}{lF:Str}(i:Nat)(hc:zn X.K (cm C))(M:uZ X.K (cm C) lF f)(F:Ϲ X.prog X.w X.K X.mg X.base CX k f fd ps (Ht ∅ C mm))(hb:Binds X.K fd ps [])(hr:Ń k X.A)(hx:ϝ CX X E)(ho:PE X (.Name y py) (dR i))(ha:PA X (e::es) (tL ∅ E mr))
 (fJ:autoParam (Î (e::es) X.env=(Ε,eval e X.env)::Î es X.env) Θ)(bZ:autoParam ((ü pos<|Î es X.env).any (·.1)=Ε) Ζ)
 (ht:autoParam (eval (.Call (.Attribute (.Name y py) lF aD) (e::es) [] pos) X.env=(do
   let ov<-eval (.Name y py) X.env
   fU aD.atName
   let (f,first)<-cI [ov] (il ov lF pl)
   fX pos f first (ü pos<|Î (e::es) X.env) (af pos<|ag [] X.env))) Η):
 PE X (.Call (.Attribute (.Name y py) lF aD) (e::es) [] pos) (nF ∅ E (rV<|kk X cm)<|dE i C lF mm mr):=by
 rintro Å s b H Q I ⟨c,F',d,rel,h⟩;unfold dE at h;split at h
 ·rename_i t C' ns gW e1;split at h
  ·rename_i YM;refine BL λZ=>?_;obtain⟨YM,hn⟩:=YM;subst YM;obtain⟨a,dx,fs,q1,q2,q3,q4,q5,_⟩:=uK rel e1;refine Z ?_;unfold i_ at h;rw[e1]at h;refine xR (Ż (ho Å s b H (λv H1=>v=.ref a/\H1=H) I ⟨.ref a,q1,rfl,rfl⟩) λu s1 zz=>?_) ht;refine BL λY=>?_;obtain⟨v,H1,I1,rv,ev,eH⟩:=zz;subst ev eH;obtain rfl:=rv;refine Y ?_;refine nW I1 q2 hc M (nh (by rw[q5];exact hn)) ?_;refine kc I.ok.mod.EU M.kp (Ż (ha pos Å s1 b H1 (λvs H2=>Ht ∅ C' mm (.ref a::vs) H2 Q<|E b) I1 ⟨c,F',d,rel,bc.bindG h λas g vs F1 H2 Û s1 s2 r1 h1=>ww (F:=F') (H:=H1) q1 Û r1 h1⟩) λus s2 ⟨vs,H2,I2,r,q2⟩=>⟨I2.vk,?_⟩) fJ bZ;exact pR (vs:=.ref a::vs) F hr hb hx I2 (.cons rfl r) q2
  ·exact h.elim
 ·exact h.elim
def Ju(i l:Nat)(F:Ϲ X.prog X.w X.K X.mg X.base CX k f fd ps (Ht ∅ C mm))(D:Df X.K X.mg x st ps f fd)(hr:Ń j X.A)(hx:ϝ CX X E){z:Str}{w:Pos}(ho:PE X (.Name y py) (dR i))(hl:PE X (.Name z w) (dR l))(ha:PA X es (tL ∅ E mr))(Uq:autoParam (l≠i) Ι)
 (hg:autoParam (Gl X x) Ζ)(qB:autoParam (k<=j) Ι)(jD:autoParam ((x==("__debug__":Str))=Ε) Ζ)(he:autoParam (Î (.Name y py::.Name z w::es) X.env=(Ε,eval (.Name y py) X.env)::Î (.Name z w::es) X.env) Θ)(Rx:autoParam (Î (.Name z w::es) X.env=(Ε,eval (.Name z w) X.env)::Î es X.env) Θ)(bZ:autoParam ((ü pos<|Î (.Name z w::es) X.env).any (·.1)=Ε) Ζ):
 PE X (.Call (.Name x p) (.Name y py::.Name z w::es) [] pos) (nF ∅ E (rV<|kk X cm)<|uJ i l C mm mr):=
 PE.wk (qd F (hr.mono qB) hg D.m D.F.kp D.b hx (ŧ ho (ŧ hl ha Rx) he) jD he bZ)<|by
   rintro r H Q ⟨c,F,s,rel,h⟩;unfold uJ at h;split at h
   ·rename_i C' U ps J Ng KD e W;obtain⟨a,dx,fs,R,_⟩:=uK rel (by rw[e];rfl);obtain⟨b,Z,us,N,_⟩:=uK rel (by rw[W];rfl);refine⟨.ref a,R,.ref b,N,c,F,s,rel,bc.bindG h λas n vs F1 H1 A s1 s2 r1 m=>?_⟩;split at m
    ·rename_i C' U ps J Ng KD e W;split at m
     ·rename_i hC;refine BL λL=>?_;obtain⟨rfl,rfl⟩:=hC;obtain⟨a2,dx,fs,p1,p2,p3,p4,p5,p6,p8,p9⟩:=uK A (by rw[e];rfl);obtain⟨b2,Z,us,t1,t2,t3,t4,t5,t6,t8,t9⟩:=uK A (by rw[W];rfl);refine L ?_;rw[R]at p1;cases p1;rw[N]at t1;cases t1;have h_:b≠a:=λz=>Uq<|A.sep l i a (z▸t8) p8;refine⟨F1,a,(dx,Z),Α b,U,ps,Α (Ng,KD),vs,as,λz=>h_<|Ň z,rfl,A.sub,⟨⟨fs,p2,p3,p5,p6⟩,us,t2,t3,t5,t6⟩,r1,?_⟩;have go:∀{u t:Hp}{B:List Str}{G:List PV}{z:List Str×List PV},Kp a (Α b) F1 H1 u t->yQ ∅ u t a (dx,Z) J (Α b) B G (Α z)->ē ∅ c u t r ((n.set i<|.rc J B G).set l (.rc J z.1 z.2)):=fun{u t B G z} g ⟨⟨JI,o1,o2,o3⟩,Up,o5,o6,o7⟩=>
       A.Nh Uq p8 R t8 N h_ g o5 o6 (λH2 z=>p9 ⟨JI,z.trans o1,o2,o3⟩) (λb z=>(V.ref.inj z).symm) (t9 ⟨Up,o5,o6,o7⟩)<|λb z=>(V.ref.inj z).symm
      cases Y:mm U ps (Α (Ng,KD)) as with
      |bad=>rw[Y]at m;exact m|ret p B G q=>
       rw[Y]at m;cases q with
       |some _=>exact λv u t g o O=>m v u t (go g o) g.f O
       |none=>exact m.elim
      |exc x B G q=>
       rw[Y]at m;cases q with
       |some _=>exact λC d u t g o O=>m C d u t (go g o) g.f O
       |none=>exact m.elim
     ·exact m.elim
    ·exact m.elim
   ·exact h.elim
set_option tactic.hygienic false
end
section
variable{X:Cx}{cm:String->À}{E:ă->XK}{a b e:Ç}{pos:Pos}{m ma mb:M PV}{m1 m2:M Fl}{t:M Bool}
def G_(D:kZ ∅ r f)(h:nF ∅ E (rV<|kk X cm) (Ê f ma mb) g H Q):HQ r (nF ∅ E (rV<|kk X cm) ma) (tR ∅ E mb) g H Q:=by
 obtain⟨c,F,i,rel,h⟩:=h;refine⟨c,F,i,rel,h.bind λp d v J H1 x a B G=>⟨c,J,d,x,bc.bindG G λq j u F2 H2 w y sH A k=>?_⟩⟩;cases e:f p q with
 |none=>rw[e]at k;exact k.elim|some pv=>rw[e]at k;exact D w (rR.of<|Ē.same y p v B) A e λz K I s s1 s2 C=>k z K I s s1 C
def Nj{op:df}{r:R2}{f:PV->PV->Option PV}(hf:kZ ∅ r f)(ho:aQ X (Ĵ op) r)(ha:PE X a (nF ∅ E (rV<|kk X cm) ma))(hb:PE X b (tR ∅ E mb))(hm:ik op b=Ε):PE X (.Compare a [op] [b] pos) (nF ∅ E (rV<|kk X cm)<|Ê f ma mb):=
 PE.wk (CJ ho ha hb hm) λx x x h=>G_ hf h
def oo(u:kZ ∅ r f)(q:aQ X (Ĵ j) r)(x:PE X a (nF ∅ E (rV<|kk X cm) ma))(w:PE X b (tR ∅ E mb))(s:ik j b=Ε):PT X (.Compare a [j] [b] pos) (nF ∅ E rB<|ϐ<|Ê f ma mb):=
 PT.wk (Fj q x w s)<|by rintro i H Q ⟨c,F,d,rel,h⟩;exact G_ u ⟨c,F,d,rel,bc.bind h fun p g v z y n _ o l=>by
   cases p with
   |bl b=>
    have e:=by have k:=o;exact k
    subst e;exact l b z y n Č rfl
   |_=>exact l.elim⟩
def G0(s:PE X a (nF ∅ E (rV<|kk X cm) ma))(he:autoParam (∀f,isTrue a X.env f=(do let v<-f;fU a.pos;cI [v] (truthy v))) Ν):PT X a (nF ∅ E rB<|dU ma):=PT.wk (zt s he) λσ H Q ⟨c,F,l,rel,h⟩=>
 ⟨c,F,l,rel,h.bind fun p d v w u o _ r j=>by
   cases e:LU p with
   |none=>rw[e]at j;exact j.elim|some k=>rw[e]at j;exact⟨k,JY (c:=c) (σ:=σ) (ρ:=d) o.sub (rR.of r) e,j k w u o Č rfl⟩⟩
def G1(h:PT X a (nF ∅ E rB t)):PT X (.UnaryOp .Not a pos) (nF ∅ E rB<|iH t):=PT.wk (EX h) λg H Q ⟨c,F,d,rel,h⟩=>
 ⟨c,F,d,rel,h.bind λp f v o n j x k l=>l _ o n j Č (by have e:=k;rw[e];rfl)⟩
def Nk(he:PE X e (nF ∅ E (rV<|kk X cm) m)):PS X (.Return (Α e) pos) (tS ∅ E<|Ā<|ņ m):=PS.wk (EZ he)<|by rintro D i H ⟨c,F,g,rel,h⟩;exact ⟨c,F,g,rel,ϑ.bindM (f:=λp d=>.ok (.rt<|.sh p) d) (by
 revert h
 unfold Ā ņ;cases m g<;>exact id) λp d v s r n s1 q o=>o v i s r n Č q⟩
def uL(p:PT X a (nF ∅ E rB t))(u:b_ X o (tS ∅ E m1))(s:b_ X w (tS ∅ E m2)):PS X (.If a o w pos) (tS ∅ E<|au t m1 m2):=PS.wk (CG p u s)<|by rintro D g H ⟨c,F,f,rel,h⟩;exact ⟨c,F,f,rel,ϑ.bindM h λr d v k H1 i s1 q j=>by
 have e:=q;subst e;cases r with
 |true=>exact⟨c,k,d,i,j⟩|false=>exact⟨c,k,d,i,j⟩⟩
end
section
variable{X:Cx}{cm:String->À}{E:ă->XK}{a b:Ç}{rest:List Ç}{pos:Pos}{ta tb:M Bool}{ma mb:M PV}
def nF.of{α β:Type}{K:KK}{E:ă->XK}{R:RR α β}{m:M α}{g:ă}{H:Hp}{Q:β->Hp->Prop}(h:nF K E R m g H Q):tG K E R m g H Q:=by
 obtain⟨c,F,i,rel,h⟩:=h;refine⟨c,F,i,rel,?_⟩;cases e:m i with
 |ok p f=>rw[e]at h;exact λv F' H' rel s1 y q=>h v F' H' rel s1 q
 |exc x f=>rw[e]at h;exact λC d F' H' rel s1 q=>h C d F' H' rel s1 q
 |bad=>rw[e]at h;exact h
def G2(h:PT X a (nF ∅ E rB ta)):PW X (.BoolOp .Or [a] pos) (nF ∅ E rB ta):=EV h
def Jv(h:PT X a (nF ∅ E rB ta)):PW X (.BoolOp .And [a] pos) (nF ∅ E rB ta):=CC h
def Kr(n:PT X a (nF ∅ E rB ta))(m:PW X (.BoolOp .Or (b::rest) pos) (nF ∅ E rB tb)):PW X (.BoolOp .Or (a::b::rest) pos) (nF ∅ E rB<|qI ta tb):=PW.wk (JP n m) λg H Q ⟨c,F,f,rel,h⟩=>
 ⟨c,F,f,rel,h.bind fun p d v j o g _ l i=>by
   have e:=l;subst e;cases p with
   |false=>exact⟨c,j,d,g,i⟩|true=>exact i Δ j o g Č rfl⟩
def Nl(n:PT X a (tB ∅ E ta))(m:PW X (.BoolOp .And (b::rest) pos) (nF ∅ E rB tb)):PW X (.BoolOp .And (a::b::rest) pos) (nF ∅ E rB<|ji ta tb):=PW.wk (EW n m) λg H Q ⟨c,F,f,rel,h⟩=>
 ⟨c,F,f,rel,bc.bindG h fun p d v j o g _ _ l i=>by
   have e:=l;subst e;cases p with
   |true=>exact⟨c,j,d,g,i⟩|false=>exact i Ε j o g Č rfl⟩
def Nn(n:PE X a (nF ∅ E (rV<|kk X cm) ma))(m:PE X (.BoolOp .And (b::rest) pos) (tV ∅ E mb)):PE X (.BoolOp .And (a::b::rest) pos) (nF ∅ E (rV<|kk X cm)<|gf ma mb):=PE.wk (Fn n m) λf H Q ⟨c,F,e,rel,h⟩=>
 ⟨c,F,e,rel,h.bind fun p d v j o g _ i f=>by
   cases p with
   |bl k=>
    cases qJ i;cases k with
    |true=>exact nF.of ⟨c,j,d,g,f⟩|false=>exact f _ j o g Č i
   |_=>exact f.elim⟩
end
def eA(m:Str)(ϸ:List (String×MF))(i:Nat)(ms:M (List Slot)):M RV:=λb=>match(b[i]?).bind ϲ with
 |some (.lr C ns _)=>(match ϸ.lookup C with
  |some mf=>if ns.contains m=Δ then .bad else(ms b).bind λas a=>match(a[i]?).bind ϲ with
   |some s=>(match mf (s::as)with
    |.ret r=>.ok r a|.exc x=>.exc x a|.bad=>.bad)
   |none=>.bad
  |none=>.bad)
 |_=>.bad
section
variable{X:Cx}{cm:String->À}{E:ă->XK}{CX:gX}{k n i:Nat}{lF y:Str}{ϸ:List (String×MF)}{ms:M (List Slot)}{e:Ç}{es:List Ç}{aD pos py:Pos}
set_option tactic.hygienic true in
def Jw{pl:Sem Bool}(i:Nat)(og:ur (λC q=>qN X cm CX k n lF C q) ϸ)(hr:Ń k X.A)(hx:ϝ CX X E)(ho:PE X (.Name y py) (dR i))(ha:PA X (e::es) (tA ∅ E ms))
 (fJ:autoParam (Î (e::es) X.env=(Ε,eval e X.env)::Î es X.env) Θ)(bZ:autoParam ((ü pos<|Î es X.env).any (·.1)=Ε) Ζ)
 (ht:autoParam (eval (.Call (.Attribute (.Name y py) lF aD) (e::es) [] pos) X.env=(do
   let J<-eval (.Name y py) X.env
   fU aD.atName
   let (f,first)<-cI [J] (il J lF pl)
   fX pos f first (ü pos<|Î (e::es) X.env) (af pos<|ag [] X.env))) Η):
 PE X (.Call (.Attribute (.Name y py) lF aD) (e::es) [] pos) (tO ∅ E<|eA lF ϸ i ms):=by
 rintro G s b H Q I ⟨c,F',g,rel,h⟩;unfold eA at h;split at h
 ·rename_i C ns ps e1;refine BL λY=>?_;obtain⟨v,L,a,dx,fs,rfl,p,q3,q5,q6⟩:=mZ rel e1;refine Y ?_;cases t:ϸ.lookup C with
  |none=>rw[t]at h;exact h.elim|some q=>
   rw[t]at h;dsimp only at h;split at h
   ·exact h.elim
   ·rename_i hn;refine BL λY=>?_;obtain⟨k1,f,fd,qs,K,k3,k4,k5⟩:=og.get t;refine Y ?_;refine xR (Ż (ho G s b H (λv x=>v=.ref a/\x=H) I ⟨.ref a,L,rfl,rfl⟩) λu s1 Z=>?_) ht;refine BL λW=>?_;obtain⟨v,x,O,rv,ev,eH⟩:=Z;subst ev eH;obtain rfl:=rv;refine W ?_;refine nW O p k1 K (nh (by rw[q5];simpa using hn)) ?_;refine kc I.ok.mod.EU K.kp (Ż (ha pos G s1 b x (λvs w=>rj ∅ n q (.ref a::vs) w Q<|E b) O ⟨c,F',g,rel,ϰ.bind h λas d vs F2 w D sF sH r3 o=>?_⟩)<|by rintro us s2 ⟨vs,w,N,r,p⟩;exact ⟨N.vk,pR (vs:=.ref a::vs) k3 hr k4 hx N (.cons rfl r) p⟩) fJ bZ;cases u:(d[i]?).bind ϲ with
    |none=>rw[u]at o;exact o.elim|some s=>rw[u]at o;obtain⟨v2,l,ao⟩:=mZ D u;rw[L]at l;cases l;exact pS k5 D (.cons ao r3) o
 ·exact h.elim
end
set_option tactic.hygienic true in
def qS{M:bE}(h:Runs M Γ p t fs s e s'):s.toks<=s'.toks:=by
 induction h<;>first
  |exact õ _
  |assumption
  |(rename_i d;exact ţ (mF _) d)
  |(rename_i b a;exact ţ b a)
def wp_toks{α:Type}{M:bE}{Q:α->Pos->Ä->Prop}:∀(t:Sem α) (p:Pos) (s:Ä),n<=s.toks->ĺ M Γ t Q E p s->ĺ M Γ t (λa p s'=>Q a p s'/\n<=s'.toks) E p s:=by
 intro t
 induction t with
 |pure a=>intro p s b h;rw[ĺ]at h⊢;exact⟨h,b⟩|raise e=>intro p s b h;rw[ĺ]at h⊢;exact h|unsupported w=>intro p s b h;rw[ĺ]at h;exact h.elim|finish e=>intro p s b h;rw[ĺ]at h;exact h.elim|rule tag k d=>intro p s b h;rw[ĺ]at h⊢;exact d () p s b h| «at» p' k d=>intro p s b h;rw[ĺ]at h⊢;exact d () p' s b h|load a part k d=>intro p s b h;rw[ĺ]at h⊢;obtain⟨o,i,x⟩:=h;exact⟨o,i,d o p s b x⟩|update a part f k d=>intro p s b h;rw[ĺ]at h⊢;exact⟨h.1,d () p _ b h.2⟩|loadIfAlive a k d=>intro p s b h;rw[ĺ]at h⊢;exact d _ p s b h|point l k d=>intro p s b h;rw[ĺ]at h⊢;exact d () p s b h|register a k d=>intro p s b h;rw[ĺ]at h;exact h.elim|alloc o k d=>intro p s b h;rw[ĺ]at h⊢;exact d _ p _ b h|fresh k d=>intro p s b h;rw[ĺ]at h⊢;exact d _ p _ (Nat.le_succ_of_le b) h|ask k d=>intro p s b h;rw[ĺ]at h⊢;exact d _ p s b h|choose src m k d=>intro p s b h;rw[ĺ]at h⊢;exact⟨h.1,d _ p _ b h.2⟩|os q l k d=>intro p s b h;rw[ĺ]at h⊢;exact d _ p _ b h|call c h0 g l k d=>intro p s b h;obtain⟨r,s',i,x⟩:=h;exact⟨r,s',i,d r p s' (ţ b<|qS i) x⟩|handled own k d=>intro p s b h;rw[ĺ]at h⊢;exact d _ p s b h|genState g k d=>intro p s b h;rw[ĺ]at h⊢;obtain⟨o,i,x⟩:=h;exact⟨o,i,d _ p s b x⟩|newGen c k d=>intro p s b h;rw[ĺ]at h⊢;exact d _ p _ b h|resume g r l k d=>
  intro p s b h;obtain⟨A,s',i,x⟩:=h;refine⟨A,s',i,d A p s' (ţ b ?_) x⟩;unfold Wakes at i;split at i
  ·exact i.elim
  ·split at i
   ·obtain⟨e,s1,q1,_,_,rfl⟩:=i;have:=qS q1;exact this
   ·obtain⟨_,rfl⟩:=i;exact õ _
   ·obtain⟨_,rfl⟩:=i;exact õ _
  ·obtain⟨e,s1,q1,_,_,rfl⟩:=i;have:=qS q1;exact this
  ·obtain⟨_,rfl⟩:=i;exact õ _
  ·obtain⟨_,rfl⟩:=i;exact õ _
 |yield v g l k d=>intro p s b h;exact h.elim|stack k d=>intro p s b h;exact d _ p s b h|thread k d=>intro p s b h;exact d _ p s b h|fork=>intro p s b h;exact h.elim|await=>intro p s b h;exact h.elim
def qf{α:Type}{M:bE}{A:ì}{t:Sem α}{Q:α->Ä->Prop}{E:Á->Ä->Prop}{s:Ä}{n:Nat}(hn:n<=s.toks)(h:Ð M A t Q E s):Ð M A t (λa s'=>Q a s'/\n<=s'.toks) E s:=λΓ p hΓ=>wp_toks t p s hn<|h Γ p hΓ
structure nG(Pg:ï)(w:ã)(K:Ï)(mg:Str->Option Á)(base:Ô)(CX:gX)(k:Nat)(f:À)(fd:ą)(ps:List Str)(sp:Sp):Prop where
 len:∀vs H Q E,sp vs H Q E->vs.length=ps.length
 run:∀(A:ì) (outer:List Env) (s:Ä) (H:Hp) (args:Args) (us:List Á) (vs:List V) (Q:VK) (E:XK),0<s.toks->Ń k A->zx Pg w K mg base A outer s H->fV s fd args (ps.zip us)->Ő vs us->sp vs H Q E->
  eM (Ú Pg w) A (.call (.ref f) args) (CR CX outer Pg w H s Q E) s
section
variable{Pg:ï}{w:ã}{K:Ï}{mg:Str->Option Á}{base:Ô}{CX:gX}{k:Nat}{f:À}{fd:ą}{ps:List Str}{sp:Sp}
def Ϲ.pos(F:Ϲ Pg w K mg base CX k f fd ps sp):nG Pg w K mg base CX k f fd ps sp:=⟨F.len,λA a s H b e d Q E x=>F.run A a s H b e d Q E⟩
theorem nG.mono(F:nG Pg w K mg base CX j f fd ps sp)(h:j<=k):nG Pg w K mg base CX k f fd ps sp:=⟨F.len,λA a s H b e d Q E i g=>F.run A a s H b e d Q E i<|g.mono h⟩
end
def S9(X:Cx)(d:List æ)(t:TS):Prop:=∀(c:List (À×Obj)) (s:Ä) (a:ă) (H:Hp) (D:Ends),Inv X c a H s->1<=s.toks->t D a H->Ð (Ú X.prog X.w) X.A (execs d X.env) (SP X c D) X.xe s
def No{K:Ï}{dV kV C Z g ct oc:Á}
 (lk:K.lookup f=Α ⟨oc,od,.func<|ϯ z qual i j scope dV kV C Z an g ct,AG⟩)(vf:kb K g qual=Δ)(S:ı N R scope)
 (len:∀vs H Q E,sp vs H Q E->vs.length=R.length)
 (dO:∀(A:ì) (c:List Env) (s:Ä) (H:Hp) (vs:List V) (Q:VK) (E:XK),Ń k (A.deeper<|ň qual scope s.heap.objs.size f g)→sp vs H Q E→
   ∃t,S9 (kj CX D w K mg base N qual scope f g A c s H E) j t/\t {nx:=λd l=>Q .non l,rt:=Q} (L2.start N vs) H):
 nG D w K mg base CX (k+1) f (ϯ z qual i j scope dV kV C Z an g ct) R sp:=by
 refine⟨len,λA c s H args us vs Q E h0 U B hb r Y=>?_⟩;have hl:=len _ _ _ _ Y;have KX:=B.mod.EU.keeps λb o e=>(B.bs b o e).1;have X9:=B.mod.nolimit.keeps λb o e=>(B.bs b o e).1;have He:∀y∈R.zip us,scope.names.lookup y.1=Α .local\/(scope.names.lookup y.1=Α .cell/\((Ŕ (s.heap.objs.size+1) scope.names []).lookup y.1).isSome=Δ):=by
  rintro ⟨n,v⟩ hy;rcases S.par n (oK hy).1 with q|q
  ·exact .inl q
  ·exact .inr ⟨q,xO _ _ _<|.inl q⟩
 refine codeAny_call_function U.depth (KX _ _ lk) rfl S.co S.gen rfl (Cz KX vf)<|hb _ _ _ _ ?_;refine Ż (qf h0<|Cc S.kind He λenv W s1 x=>And.intro W x) ?_;rintro env s1 ⟨⟨W,x⟩,hp⟩;subst W;refine⟨X9.keeps x.toInCall.keep,codeAny_func ?_⟩;obtain⟨t,ht,hq⟩:=dO A c s H vs Q E (U.deeper _) Y;have I:Inv (kj CX D w K mg base N qual scope f g A c s H E) [] (L2.start N vs) H s1:=vJ S U.hd B hl r x;refine ό (ht [] s1 (L2.start N vs) H _ I hp hq) (λfl L p=>?_) λe L p=>p;have nU:∀{a:ă}{l:Hp}{v:V}{u:Á},Inv (kj CX D w K mg base N qual scope f g A c s H E) [] a l L->RelV v u->Q v l->CE c D w H s Q u L:=
  fun{a l v u} J O q=>⟨v,l,J.os,J.bare,J.base,J.hok,O,q⟩
 cases fl with
 |ret u=>obtain⟨v,a,l,J,O,q⟩:=p;exact nU J O q|next=>obtain⟨a,l,J,q⟩:=p;exact nU (v:=V.non) J rfl q|brk=>obtain⟨_,_,_,q⟩:=p;exact ų q|cont=>obtain⟨_,_,_,q⟩:=p;exact ų q
section
variable{Pg:ï}{w:ã}{K:Ï}{cm:String->À}{mg:Str->Option Á}{base:Ô}{CX:gX}
def fnT{x qual:Str}{st:æ}{f:À}{Z:ą}{N o:List Str}{k n j:Nat}{mb:M Fl}{Y:MF}(F:CN K x qual st f Z)(S:ı N o (è st))
 (dO:∀(i:Á) (A:ì) (g:List Env) (s:Ä) (H:Hp) (E:XK),Ń k (A.deeper<|ň qual (è st) s.heap.objs.size f i)→
   S9 (kj CX Pg w K mg base N qual (è st) f i A g s H E) (Ō st) (tS ⟨K,cm⟩ (λy=>E) mb))(hn:autoParam (o.length=n) Η)(hj:autoParam (N.length=j) Η)(hf:autoParam (Y=Ď n j mb) Η):nG Pg w K mg base CX (k+1) f Z o (rj ⟨K,cm⟩ n Y):=by
 subst hn hj hf;refine BL λV=>?_;obtain⟨oc,od,kV,doc,pm,an,i,ct,AG,rfl,lk,vf⟩:=F.ex;refine V ?_;refine No lk vf S (by rintro vs H Q E ⟨F,G,B,_,z,_⟩;rw[<-Paired.length z];exact B) λA g s H vs Q E hr vB=>?_;refine BL λV=>?_;obtain⟨F,G,B,z,h3,h⟩:=vB;refine V ?_;refine⟨_,dO i A g s H E hr,cu F H,F,Ğ N.length G,ē.start z h3,?_⟩;unfold Ď at h;rw[if_pos B]at h;cases e:mb (Ğ N.length G)with
 |bad=>rw[e]at h;exact h|exc x c=>rw[e]at h;exact λb C d l m rel s1 q=>h C d l m rel.gr q
 |ok fl c=>
  rw[e]at h;cases fl with
  |nx=>exact λb l m rel s1=>h .non l m rel.gr<|Ē.non (K:=⟨K,cm⟩) (F:=l)
  |bk=>exact h.elim|ct=>exact h.elim|rt r=>
   intro v b l m rel s1 q;refine h v l m rel.gr ?_;cases r with
   |sh p=>exact q|ow X=>obtain⟨a,D,R,O,L,J,_,I⟩:=q;exact⟨a,D,R,O,L,J,I⟩|ot X ts rs=>obtain⟨p,a,xs,D,ys,R,e0,ex,O,L,J,_,I⟩:=q;exact⟨p,a,xs,D,ys,R,e0,ex,O,L,J,I⟩|bn t o X W=>exact q
end
@[simp]def G3(y z:Str)(m:M PV)(b:ć):Ĳ PV:=(m b).bind fun p a=>match p with
  |.str t=>if t.length+(t.length+1)*z.length<=16777216then .ok (.str<|pi t y z) a else .bad|_=>.bad
section
variable{X:Cx}{cm:String->À}{E:ă->XK}{o:Ç}{m:M PV}{ap cp pos p1 p2:Pos}{j1 j2:Nat}{y z:Str}
def By{M:bE}{E:Á->Ä->Prop}{s:Ä}(h:Q [.str y s.toks,.str z<|s.toks+1] {s with toks:=s.toks+1+1}):Ð M A (spliced<|ü cp<|Î [.Constant (.str y) j1 p1,.Constant (.str z) j2 p2] env) Q E s:=by refine sU<|xy (k:=j1) (pos:=p1) ?_;refine sU<|xy (k:=j2) (pos:=p2) ?_;exact xz h
def Np(ho:PE X o (tV ∅ E m))(hyz:autoParam ((y==z)=Ε) Κ)(jE:autoParam (dg o "replace" X.env (eval o X.env)=eval o X.env) Ζ)
 (qY:autoParam (((ü cp<|Î [.Constant (.str y) j1 p1,.Constant (.str z) j2 p2] X.env).all (fun x=>!x.1)&&(af cp<|ag [] X.env).all (fun x=>x.1.isSome)
   &&decide ([Expr.Constant (.str y) j1 p1,Expr.Constant (.str z) j2 p2].length+([]:List Ϭ).length+(if([]:List Ϭ).isEmpty then 0 else 1)<30))=Δ) Η)
 (jF:autoParam ((ap.endLine==cp.line)=Δ) Η)(kM:autoParam ((ü cp<|Î [.Constant (.str y) j1 p1,.Constant (.str z) j2 p2] X.env).any (·.1)=Ε) Η):
 S9 X [.Return (Α<|.Call (.Attribute o "replace" ap) [.Constant (.str y) j1 p1,.Constant (.str z) j2 p2] [] cp) pos] (tS ∅ E<|Ā<|ņ<|G3 y z m):=by
 rintro Å s b H D I h0 ⟨c,F,d,rel,h⟩;have key:Ð (Ú X.prog X.w) X.A (eval (.Call (.Attribute o "replace" ap) [.Constant (.str y) j1 p1,.Constant (.str z) j2 p2] [] cp) X.env) (EP X Å b λv H1=>D.rt v H1) X.xe s:=by
  have hm:tV ∅ E m b H λx H1=>∃t,x=.str t/\t.length+(t.length+1)*z.length<=16777216/\D.rt (.str<|pi t y z) H1:=by
   refine⟨c,F,d,rel,ϑ.bind (D:=D) (f:=λp a=>match p with
    |.str t=>if t.length+(t.length+1)*z.length<=16777216then .ok (.rt<|.sh<|.str<|pi t y z) a else .bad|_=>.bad) (by
    revert h
    unfold Ā ņ G3;cases m d with
    |ok p a=>
     cases p with
     |str t=>dsimp only[Ĳ.bM];split<;>exact id|_=>exact id
    |exc x a=>exact id|bad=>exact id) λp a v F1 H1 Û s1 q h1=>?_⟩
   cases p with
   |str t=>
    dsimp only at h1;split at h1
    ·rename_i hl;have e:=by have q':=q;unfold Ē at q';exact q'
     exact⟨t,e,hl,h1 _ b F1 H1 Û Č<|Ē.str (K:=kk X cm) (F:=F1)⟩
    ·exact h1.elim
   |_=>exact h1.elim
  refine wpAny_Call_method_late jE qY jF rfl<|Ż (qf h0<|ho Å s b H _ I hm) ?_;rintro v s1 ⟨⟨x,H1,I1,r1,t,ex,hl,q1⟩,hp⟩;subst ex;obtain⟨tk,rfl⟩:=r1;refine⟨"str","str.replace",ŕ,PySem.F.slot_str_replace,PySem.F.type_str_replace,jT _ _ _,(λu e=>nomatch e),?_⟩;refine Cm kM<|Cn ?_;refine By ?_;exact PySem.SC.replace (da hp) (Nat.succ_ne_zero _) (Ĕ<|oR _) hyz hl λt' k=>⟨.str _,H1,I1.tok _,⟨_,rfl⟩,q1⟩
 have k2:Ð (Ú X.prog X.w) X.A (exec (.Return (Α<|.Call (.Attribute o "replace" ap) [.Constant (.str y) j1 p1,.Constant (.str z) j2 p2] [] cp) pos) X.env) (SP X Å D) X.xe s:=wpAny_Return_some<|Ż key λv s1 ⟨x,H1,I1,r1,q1⟩=>⟨x,b,H1,I1,r1,q1⟩;refine xn<|Ż k2 λf s1 q=>?_;cases f with
 |next=>exact mJ q|_=>exact q
end
def uM(X:Cx)(b:String->À)(CX:gX)(k n:Nat)(C:String)(c:MF):Prop:=∃d a,bJ X.K (.ref<|b C)=Δ/\nG X.prog X.w X.K X.mg X.base CX k (b C) d a (rj (kk X b) n c)/\Binds X.K d a []/\
 ∀{a:List Slot},(∃r,c a=r/\∀z,r=z->z≠.bad)->a.length=n
section
variable{X:Cx}{cm:String->À}{E:ă->XK}{CX:gX}{k n:Nat}{ϸ:List (String×MF)}{m ma:M PV}{ms:M (List Slot)}{a e:Ç}{es:List Ç}{pos p1 p2:Pos}{f:À}{fd:ą}{ps:List Str}{jx:Int}{j1:Nat}
def Jx(F:nG X.prog X.w X.K X.mg X.base CX k f fd ps sp)(v:Ń k X.A)(x:Binds X.K fd ps [])(t:ϝ CX X E)(y:0<s.toks)
 (I:Inv X i b H s)(r:Ő vs c)(h:sp vs H Q (E b)):Ð (Ú X.prog X.w) X.A (call (.ref f) c) (EP X i b Q) X.xe s:=by
 have w:(c++[]).length=ps.length:=by rw[cZ,<-r.length];exact F.len _ _ _ _ h
 have l:=x s c I.vk w;rw[cZ]at l;refine o_<|jV (F.run X.A X.stack s H ⟨c,[]⟩ c vs Q (E b) y v I.env0 l r h) λr p d=>?_;cases r with
 |error e=>exact t i b H s e p I d|ok z=>
  cases z with
  |ret u=>exact I.after d|next=>exact ų d|brk=>exact ų d|cont=>exact ų d
def Nq(w:PE X a (tR ∅ E ma))(I:Inv X l b H s)(h:tV ∅ E (Ê Þ ma<|mC<|.int jx) b H Q):
 Ð (Ú X.prog X.w) X.A (eval (.Subscript a (.Constant (.int jx) j1 p1) p2) X.env) (λv s'=>EP X l b Q v s'/\1<=s'.toks) X.xe s:=by
 have y:=zH J6 h;refine Subscript_<|Ż (w l s b H _ I y) λv s1 r=>?_;refine BL λZ=>?_;obtain⟨x,q,z,t,o⟩:=r;refine Z ?_;refine wpAny_Constant_int ?_;refine BL λZ=>?_;obtain⟨c,F,d,rel,o⟩:=o;refine Z ?_;have u:=o (.int jx) F q rel Č Č<|rR.of<|Ē.int;exact qf (Nat.succ_le_succ<|bB _)<|JS a _ l _ b q x (.int jx) v _ Q (z.tok _) t ⟨_,rfl⟩ u rfl
def G4(h:ϰ ∅ E (rO<|kk X cm) c F H b Q (Jp ϸ m ms i))(J:ur (λC l=>uM X cm CX k n C l) ϸ):
 ϰ ∅ E (rV<|kk X cm) c F H b (λx u=>∃g fd ps l,x=.ref g/\bJ X.K (.ref g)=Δ/\nG X.prog X.w X.K X.mg X.base CX k g fd ps (rj ∅ n l)/\Binds X.K fd ps []/\
  tA ∅ E ms b u λvs t=>rj ∅ n l vs t Q<|E b) (m i):=
 ϰ.bind h λp d v Y u B y y G o=>by
  cases p with
  |cls C=>
   dsimp only at o;cases q:ϸ.lookup C with
   |none=>rw[q]at o;exact o.elim|some l=>rw[q]at o;refine BL λZ=>?_;obtain⟨fd,I,R,O,N,L⟩:=J.get q;refine Z ?_;have K:=G;subst K;exact⟨_,fd,I,l,rfl,R,O,N,c,Y,d,B,ϰ.bind o λas j vs F2 t A sF sH D U=>pS L A D U⟩
  |_=>exact o.elim
def Nr(z:ur (λC o=>uM X cm CX k n C o) ϸ)(J:Ń k X.A)(G:ϝ CX X E)(L:PE X a (tR ∅ E ma))(N:PA X (e::es) (tA ∅ E ms))
 (fJ:autoParam (Î (e::es) X.env=(Ε,eval e X.env)::Î es X.env) Θ)(R:autoParam ((ü pos<|Î es X.env).any (·.1)=Ε) Ζ)
 (ht:autoParam (eval (.Call (.Subscript a (.Constant (.int jx) j1 p1) p2) (e::es) [] pos) X.env=(do fX pos (<-eval (.Subscript a (.Constant (.int jx) j1 p1) p2) X.env) [] (ü pos<|Î (e::es) X.env) (af pos<|ag [] X.env))) Η):
 PE X (.Call (.Subscript a (.Constant (.int jx) j1 p1) p2) (e::es) [] pos) (tO ∅ E<|Jp ϸ (Ê Þ ma<|mC<|.int jx) ms):=by
 rintro v s b H Q I ⟨c,F,d,rel,h⟩;refine à<|Ż (Nq L I ⟨c,F,d,rel,G4 h z⟩) ?_;rintro u s1 ⟨⟨x,W,U,w,g,fd,ps,o,O,D,B,A,q⟩,K⟩;subst O;obtain rfl:=w;refine kc I.ok.mod.EU D (Ż (qf K<|N pos v s1 b W _ U q) λus s2 ⟨⟨vs,H2,p,r,y⟩,j⟩=>⟨p.vk,?_⟩) fJ R;exact Jx B J A G j p r y
end
noncomputable def uN:Slot->Slot
 |.rc _ _ _=>.no|.rd _ _ _=>.no|.pin=>.no|s=>s
noncomputable def Qw(c:Ctx):Ctx:=⟨c.B,c.F₀,c.L,λx x x=>True⟩
theorem ē.Qw{K:KK}(r:ē K c F H a b):ē K (Qw c) F H a b:=⟨r.sub,r.base,r.f0,r.ge,r.lent,r.lb,r.len,λi s e=>(r.slot i s e).ctx (λx x z=>z) (λx x x x=>trivial) (λx x x x z=>z) (λx x x z=>z),r.sep⟩
def ē.blank{K:KK}(r:ē K (P.Qw c) F H d b):ē K c F H d (b.map uN) where
 sub:=r.sub
 base:=r.base
 f0:=r.f0
 ge:=r.ge
 lent:=r.lent
 lb:=r.lb
 len:=by rw[ģ];exact r.len
 slot:=λi s e=>by
  rw[œ]at e;cases f:b[i]?with
  |none=>rw[f]at e;cases e|some t=>rw[f]at e;have k:=Ň e;subst k;have q:=r.slot i t f;cases t<;>first|exact q|trivial
 sep:=λi j a u p=>by
  have off:∀{i},ĳ F d (b.map uN) i a->ĳ F d b i a:=fun{i} ⟨s,x,g,o,l⟩=>by
   rw[œ]at g;cases f:b[i]?with
   |none=>rw[f]at g;cases g|some t=>rw[f]at g;have k:=Ň g;subst k;refine⟨t,x,f,o,?_⟩;cases t<;>first|exact l|exact l.elim
  exact r.sep i j a (off u)<|off p
def qT(i:Nat)(C:String)(j:MI)(h:M (List Slot))(k:M Fl):M Fl:=λc=>(h c).bind λas b=>match j as with
 |.ok g f=>(match k (b.set i<|.rc C g f)with
   |.ok (.rt<|.sh p) a=>.ok (.rt<|.sh p)<|a.map uN|.exc x a=>.exc x<|a.map uN|_=>.bad)
 |.exc x=>.exc x b|.bad=>.bad
section
variable{X:Cx}{cm:String->À}{E:ă->XK}{e:Ç}{es:List Ç}{pos p vd aY:Pos}{CX:gX}{k n:Nat}{f:À}{fd:ą}{ps:List Str}{C:String}{mi:MI}{ms:M (List Slot)}{x y:Str}{m2:M Fl}{rest:List æ}{i:Nat}
def Eu{Q:VK}(K:(∃r,mi as=r/\∀z,r=z->z≠.bad)->as.length+1=n)(Û:ē ∅ c A o a j)(r1:Paired (du ∅ A o) as vs)
 (h:match mi as with
   |.ok ns R=>∀x m fs F' l,Gr A o F' l->o x=Β->l x=Α (.ins (cm C) m fs)->F' x=Β->fs.map (·.1)=ns->ç ∅ F' R (fs.map (·.2))->Q (.ref x) l|.exc y=>∀C' d F' l,Gr A o F' l->yo ∅ F' y C' d->E a C' d l|.bad=>False):
 ∀x m,o x=Β->o m=Β->m≠x->IJ ∅ n C mi (.ref x::vs) (upd (upd o m<|.own x) x<|.ins (cm C) m []) (λv H2=>v=.non/\Q (.ref x) H2) (E a):=by
 intro x m I Yl h_;have w:∀b u,o b=Α u->upd (upd o m<|.own x) x (.ins (cm C) m []) b=Α u:=λb u e=>by rw[ñ<|Ċ e I,ñ<|Ċ e Yl];exact e
 have Bj:∀{F' l:Hp},Pu x A (upd (upd o m<|.own x) x<|.ins (cm C) m []) F' l->Gr A o F' l:=fun{F' l} g=>
  ⟨fun b u e=>g.h b u (Ċ e I)<|w b u e,g.f,g.sub,fun b U hf=>by
    obtain⟨u,hu⟩:∃u,o b=Α u:=by
     cases q:o b with
     |none=>exact absurd q U|some u=>exact⟨u,rfl⟩
    exact g.out b (Ċ hu I) (by rw[w b u hu];intro z;cases z) hf⟩
 refine⟨A,x,m,vs,as,rfl,?_,ā,Û.sub.free I,λb u e=>w b u<|Û.sub b u e,?_,?_⟩
 ·exact K ⟨_,rfl,λz hz U=>by rw[hz,U]at h;exact h⟩
 ·refine Paired.mono (λs v J=>?_) r1;cases s with
  |sh p=>exact J|bw R=>obtain⟨b,O,H,G,D,B⟩:=J;exact⟨b,O,H,w b _ G,D,B⟩|lr C ns ps=>obtain⟨b,dy,fs,H,G,D,B⟩:=J;exact⟨b,dy,fs,H,w b _ G,D,B⟩|dw gY=>obtain⟨b,ts,H,G,D,B⟩:=J;exact⟨b,ts,H,w b _ G,D,iG B<|by rintro t d _ ⟨xs,y,O,k1,k2,k3,k4⟩;exact ⟨xs,y,O,k1,k2,⟨w y _ k3.1,k3.2⟩,k4⟩⟩
  |_=>exact J.elim
 ·cases W:mi as with
  |bad=>rw[W]at h;exact h|exc y=>rw[W]at h;exact λC' d F' l g rx=>h C' d F' l (Bj g) rx
  |ok ns R=>rw[W]at h;exact λF' l fs g Rl Rm hn hr=>⟨rfl,h x m fs F' l (Bj g) I Rl Rm hn hr⟩
def Jy(hN:X.N.Nodup)(hi:X.N[i]?=Α y)(hy:Loc X.env.scope y)(M:Mk X.K (cm C) f)(F:Ϲ X.prog X.w X.K X.mg X.base CX k f fd ps (IJ ∅ n C mi))(u:∀{as:List Slot},(∃r,mi as=r/\∀z,r=z->z≠.bad)->as.length+1=n)(hr:Ń (k+1) X.A)(hg:Gl X x)(hm:X.mg x=Α (.ref<|cm C))(hb:Binds X.K fd ps [])(hx:ϝ CX X E)
 (ha:PA X (e::es) (tA ∅ E ms))(h2:b_ X rest (tS ∅ E m2))(jD:autoParam ((x==("__debug__":Str))=Ε) Ζ)(he:autoParam (Î (e::es) X.env=(Ε,eval e X.env)::Î es X.env) Θ)(bZ:autoParam ((ü pos<|Î es X.env).any (·.1)=Ε) Ζ)
 (hs:autoParam (ť (.Call (.Name x p) (e::es) [] pos) (Α<|.Name y aY) vd.line X.env=pure Ε) Ζ)(hf:autoParam (X.fn y=Δ\/X.env.scope.names.lookup y=Α .local) Μ):
 b_ X (.Assign [.Name y aY] (.Call (.Name x p) (e::es) [] pos) vd::rest) (tS ∅ E<|qT i C mi ms m2):=
 b_.wk (gF (ub hN hi hy (P9 M F hr hg hm hb hx ha jD he bZ) hs hf) h2) λD m H ⟨c,F,o,rel,h⟩=>⟨c,F,o,rel,ϑ.bind h λas j vs F1 H1 t s1 r1 b=>Eu (Q:=λv w=>ua i v m w<|tS ∅ E m2 D) u t r1 (by
  cases I:mi as with
  |bad=>rw[I]at b;exact b|exc y=>rw[I]at b;exact λC' d N H' g rx=>b m C' d N H' (t.call g) g.f rx
  |ok Z U=>
   rw[I]at b;intro x dx fs N H' g W q2 q3 q4 q5;have r2:=(t.call g).Qw;refine⟨Qw c,N,_,r2.A5 (s:=.rc C Z U) ⟨x,dx,fs,rfl,q2,q3,t.base.free W,q4,q5,trivial⟩ (λb z=>by rw[<-V.ref.inj z];exact t.lw g.f<|t.fresh W),?_⟩;dsimp only at b;cases J:m2 (j.set i<|.rc C Z U)with
   |bad=>rw[J]at b;exact b|exc x l=>rw[J]at b;exact λa C' d L w B s2 q=>b a C' d L w B.blank (g.f.trans s2) q
   |ok fl l=>
    rw[J]at b;cases fl with
    |rt r=>
     cases r with
     |sh p=>exact λv a L w B s2 q=>b v a L w B.blank (g.f.trans s2) q
     |_=>exact b.elim
    |_=>exact b.elim)⟩
end
end P
namespace L2
open PySem PySem.Spec PyProof.Rows
section
variable{κ:Type}[DecidableEq κ]
noncomputable def Jz(b:List (κ×V))(k:κ):Option V:=(b.find? λkv=>decide<|kv.1=k).map (·.2)
noncomputable def JM(c:List (κ×V))(k:κ)(v:V):List (κ×V):=
 if(c.any λkv=>decide<|kv.1=k)=Δ then c.map (λkv=>if kv.1=k then(kv.1,v)else kv)else c++[(k,v)]
end
def JA(H:Hp)(a:À)(y:V)(r:Option V):Prop:=
 (∃c k,Rd H a (.dK c)/\y=kV k/\r=Jz c k)\/∃c k b,Rd H a (.dT c)/\y=.ref b/\H b=Α (.tup<|k.map kV)/\r=Jz c k
def JB(H:Hp)(a:À)(y v:V)(e:Hp):Prop:=
 (∃d k,H a=Α (.dK d)/\y=kV k/\d.length<sizeLine/\e=upd H a (.dK<|JM d k v))\/
 ∃d k b,H a=Α (.dT d)/\y=.ref b/\H b=Α (.tup<|k.map kV)/\d.length<sizeLine/\e=upd H a (.dT<|JM d k v)
theorem JA.k{k:Key}(e:H a=Α (.dK b)):JA H a (kV k) (Jz b k):=.inl ⟨b,k,.inl e,rfl,rfl⟩
def JA.t{k:List Key}(e:H a=Α (.dT c))(d:H b=Α (.tup<|k.map kV)):JA H a (.ref b) (Jz c k):=.inr ⟨c,k,b,.inl e,rfl,d,rfl⟩
theorem JB.k{H:Hp}{a:À}{bv:List (Key×V)}{k:Key}{v:V}(e:H a=Α (.dK bv))(hl:bv.length<sizeLine):JB H a (kV k) v (upd H a<|.dK<|JM bv k v):=.inl ⟨bv,k,e,rfl,hl,rfl⟩
def JB.t{H:Hp}{a b:À}{bv:List (List Key×V)}{k:List Key}{v:V}(e:H a=Α (.dT bv))(eb:H b=Α (.tup<|k.map kV))(hl:bv.length<sizeLine):
 JB H a (.ref b) v (upd H a<|.dT<|JM bv k v):=.inr ⟨bv,k,b,e,rfl,eb,hl,rfl⟩
end L2
namespace R4
open PySem PySem.W PySem.Calls PyProof.Rows
end R4
namespace L2
open PySem PySem.Spec PyProof.Rows
section
variable{κ:Type}[DecidableEq κ]
end
end L2
namespace P
open PySem PySem.Spec PyProof.Rows L2 M2 M3 M4
abbrev DS:=List<|Str×List PV
open M5
def Bz(st:æ):List Str:=(è st).names.filterMap λy=>match y.2 with
 |.local=>Α y.1|.cell=>Α y.1|_=>Β
def lK(st:æ):List Str:=(bK st).args.map (·.arg)
set_option genInjectivity false in
set_option genSizeOf false in
structure VE where
 Pg:ï
 w:ã
 K:Ï
 mg:Str->Option Á
 cm:String->À
abbrev Kc(V:VE)(C:String):Prop:=zn V.K<|V.cm C
abbrev Na(V:VE)(C:String)(f:Str):Prop:=fu V.K (V.cm C) f
structure Gz(mg:Str->Option Á)(x:String):Prop where
 h:mg x=Β
structure Gc(V:VE)(C:String):Prop where
 h:V.mg C=Α (.ref<|V.cm C)
structure Gi(mg:Str->Option Á)(x:String)(i:Int):Prop where
 ex:∃t,mg x=Α (.int i t)
structure Gs(mg:Str->Option Á)(x:String)(z:Str):Prop where
 ex:∃t,mg x=Α (.str z t)
structure Dn(V:VE)(x:String)(st:æ)(N:List Str)(mf:MF)(k:Nat):Prop where
 ex:∃f fd,Df V.K V.mg x st (lK st) f fd
structure Dw(V:VE)(x:String)(st:æ)(N:List Str)(mf:MW)(k:Nat):Prop where
 ex:∃f fd,Df V.K V.mg x st (lK st) f fd
structure Di(V:VE)(C:String)(q:Str)(st:æ)(mi:MI)(k:Nat):Prop where
 ex:∃f fd,Mk V.K (V.cm C) f/\Dm V.K (V.cm C) "__init__" q st (lK st) f fd
structure Dh(V:VE)(C y:String)(q:Str)(st:æ)(mf:MF)(k:Nat):Prop where
 ex:∃f fd,uZ V.K (V.cm C) y f/\Dm V.K (V.cm C) y q st (lK st) f fd
structure Cl(x:String)(k:Nat)(sp:Sp)(V:VE):Prop where
 ex:∃f fd ps st,Df V.K V.mg x st ps f fd/\∀base,Ϲ V.Pg V.w V.K V.mg base ze k f fd ps sp
structure Ci(C:String)(k n:Nat)(mi:MI)(V:VE):Prop where
 ex:∃f fd ps,Mk V.K (V.cm C) f/\Binds V.K fd ps []/\∀base,Ϲ V.Pg V.w V.K V.mg base ze k f fd ps<|IJ ⟨V.K,V.cm⟩ n C mi
structure Ch(y:String)(C:String)(k n:Nat)(mf:MF)(V:VE):Prop where
 ex:∃f fd ps,uZ V.K (V.cm C) y f/\Binds V.K fd ps []/\∀base,Ϲ V.Pg V.w V.K V.mg base ze k f fd ps<|rj ⟨V.K,V.cm⟩ n mf
noncomputable abbrev vX(X:Cx)(a:String->À):VE:=⟨X.prog,X.w,X.K,X.mg,a⟩
section
variable{X:Cx}{cm:String->À}{E:ă->XK}{k j n:Nat}{mf:MF}{mr:M (List Slot)}{x:String}{C:String}{p pos vd:Pos}{e:Ç}{es:List Ç}
def ÿ(hr:Ń j X.A)(ha:PA X (e::es) (tA ∅ E mr))(F:autoParam (Cl x k (rj ∅ n mf) (vX X cm)) Λ)(hlen:autoParam (∀{ps:List Slot},(∃r,mf ps=r/\∀z,r=z->z≠.bad)->ps.length=n) Ο)(hg:autoParam (Gl X x) Ζ)(qB:autoParam (k<=j) Ι)(jD:autoParam (((x:Str)==("__debug__":Str))=Ε) Ζ)(he:autoParam (Î (e::es) X.env=(Ε,eval e X.env)::Î es X.env) Θ)(bZ:autoParam ((ü pos<|Î es X.env).any (·.1)=Ε) Ζ):
 PE X (.Call (.Name x p) (e::es) [] pos) (tO ∅ E<|ß mf mr):=by
 obtain⟨_,_,_,_,D,F⟩:=F.ex;exact Ja (F _) D hr gJ ha hlen hg qB jD he bZ
def Nt{mf:MW}{m:Nat}(hr:Ń j X.A){ns:List Nat}(ha:PA X (e::es) (Od ns))(F:autoParam (Cl x k (Qf ∅ m mf) (vX X cm)) Λ)(hlen:∀{as:List Slot},mf as≠.bad->as.length=m:=by exact qR)(hg:autoParam (Gl X x) Ζ)(qB:autoParam (k<=j) Ι)(jD:autoParam (((x:Str)==("__debug__":Str))=Ε) Ζ)(he:autoParam (Î (e::es) X.env=(Ε,eval e X.env)::Î es X.env) Θ)(bZ:autoParam ((ü pos<|Î es X.env).any (·.1)=Ε) Ζ)(hs:autoParam (ť (.Call (.Name x p) (e::es) [] pos) Β vd.line X.env=pure Ε) Ζ):
 b_ X [.Expr (.Call (.Name x p) (e::es) [] pos) vd] (tW ∅ E n<|ϴ mf ns):=by
 obtain⟨_,_,_,_,D,F⟩:=F.ex;exact w_call (F _) D hr gJ ha hlen hg qB jD he bZ hs
def Qx{sp:Sp}{ta:TA}(hr:Ń j X.A)(ha:PA X (e::es) ta)(F:autoParam (Cl x k sp (vX X cm)) Λ)(hg:autoParam (Gl X x) Ζ)(qB:autoParam (k<=j) Ι)(jD:autoParam (((x:Str)==("__debug__":Str))=Ε) Ζ)(he:autoParam (Î (e::es) X.env=(Ε,eval e X.env)::Î es X.env) Θ)(bZ:autoParam ((ü pos<|Î es X.env).any (·.1)=Ε) Ζ):
 PE X (.Call (.Name x p) (e::es) [] pos) (λa H Q=>ta a H λvs H1=>sp vs H1 Q<|E a):=by
 obtain⟨_,_,_,_,D,F⟩:=F.ex;exact qd (F _) (hr.mono qB) hg D.m D.F.kp D.b gJ ha jD he bZ
def Am{mi:MI}{ms:M (List Slot)}(hr:Ń j X.A)(ha:PA X (e::es) (tA ∅ E ms))(F:autoParam (Ci C k n mi (vX X cm)) Λ)(hm:autoParam (Gc (vX X cm) C) Λ)(hlen:∀{as:List Slot},(∃r,mi as=r/\∀z,r=z->z≠.bad)->as.length+1=n:=by exact vY)(hg:autoParam (Gl X C) Ζ)(qB:autoParam (k+1<=j) Ι)(jD:autoParam (((C:Str)==("__debug__":Str))=Ε) Ζ)(he:autoParam (Î (e::es) X.env=(Ε,eval e X.env)::Î es X.env) Θ)(bZ:autoParam ((ü pos<|Î es X.env).any (·.1)=Ε) Ζ):
 PE X (.Call (.Name C p) (e::es) [] pos) (tV ∅ E<|fH C mi ms):=by
 obtain⟨_,_,_,M,B,F⟩:=F.ex;exact Mj M (F _) hlen (hr.mono qB) hg hm.h B gJ ha jD he bZ
def Qy{y:String}(d:autoParam (zn X.K (cm C)) Λ)(F:autoParam (Ch y C k n mf (vX X cm)) Λ)(c:autoParam (k<=j) Ι)(a:autoParam (∀{b:List Slot},(∃r,mf b=r/\∀z,r=z->z≠.bad)->b.length=n) Ο):qN X cm ze j n y C mf:=by obtain⟨_,_,_,M,B,F⟩:=F.ex;exact⟨d,_,_,_,M,(F _).mono c,B,a⟩
def ś{f:Str}{cs:List String}{m:M PV}(he:PE X e (tR ∅ E m))(NU:Bi (λC=>zn X.K (cm C)/\fu X.K (cm C) f) cs:=by repeat' first|assumption|apply And.intro|exact True.intro)(hb:autoParam (dg e f X.env (eval e X.env)=eval e X.env) Ζ):PE X (.Attribute e f pos) (tV ∅ E<|ϥ (ħ cs f) m):=Ps cs NU he hb
def kz{i:Nat}{x f:Str}{b g:Pos}{c:List String}{m:M PV}(o:PE X (.Name x b) (dR i))(he:PE X e (tV ∅ E m))(r:Bi (λC=>zn X.K (cm C)/\fu X.K (cm C) f) c:=by repeat' first|assumption|apply And.intro|exact True.intro)(l:autoParam (ť e (Α<|.Attribute (.Name x b) f g) pos.line X.env=pure Ε) Ζ):
 PS X (.Assign [.Attribute (.Name x b) f g] e pos) (tS ∅ E<|kQ i c f m):=Mg c r o he l
def Ks{q:Sem Bool}{o:Ç}{b:Str}{d:Pos}{g:List (String×MF)}{m:M PV}(t:Ń k X.A)(he:PE X o (tV ∅ E m))(r:ur (λC mf=>qN X cm ze k n b C mf) g:=by repeat' first|exact Qy|apply And.intro|exact True.intro)
 (s:autoParam (eval (.Call (.Attribute o b d) [] [] pos) X.env=(do
   let h<-eval o X.env
   fU d.atName
   let (f,first)<-cI [h] (il h b q)
   fX pos f first (ü pos<|Î [] X.env) (af pos<|ag [] X.env))) Η):
 PE X (.Call (.Attribute o b d) [] [] pos) (tO ∅ E<|nC b g m Ö):=II r t gJ he s
def oq{i:Int}(h:autoParam (Gi X.mg x i) Λ)(a:autoParam (Gl X x) Ζ)(hd:autoParam (((x:Str)==("__debug__":Str))=Ε) Ζ):PE X (.Name x pos) (tV ∅ E<|mC<|.int i):=by obtain⟨t,h⟩:=h.ex;exact JX _<|tE (v:=.int i) a h ⟨_,rfl⟩ hd
def Qz{z:Str}(h:autoParam (Gs X.mg x z) Λ)(a:autoParam (Gl X x) Ζ)(hd:autoParam (((x:Str)==("__debug__":Str))=Ε) Ζ):PE X (.Name x pos) (tV ∅ E<|mC<|.str z):=by obtain⟨t,h⟩:=h.ex;exact JX _<|tE (v:=.str z) a h ⟨_,rfl⟩ hd
def QA(h:autoParam (Gc (vX X cm) x) Λ)(a:autoParam (Gl X x) Ζ)(hd:autoParam (((x:Str)==("__debug__":Str))=Ε) Ζ):PE X (.Name x pos) (tV ∅ E<|mC<|.cls x):=
 JX _ (tE (v:=.ref<|cm x) a h.h rfl hd)
def gz(h:autoParam (Gz X.mg x) Λ):X.mg x=Β:=h.h
end
section
variable{V:VE}{x:String}{q:Str}{st:æ}{N:List Str}{k n j:Nat}{mb:M Fl}{mf:MF}{G:Prop}{C y:String}
set_option genInjectivity false in
set_option genSizeOf false in
structure HZ where
 f:À
 base:Ô
 cdv:Á
 A:ì
 outer:List Env
 s:Ä
 H:Hp
 E:XK
abbrev HB(V:VE)(q:Str)(st:æ)(N:List Str)(k:Nat)(t:XK->TS):Prop:=ı N (lK st) (è st)->∀z:HZ,Ń k (z.A.deeper<|ň q (è st) z.s.heap.objs.size z.f z.cdv)->(z.A.deeper<|ň q (è st) z.s.heap.objs.size z.f z.cdv).units+64<ύ->
 b_ (kj ze V.Pg V.w V.K V.mg z.base N q (è st) z.f z.cdv z.A z.outer z.s z.H z.E) (Ō st) (t z.E)
def aT(D:Dn V x st N mf k)(hf:mf=Ď n j mb)(hb:HB V x st N k λE=>tS ⟨V.K,V.cm⟩ (λy=>E) mb)(hg:Cl x (k+1) (rj ⟨V.K,V.cm⟩ n mf) V->G)(hn:autoParam ((lK st).length=n) Η)(hj:autoParam (N.length=j) Η)(S:autoParam (ı N (lK st) (è st)) Ξ):G:=by obtain⟨f,fd,D⟩:=D.ex;exact hg ⟨f,fd,_,st,D,λbase=>MJ D.F S (λcdv A outer s H E=>hb S ⟨f,base,cdv,A,outer,s,H,E⟩) hn hj hf⟩
def Ta{mf:MW}{mb:M WR}(D:Dw V x st N mf k)(hf:mf=gK n j mb)(hb:HB V x st N k λE=>tW ⟨V.K,V.cm⟩ (λy=>E) (lK st).length mb)(hg:Cl x (k+1) (Qf ⟨V.K,V.cm⟩ n mf) V->G)(hn:autoParam ((lK st).length=n) Η)(hj:autoParam (N.length=j) Η)(S:autoParam (ı N (lK st) (è st)) Ξ):G:=by obtain⟨f,fd,D⟩:=D.ex;exact hg ⟨f,fd,_,st,D,λbase=>fnW D.F S (λcdv A outer s H E=>hb S ⟨f,base,cdv,A,outer,s,H,E⟩) hn hj hf⟩
def stI{d:MI}(D:Di V C q st d k)(m:d=fG n n C mb)(o:HB V q st (lK st) k λE=>tS ⟨V.K,V.cm⟩ (λx=>E) mb)(l:Ci C (k+1) n d V->G)(g:autoParam ((lK st).length=n) Η)(S:autoParam (ı (lK st) (lK st) (è st)) Ξ):G:=by obtain⟨f,p,M,D⟩:=D.ex;exact l ⟨f,p,_,M,D.b,λbase=>fnI D.F S g g m λcdv A a s H E e=>o S ⟨f,base,cdv,A,a,s,H,E⟩ e e.units⟩
def stH(D:Dh V C y q st mf k)(hf:mf=Ď n j mb)(hb:HB V q st (Bz st) k λE=>tS ⟨V.K,V.cm⟩ (λx=>E) mb)(hg:Ch y C (k+1) n mf V->G)(hn:autoParam ((lK st).length=n) Η)(hj:autoParam ((Bz st).length=j) Η)(S:autoParam (ı (Bz st) (lK st) (è st)) Ξ):G:=by obtain⟨f,fd,M,D⟩:=D.ex;exact hg ⟨f,fd,_,M,D.b,λbase=>MJ D.F S (λcdv A outer s H E=>hb S ⟨f,base,cdv,A,outer,s,H,E⟩) hn hj hf⟩
abbrev QB(V:VE)(b:À)(z:Str)(k:Nat)(mf:MF):Prop:=∃a:ą,(∀(s:Ä) (v:Á),fV s a ⟨[v],[]⟩ [(z,v)])/\∀base:Ô,V.K.In base->base.Ns đ V.mg->∃c,Ϲ V.Pg V.w V.K V.mg base ze k b a [z] (rj ⟨V.K,c⟩ 1 mf)
def stL{e:À}{z:Str}(D:Dn V x st N mf k)(o:mf=Ď 1 j mb)(p:HB V x st N k λE=>tS ⟨V.K,V.cm⟩ (λy=>E) mb)(l:autoParam (V.mg x=Α (.ref e)) Λ)(d:autoParam (lK st=[z]) Η)(m:autoParam (N.length=j) Η)(S:autoParam (ı N (lK st) (è st)) Ξ):
 QB V e z (k+1) mf:=by
 obtain⟨f,r,D⟩:=D.ex;cases D.m.symm.trans l;have B:=D.bb;have Q:=λbase=>MJ D.F S (λcdv A b s H E=>p S ⟨_,base,cdv,A,b,s,H,E⟩) (by rw[d];rfl) m o;rw[d]at B Q;exact⟨r,λs v=>B s [v] rfl,λbase y y=>⟨_,Q base⟩⟩
end
noncomputable def uO(K:Ï)(x:Str):À:=match aP K đ x with
 |some (Α<|.ref a)=>a|_=>0
def cmK(K:Ï)(s:String):À:=uO K s
noncomputable def ve(K:Ï)(C:À)(y:Str):À:=match Ϗ K (.ref C) y with
 |some (Α<|.ref a)=>a|_=>0
noncomputable def Ev(K:Ï)(f:À):Option ą:=match K.lookup f with
 |some ⟨_,_,.func a,_⟩=>Α a|_=>Β
def JC(K:Ï)(f:À)(x q:Str)(st:æ):ą:=
 let d:=(Ev K f).getD default
 ϯ x q (bK st) (Ō st) (è st) .none d.kwdefaults d.doc d.pyModule d.annotations d.code d.closureTuple
def BA{K:Ï}(h:Ev K f=Α c):∃b a sl,K.lookup f=Α ⟨b,a,.func c,sl⟩:=by
 unfold Ev at h;split at h
 ·cases h;exact⟨_,_,_,by assumption⟩
 ·cases h
def EO(K:Ï)(f:À)(q:Str):Bool:=kb K ((Ev K f).getD default).code q&&bJ K (.ref f)
section
variable{V:VE}{h:Ô}{x C y:String}{st:æ}{k:Nat}{q:Str}
abbrev JD(x q:Str)(st:æ):Prop:=∀(kV dc d:Á) (g:Option À) (f e:Á),BN (lK st).length λus=>im (ϯ x q (bK st) (Ō st) (è st) .none kV dc d g f e) ⟨us,[]⟩=pure ((lK st).zip us)
def WB(b:V.K.In h)(G:h.Ns đ V.mg)(e:aP V.K đ x=Α Β):Gz V.mg x:=⟨PySem.W.mg_none_of b G e⟩
def WC(a:V.K.In h)(G:h.Ns đ V.mg)(e:aP V.K đ C=Α (Α<|.ref<|V.cm C)):Gc V C:=⟨pA a G e⟩
noncomputable def tkK(K:Ï)(x:Str):Tok:=match aP K đ x with
 |some (Α<|.int _ t)=>t|some (Α<|.str _ t)=>t|_=>0
def WD(a:V.K.In h)(G:h.Ns đ V.mg)(e:aP V.K đ x=Α (Α<|.int i<|tkK V.K x)):Gi V.mg x i:=⟨_,pA a G e⟩
def WE(a:V.K.In h)(G:h.Ns đ V.mg)(e:aP V.K đ x=Α (Α<|.str z<|tkK V.K x)):Gs V.mg x z:=⟨_,pA a G e⟩
def Nu(g:V.K.In h)(G:h.Ns đ V.mg)(d:JD x x st)(a:aP V.K đ x=Α (Α<|.ref<|uO V.K x))(l:Ev V.K (uO V.K x)=Α (JC V.K (uO V.K x) x x st))(c:EO V.K (uO V.K x) x=Δ):∃f e,Df V.K V.mg x st (lK st) f e:=by have b:=c;unfold EO at b;rw[l,þ]at b;obtain⟨_,_,_,l⟩:=BA l;exact⟨_,_,Kf g G d a l b.1 b.2⟩
def WF(d:V.K.In h)(G:h.Ns đ V.mg)(b:JD x x st)(a:aP V.K đ x=Α (Α<|.ref<|uO V.K x))(l:Ev V.K (uO V.K x)=Α (JC V.K (uO V.K x) x x st))(c:EO V.K (uO V.K x) x=Δ):Dn V x st N mf k:=⟨Nu d G b a l c⟩
def WG(d:V.K.In h)(G:h.Ns đ V.mg)(b:JD x x st)(a:aP V.K đ x=Α (Α<|.ref<|uO V.K x))(l:Ev V.K (uO V.K x)=Α (JC V.K (uO V.K x) x x st))(c:EO V.K (uO V.K x) x=Δ):Dw V x st N mf k:=⟨Nu d G b a l c⟩
def Nv{K:Ï}{y q:Str}(e:JD y q st)(a:Ϗ K (.ref c) y=Α (Α<|.ref<|ve K c y))(l:Ev K (ve K c y)=Α (JC K (ve K c y) y q st))(b:EO K (ve K c y) q=Δ):∃f,Dm K c y q st (lK st) (ve K c y) f:=by have d:=b;unfold EO at d;rw[l,þ]at d;obtain⟨_,_,_,l⟩:=BA l;exact⟨_,P2 e a l d.1 d.2⟩
def WH(c:JD "__init__" q st)(m:VY V.K (V.cm C) (ve V.K (V.cm C) "__init__")=Δ)(a:Ϗ V.K (.ref<|V.cm C) "__init__"=Α (Α<|.ref<|ve V.K (V.cm C) "__init__"))(l:Ev V.K (ve V.K (V.cm C) "__init__")=Α (JC V.K (ve V.K (V.cm C) "__init__") "__init__" q st))(b:EO V.K (ve V.K (V.cm C) "__init__") q=Δ):Di V C q st mi k:=by obtain⟨_,d⟩:=Nv c a l b;exact⟨_,_,PD m,d⟩
def WI(c:JD y q st)(m:wb V.K (V.cm C) y (ve V.K (V.cm C) y)=Δ)(a:Ϗ V.K (.ref<|V.cm C) y=Α (Α<|.ref<|ve V.K (V.cm C) y))(l:Ev V.K (ve V.K (V.cm C) y)=Α (JC V.K (ve V.K (V.cm C) y) y q st))(b:EO V.K (ve V.K (V.cm C) y) q=Δ):Dh V C y q st mf k:=by obtain⟨_,d⟩:=Nv c a l b;exact⟨_,_,tN m,d⟩
noncomputable def uP:List ir->List (Str×Tok)
 |[]=>[]|e::r=>match e.key with
  |.str x t=>(x,t)::uP r|_=>uP r
theorem wx:∀l:List ir,(uP l).length<=l.length
 |[]=>õ _|e::r=>by
  have:=wx r;dsimp only[uP];split
  ·exact Nat.succ_le_succ this
  ·exact Nat.le_succ_of_le this
set_option tactic.hygienic true in
theorem DF:∀{l:List ir},(l.map λe=>(e.key,e.hash))=((uP l).map λx=>(mS x.1 x.2,PyData.keyHash P x.1))->PySem.W.KeysLit P l
 |[],_=>True.intro|e::r,h=>by
  dsimp only[uP]at h;split at h
  ·rename_i x t j;obtain⟨i,g⟩:=List.cons.inj h;exact⟨⟨x,t,j,congrArg (·.2) i⟩,DF g⟩
  ·have:=congrArg aa h;simp at this;have:=wx r;lia
noncomputable def QC(K:Ï)(a:À):Array ir×Nat:=match K.lookup a with
 |some ⟨_,_,.dict c n,_⟩=>(c,n)|_=>(#[],0)
def Nw{K:Ï}(m:K.lookup a=Α ⟨.type "dict",Β,.dict (QC K a).1 (QC K a).2,#[]⟩)(l:((QC K a).1.toList.map λe=>(e.key,e.hash))=((uP (QC K a).1.toList).map λx=>(mS x.1 x.2,PyData.keyHash g x.1)))(j:GV K n c (QC K a).1.toList=Δ)(i:(a==oW)=Ε):yP K n g a c:=⟨_,_,m,DF l,j,i⟩
end
structure Dq(V:VE)(C y:String)(q:Str)(st:æ)(mm:MM)(k:Nat):Prop where
 ex:∃f fd,uZ V.K (V.cm C) y f/\Dm V.K (V.cm C) y q st (lK st) f fd
structure Cq(y:String)(C:String)(k:Nat)(mm:MM)(V:VE):Prop where
 ex:∃f fd ps,uZ V.K (V.cm C) y f/\Binds V.K fd ps []/\∀base,Ϲ V.Pg V.w V.K V.mg base ze k f fd ps<|Ht ⟨V.K,V.cm⟩ C mm
section
variable{V:VE}{q:Str}{st:æ}{k n j:Nat}{mb:M Fl}{mm:MM}{G:Prop}{C y:String}
def stM(D:Dq V C y q st mm k)(hf:mm=jt n j C mb)(hb:HB V q st (Bz st) k λE=>tS ⟨V.K,V.cm⟩ (λx=>E) mb)(hg:Cq y C (k+1) mm V->G)(hn:autoParam ((lK st).length=n) Η)(hj:autoParam ((Bz st).length=j) Η)(hle:autoParam (n<=j) Ι)(hC:autoParam (C≠"2") Ι)(S:autoParam (ı (Bz st) (lK st) (è st)) Ξ):G:=by obtain⟨f,fd,M,D⟩:=D.ex;exact hg ⟨f,fd,_,M,D.b,λbase=>fnM D.F S (λcdv A outer s H E=>hb S ⟨f,base,cdv,A,outer,s,H,E⟩) hn hj hf hle hC⟩
def WJ(c:JD y q st)(m:wb V.K (V.cm C) y (ve V.K (V.cm C) y)=Δ)(a:Ϗ V.K (.ref<|V.cm C) y=Α (Α<|.ref<|ve V.K (V.cm C) y))(l:Ev V.K (ve V.K (V.cm C) y)=Α (JC V.K (ve V.K (V.cm C) y) y q st))(b:EO V.K (ve V.K (V.cm C) y) q=Δ):Dq V C y q st mm k:=by obtain⟨_,d⟩:=Nv c a l b;exact⟨_,_,tN m,d⟩
end
section
variable{X:Cx}{cm:String->À}{E:ă->XK}{k j n:Nat}{C:String}{p pos vd aY:Pos}{e:Ç}{es:List Ç}{mm:MM}
def QD{b:MI}{d:M (List Slot)}{f:M Fl}{i:Nat}{y:Str}{rest:List æ}{l:List Str}(S:ı X.N l X.env.scope)(s:Ń j X.A)(u:X.N[i]?=Α y)(x:PA X (e::es) (tA ∅ E d))(A:b_ X rest (tS ∅ E f))(o:autoParam (Loc X.env.scope y) Ρ)(F:autoParam (Ci C k n b (vX X cm)) Λ)(t:autoParam (Gc (vX X cm) C) Λ)(a:∀{as:List Slot},(∃r,b as=r/\∀z,r=z->z≠.bad)->as.length+1=n:=by exact vY)(v:autoParam (Gl X C) Ζ)(h:autoParam (k+1<=j) Ι)(m:autoParam (((C:Str)==("__debug__":Str))=Ε) Ζ)(he:autoParam (Î (e::es) X.env=(Ε,eval e X.env)::Î es X.env) Θ)(D:autoParam ((ü pos<|Î es X.env).any (·.1)=Ε) Ζ)
 (q:autoParam (ť (.Call (.Name C p) (e::es) [] pos) (Α<|.Name y aY) vd.line X.env=pure Ε) Ζ)(w:autoParam (X.fn y=Δ\/X.env.scope.names.lookup y=Α .local) Μ):
 b_ X (.Assign [.Name y aY] (.Call (.Name C p) (e::es) [] pos) vd::rest) (tS ∅ E<|qT i C b d f):=by
 obtain⟨_,_,_,M,B,F⟩:=F.ex;exact Jy S.nd u o M (F _) a (s.mono h) v t.h B gJ x A m he D q w
def An{pl:Sem Bool}{aD py:Pos}{z:Str}{y:String}{mr:M (List PV)}(i:Nat)(hr:Ń j X.A)(ho:PE X (.Name z py) (dR i))(ha:PA X (e::es) (tL ∅ E mr))(hc:autoParam (zn X.K (cm C)) Λ)(F:autoParam (Cq y C k mm (vX X cm)) Λ)(qB:autoParam (k<=j) Ι)
 (fJ:autoParam (Î (e::es) X.env=(Ε,eval e X.env)::Î es X.env) Θ)(bZ:autoParam ((ü pos<|Î es X.env).any (·.1)=Ε) Ζ)
 (ht:autoParam (eval (.Call (.Attribute (.Name z py) y aD) (e::es) [] pos) X.env=(do
   let ov<-eval (.Name z py) X.env
   fU aD.atName
   let (f,first)<-cI [ov] (il ov y pl)
   fX pos f first (ü pos<|Î (e::es) X.env) (af pos<|ag [] X.env))) Η):
 PE X (.Call (.Attribute (.Name z py) y aD) (e::es) [] pos) (nF ∅ E (rV<|kk X cm)<|dE i C y mm mr):=by
 obtain⟨_,_,_,M,B,F⟩:=F.ex;exact Jt i hc M (F _) B (hr.mono qB) gJ ho ha fJ bZ ht
end
structure Dl(V:VE)(x:String)(st:æ)(mf:MF)(k:Nat):Prop where
 ex:∃f fd,Df V.K V.mg x st (lK st) f fd/\Gw V.K x f=Δ
section
variable{V:VE}{x:String}{st:æ}{k n j:Nat}{mb:M Fl}{mf:MF}{G:Prop}
def stl(D:Dl V x st mf k)(hf:mf=Ď n j mb)(hb:ı (Bz st) (lK st) (è st)->∀(z:HZ) (c Pt:À),Ů V.K x=Α (c,Pt)->Ń k (z.A.deeper<|ň x (è st) z.s.heap.objs.size z.f<|.ref c)->
 b_ (kj ze V.Pg V.w V.K V.mg z.base (Bz st) x (è st) z.f (.ref c) z.A z.outer z.s z.H z.E) (Ō st) (tS ⟨V.K,V.cm⟩ (λy=>z.E) mb))(hg:Cl x (k+1) (rj ⟨V.K,V.cm⟩ n mf) V->G)(hn:autoParam ((lK st).length=n) Η)(hj:autoParam ((Bz st).length=j) Η)(S:autoParam (ı (Bz st) (lK st) (è st)) Ξ):G:=by
 obtain⟨f,fd,D,t⟩:=D.ex;exact hg ⟨f,fd,_,st,D,λbase=>Wh D.F S hn hj hf t λc Pt ht A outer s H E hr=>hb S ⟨f,base,.none,A,outer,s,H,E⟩ c Pt ht hr⟩
end
section
variable{V:VE}{h:Ô}{x:String}{st:æ}{k:Nat}{mf:MF}
def WK(f:V.K.In h)(G:h.Ns đ V.mg)(e:JD x x st)(t:Gw V.K x (uO V.K x)=Δ)(l:Ev V.K (uO V.K x)=Α (JC V.K (uO V.K x) x x st))(c:EO V.K (uO V.K x) x=Δ):Dl V x st mf k:=by have d:=c;have a:=t;unfold Gw at a;simp only[þ,beq_iff_eq]at a;unfold EO at d;rw[l,þ]at d;obtain⟨_,_,_,l⟩:=BA l;exact⟨_,_,Kf f G e a.1 l d.1 d.2,t⟩
end
structure Dt(V:VE)(x:String)(st:æ)(mm:MM)(k:Nat):Prop where
 ex:∃f fd,Df V.K V.mg x st (lK st) f fd
def stT{V:VE}{x:String}{st:æ}{k n j:Nat}{C:String}{mb:M Fl}{mm:MM}{G:Prop}(D:Dt V x st mm k)(hf:mm=jt n j C mb)(hb:HB V x st (Bz st) k λE=>tS ⟨V.K,V.cm⟩ (λy=>E) mb)(hg:Cl x (k+1) (Ht ⟨V.K,V.cm⟩ C mm) V->G)(hn:autoParam ((lK st).length=n) Η)(hj:autoParam ((Bz st).length=j) Η)(hle:autoParam (n<=j) Ι)(hC:autoParam (C≠"2") Ι)(S:autoParam (ı (Bz st) (lK st) (è st)) Ξ):G:=by obtain⟨f,fd,D⟩:=D.ex;exact hg ⟨f,fd,_,st,D,λbase=>fnM D.F S (λcdv A outer s H E=>hb S ⟨f,base,cdv,A,outer,s,H,E⟩) hn hj hf hle hC⟩
def WL{V:VE}{x:String}{st:æ}(d:V.K.In h)(G:h.Ns đ V.mg)(b:JD x x st)(a:aP V.K đ x=Α (Α<|.ref<|uO V.K x))(l:Ev V.K (uO V.K x)=Α (JC V.K (uO V.K x) x x st))(c:EO V.K (uO V.K x) x=Δ):Dt V x st mm k:=⟨Nu d G b a l c⟩
section
variable{X:Cx}{cm:String->À}{E:ă->XK}{k j n:Nat}{C x:String}{p pos py pz aD:Pos}{y z:Str}{e:Ç}{es:List Ç}{mm:MM}{mr:M (List PV)}
def WM(i:Nat)(d:Ń j X.A)(f:PE X (.Name y py) (dR i))(h:PA X es (tL ∅ E mr))(F:autoParam (Cl x k (Ht ∅ C mm) (vX X cm)) Λ)
 (g:autoParam (Gl X x) Ζ)(b:autoParam (k<=j) Ι)(c:autoParam (((x:Str)==("__debug__":Str))=Ε) Ζ)(he:autoParam (Î (.Name y py::es) X.env=(Ε,eval (.Name y py) X.env)::Î es X.env) Θ)(l:autoParam ((ü pos<|Î es X.env).any (·.1)=Ε) Ζ):
 PE X (.Call (.Name x p) (.Name y py::es) [] pos) (nF ∅ E (rV<|kk X cm)<|i_ i C mm mr):=by
 obtain⟨_,_,_,_,D,F⟩:=F.ex;exact Js i (F _) D d gJ f h g b c he l
def WN(i l:Nat)(d:Ń j X.A)(f:PE X (.Name y py) (dR i))(g:PE X (.Name z pz) (dR l))(m:PA X es (tL ∅ E mr))(F:autoParam (Cl x k (Ht ∅ C mm) (vX X cm)) Λ)(q:autoParam (l≠i) Ι)
 (h:autoParam (Gl X x) Ζ)(b:autoParam (k<=j) Ι)(c:autoParam (((x:Str)==("__debug__":Str))=Ε) Ζ)(he:autoParam (Î (.Name y py::.Name z pz::es) X.env=(Ε,eval (.Name y py) X.env)::Î (.Name z pz::es) X.env) Θ)(r:autoParam (Î (.Name z pz::es) X.env=(Ε,eval (.Name z pz) X.env)::Î es X.env) Θ)(o:autoParam ((ü pos<|Î (.Name z pz::es) X.env).any (·.1)=Ε) Ζ):
 PE X (.Call (.Name x p) (.Name y py::.Name z pz::es) [] pos) (nF ∅ E (rV<|kk X cm)<|uJ i l C mm mr):=by
 obtain⟨_,_,_,_,D,F⟩:=F.ex;exact Ju i l (F _) D d gJ f g m q h b c he r o
def Nx{o:Sem Bool}{c:Str}{d:List (String×MF)}{h:M (List Slot)}(i:Nat)(t:Ń k X.A)(u:PE X (.Name y py) (dR i))(v:PA X (e::es) (tA ∅ E h))(q:ur (λC r=>qN X cm ze k n c C r) d:=by repeat' first|exact Qy|apply And.intro|exact True.intro)
 (fJ:autoParam (Î (e::es) X.env=(Ε,eval e X.env)::Î es X.env) Θ)(w:autoParam ((ü pos<|Î es X.env).any (·.1)=Ε) Ζ)
 (s:autoParam (eval (.Call (.Attribute (.Name y py) c aD) (e::es) [] pos) X.env=(do
   let g<-eval (.Name y py) X.env
   fU aD.atName
   let (f,first)<-cI [g] (il g c o)
   fX pos f first (ü pos<|Î (e::es) X.env) (af pos<|ag [] X.env))) Η):
 PE X (.Call (.Attribute (.Name y py) c aD) (e::es) [] pos) (tO ∅ E<|eA c d i h):=Jw i q t gJ u v fJ w s
end
structure Cp(x:String)(k:Nat)(sp:Sp)(V:VE):Prop where
 ex:∃f fd ps st,Df V.K V.mg x st ps f fd/\∀base,nG V.Pg V.w V.K V.mg base ze k f fd ps sp
def stP{V:VE}{x:String}{st:æ}{N:List Str}{k n j:Nat}{mb:M Fl}{mf:MF}{G:Prop}(D:Dn V x st N mf k)(hf:mf=Ď n j mb)(hb:ı N (lK st) (è st)->∀z:HZ,Ń k (z.A.deeper<|ň x (è st) z.s.heap.objs.size z.f z.cdv)->
 S9 (kj ze V.Pg V.w V.K V.mg z.base N x (è st) z.f z.cdv z.A z.outer z.s z.H z.E) (Ō st) (tS ⟨V.K,V.cm⟩ (λy=>z.E) mb))(hg:Cp x (k+1) (rj ⟨V.K,V.cm⟩ n mf) V->G)(hn:autoParam ((lK st).length=n) Η)(hj:autoParam (N.length=j) Η)(S:autoParam (ı N (lK st) (è st)) Ξ):G:=by
 obtain⟨f,fd,D⟩:=D.ex;exact hg ⟨f,fd,_,st,D,λbase=>fnT D.F S (λcdv A outer s H E hr=>hb S ⟨f,base,cdv,A,outer,s,H,E⟩ hr) hn hj hf⟩
section
variable{X:Cx}{cm:String->À}{E:ă->XK}{k j n:Nat}{mf:MF}{C:String}{pos:Pos}{e:Ç}{es:List Ç}
def QE(F:autoParam (Cp C k (rj ∅ n mf) (vX X cm)) Λ)(d:autoParam (Gc (vX X cm) C) Λ)(c:autoParam (k<=j) Ι)(a:autoParam (∀{b:List Slot},(∃r,mf b=r/\∀z,r=z->z≠.bad)->b.length=n) Ο):uM X cm ze j n C mf:=by obtain⟨_,_,_,_,D,F⟩:=F.ex;cases D.m.symm.trans d.h;exact⟨_,_,D.F.kp,(F _).mono c,D.b,a⟩
def QF(F:autoParam (Cl C k (rj ∅ n mf) (vX X cm)) Λ)(d:autoParam (Gc (vX X cm) C) Λ)(c:autoParam (k<=j) Ι)(a:autoParam (∀{b:List Slot},(∃r,mf b=r/\∀z,r=z->z≠.bad)->b.length=n) Ο):uM X cm ze j n C mf:=by obtain⟨_,_,_,_,D,F⟩:=F.ex;cases D.m.symm.trans d.h;exact⟨_,_,D.F.kp,(Ϲ.pos<|F _).mono c,D.b,a⟩
def QG{a:Ç}{ϸ:List (String×MF)}{ma:M PV}{ms:M (List Slot)}{jx:Int}{j1:Nat}{p1 p2:Pos}(hr:Ń k X.A)(ho:PE X a (tR ∅ E ma))(ha:PA X (e::es) (tA ∅ E ms))(og:ur (λC mf=>uM X cm ze k n C mf) ϸ:=by repeat' first|exact QE|exact QF|apply And.intro|exact True.intro)
 (fJ:autoParam (Î (e::es) X.env=(Ε,eval e X.env)::Î es X.env) Θ)(bZ:autoParam ((ü pos<|Î es X.env).any (·.1)=Ε) Ζ)
 (ht:autoParam (eval (.Call (.Subscript a (.Constant (.int jx) j1 p1) p2) (e::es) [] pos) X.env=(do fX pos (<-eval (.Subscript a (.Constant (.int jx) j1 p1) p2) X.env) [] (ü pos<|Î (e::es) X.env) (af pos<|ag [] X.env))) Η):
 PE X (.Call (.Subscript a (.Constant (.int jx) j1 p1) p2) (e::es) [] pos) (tO ∅ E<|Jp ϸ (Ê Þ ma<|mC<|.int jx) ms):=Nr og hr gJ ho ha fJ bZ ht
end
structure Gt(V:VE)(x:String)(p:PV):Prop where
 ex:∃a,V.mg x=Α (.ref a)/\oj V.K p (.ref a)=Δ
def WO{X:Cx}{b:String->À}{E:ă->XK}{x:String}{pos:Pos}{p:PV}(h:autoParam (Gt (vX X b) x p) Λ)(d:autoParam (Gl X x) Ζ)(hd:autoParam (((x:Str)==("__debug__":Str))=Ε) Ζ):PE X (.Name x pos) (tV (kk X b) E<|mC p):=by obtain⟨a,h,k⟩:=h.ex;exact JX _ (tE (v:=.ref a) d h rfl hd) λF=>Je k F
def WP{V:VE}{x:String}(a:V.K.In h)(G:h.Ns đ V.mg)(e:aP V.K đ x=Α (Α<|.ref<|uO V.K x))(c:oj V.K p (.ref<|uO V.K x)=Δ):Gt V x p:=⟨_,pA a G e,c⟩
structure Dj(V:VE)(y C D:String):Prop where
 ex:∃f,uZ V.K (V.cm C) y f/\uZ V.K (V.cm D) y f
def QH{V:VE}{y C D:String}{k n:Nat}{a:MF}{G:Prop}(J:Dj V y C D)(c:Ch y D k n a V->G)(F:autoParam (Ch y C k n a V) Λ):G:=by obtain⟨f,M,N⟩:=J.ex;obtain⟨g,d,b,e,B,F⟩:=F.ex;cases M.at_.symm.trans e.at_;exact c ⟨f,d,b,N,B,F⟩
def WS{V:VE}{y C D:String}(m:wb V.K (V.cm C) y (ve V.K (V.cm C) y)=Δ)(a:wb V.K (V.cm D) y (ve V.K (V.cm C) y)=Δ):Dj V y C D:=⟨_,tN m,tN a⟩
end P
namespace My
noncomputable def gd(a b:Int):Int:=((Int.gcd a b:Nat):Int)
def dv(t b:Int):Int:=if b<0then-gd t b else gd t b
end My
namespace Hu
abbrev Pt:=Int×Int
noncomputable def tn(a b c:Pt):Int:=(b.1-a.1)*(c.2-a.2)-(b.2-a.2)*(c.1-a.1)
theorem Tb{m:Type}(R:m->m->Prop):∀(l:List m),l≠[]->(∀x∈l,∀y∈l,R x y\/R y x)->(∀x∈l,∀y∈l,∀z∈l,R x y->R y z->R x z)->∃b∈l,∀s∈l,R b s
 |[],h,_,_=>absurd rfl h|[x],_,t,_=>⟨x,by simp,fun s f=>by
     have e:=by simpa using f
     subst e;rcases t s (by simp) s (by simp)with q|q<;>exact q⟩
 |x::y::r,_,t,u=>by
  obtain⟨b,A,v⟩:=Tb R (y::r) (by simp) (λa o c n=>t a (ð _ o) c<|ð _ n)<|λa o c n d hd=>u a (ð _ o) c (ð _ n) d<|ð _ hd;have p:b∈x::y::r:=ð _ A;have g:x∈x::y::r:=by simp
  have w:R x x:=by rcases t x g x g with q|q<;>exact q
  rcases t b p x g with q|q
  ·refine⟨b,p,λs f=>?_⟩;rcases ù.mp f with e|e
   ·subst e;exact q
   ·exact v s e
  ·refine⟨x,g,λs f=>?_⟩;rcases ù.mp f with e|e
   ·subst e;exact w
   ·exact u x g b p s f q<|v s e
def AC(a b c p:Pt):Prop:=tn a b c≠0/\0<=tn p b c*tn a b c/\0<=tn a p c*tn a b c/\0<=tn a b p*tn a b c
def Tc(a b c p:Pt):tn p b c+tn a p c+tn a b p=tn a b c:=by dsimp only[tn];grind
def Zo(a b c:Pt):tn b c a=tn a b c:=by dsimp only[tn];grind
def QI(a b c:Pt):tn b a c= -tn a b c:=by dsimp only[tn];grind
def ZH(a b c:Pt):tn a c b= -tn a b c:=by dsimp only[tn];grind
def AC.swap(h:AC a b c p):AC b a c p:=by
 obtain⟨h1,f,e,d⟩:=h;unfold AC;rw[QI a b c,QI a p c,QI p b c,QI a b p];refine⟨by lia,?_,?_,?_⟩
 ·rw[se];exact e
 ·rw[se];exact f
 ·rw[se];exact d
def AC.EQ(h:AC a b c p):AC b c a p:=by obtain⟨g,f,e,d⟩:=h;unfold AC;rw[Zo a b c,show tn p c a=tn a p c from Zo a p c,show tn b p a=tn a b p from Zo a b p,show tn b c p=tn p b c from Zo p b c];exact⟨g,e,d,f⟩
def Z3i(h1:0<=tn p a b)(d:0<=tn p b c)(h3:0<=tn p c a)(h:0<tn p a b\/0<tn p b c\/0<tn p c a):AC a b c p:=by have e:=Tc a b c p;have e1:=(Zo a p c).symm;have e2:=Zo p a b;refine⟨by lia,ŋ d (by lia),ŋ (by lia) (by lia),ŋ (by lia)<|by lia⟩
section
variable{S:List Pt}{p:Pt}
def Z6d(b:∀x∈S,∀y∈S,∀z∈S,¬AC x y z p):∀x∈S,∀y∈S,∀z∈S,0<=tn p x y->0<=tn p y z->0<=tn p x z:=by
 intro x f y d z c i g;by_cases h:0<=tn p x z
 ·exact h
 ·exfalso;have e:=ZH p x z;exact b x f y d z c (Z3i i g (by lia)<|by lia)
noncomputable def dt(u v:Pt)(p:Pt):Int:=(u.1-p.1)*(v.1-p.1)+(u.2-p.2)*(v.2-p.2)
def Z5A(h:u≠p):0<dt u u p:=by
 unfold dt;have h1:0<=(u.1-p.1)*(u.1-p.1):=by
  rcases ia 0 (u.1-p.1)with q|q
  ·exact ŋ q q
  ·exact sf q q
 have h2:0<=(u.2-p.2)*(u.2-p.2):=by
  rcases ia 0 (u.2-p.2)with q|q
  ·exact ŋ q q
  ·exact sf q q
 by_cases d:u.1-p.1=0
 ·by_cases c:u.2-p.2=0
  ·exact absurd (Prod.ext (by omega)<|by omega) h
  ·have:=Int.mul_ne_zero c c;omega
 ·have:=Int.mul_ne_zero d d;omega
def Z6u(tri:∃x∈S,∃y∈S,∃z∈S,tn x y z≠0)(no:∀x∈S,∀y∈S,∀z∈S,¬AC x y z p):
 ∃a∈S,∃b∈S,a≠b/\(∀s∈S,0<=tn a b s)/\tn a b p<0:=by
 obtain⟨x,hx,y,hy,z,hz,Zam⟩:=tri;have hp:p∉S:=by
  intro hp;have e:=Tc x y z p;have g:∀u∈S,∀v∈S,tn p u v=0:=by
   intro u hu v hv;by_cases h:tn p u v=0
   ·exact h
   ·exfalso;refine no p hp u hu v hv ⟨h,?_,?_,?_⟩
    ·rcases ia 0 (tn p u v)with q|q
     ·exact ŋ q q
     ·exact sf q q
    ·rw[show tn p p v=0 by simp only[tn];grind];simp
    ·rw[show tn p u p=0 by simp only[tn];grind];simp
  have k1:=g y hy z hz;have k2:=g z hz x hx;have k3:=g x hx y hy;rw[Zo p z x|>.symm]at k2;have e1:tn x p z=tn p z x:=(Zo x p z).symm;have e2:tn x y p=tn p x y:=Zo p x y;have e3:tn z x p=tn p z x:=Zo p z x;lia
 have tr:=Z6d no;have tot:∀x∈S,∀y∈S,0<=tn p x y\/0<=tn p y x:=λx c y c=>by have:=ZH p x y;lia
 obtain⟨b0,YO,l0⟩:=Tb (λu v=>0<=tn p u v) S (List.ne_nil_of_mem hx) tot tr;have hT:∃b∈S,(∀s∈S,0<=tn p b s)/\∀s∈S,tn p b s=0->dt b b p<=dt s s p:=by
  let T:=S.filter λs=>decide<|tn p b0 s=0
  have mT:∀{s},s∈T↔s∈S/\tn p b0 s=0:=by intro s;simp[T]
  have WU:b0∈T:=mT.mpr ⟨YO,by simp only[tn];grind⟩;obtain⟨b,hb,lb⟩:=Tb (λu v=>dt u u p<=dt v v p) T (List.ne_nil_of_mem WU) (λu c v c=>ia _ _)<|λu c v c w c h1 h2=>Int.le_trans h1 h2;obtain⟨YQ,eb⟩:=mT.mp hb;have bm:∀s∈S,0<=tn p b s:=λs i=>tr b YQ b0 YO s i (by have:=ZH p b0 b;lia)<|l0 s i;refine⟨b,YQ,bm,λs i es=>lb s<|mT.mpr ⟨i,?_⟩⟩;have h1:=l0 s i;have h2:0<=tn p s b0:=tr s i b YQ b0 YO (by have:=ZH p b s;lia) (by have:=ZH p b0 b;lia);have:=ZH p b0 s;lia
 obtain⟨b,hb,bm,bn⟩:=hT;have hbp:b≠p:=λe=>hp<|e▸hb;have hw:=Z5A hbp
 let U:=S.filter λs=>decide<|0<tn p b s
 have mU:∀{s},s∈U↔s∈S/\0<tn p b s:=by intro s;simp[U]
 have hU:U≠[]:=by
  intro hU;have g:∀s∈S,tn p b s=0:=by
   intro s i;have h1:=bm s i;by_cases h:tn p b s=0
   ·exact h
   ·have:s∈U:=mU.mpr ⟨i,by lia⟩;rw[hU]at this;cases this
  have k1:=g x hx;have k2:=g y hy;have k3:=g z hz;have fx:∀u v:Pt,tn p b u=0->tn p b v=0->dt b b p*tn p u v=0:=by
   intro u v e1 e2;have i1:dt b b p*tn p u v=dt b u p*tn p b v-dt b v p*tn p b u:=by simp only[dt,tn];grind
   rw[i1,e1,e2];simp
  have z0:∀u v:Pt,tn p b u=0->tn p b v=0->tn p u v=0:=by
   intro u v e1 e2;rcases Int.mul_eq_zero.mp (fx u v e1 e2)with q|q
   ·lia
   ·exact q
  have e:=Tc x y z p;have w1:=z0 y z k2 k3;have w2:=z0 z x k3 k1;have w3:=z0 x y k1 k2;have e1:tn x p z=tn p z x:=(Zo x p z).symm;have e2:tn x y p=tn p x y:=Zo p x y;lia
 obtain⟨d,hd,dm⟩:=Tb (λu v=>0<=tn u b v) U hU
  (fun u _ v _=>by
    have e:tn v b u= -tn u b v:=by simp only[tn];grind
    lia)
  (fun u hu v hv w hw' h1 h2=>by
    have ku:=(mU.mp hu).2;have kv:=(mU.mp hv).2;have kw:=(mU.mp hw').2;have e:tn u b w*tn p b v=tn u b v*tn p b w+tn v b w*tn p b u:=by simp only[tn];grind
    have n1:0<=tn u b v*tn p b w:=ŋ h1 (by lia);have n2:0<=tn v b w*tn p b u:=ŋ h2 (by lia);by_cases h:0<=tn u b w
    ·exact h
    ·have:tn u b w*tn p b v<0:=mq (by lia) kv;lia)
 obtain⟨hdS,kd⟩:=mU.mp hd;refine⟨d,hdS,b,hb,λe=>?_,λs i=>?_,?_⟩
 ·rw[e,show tn p b b=0 by simp only[tn];grind]at kd;lia
 ·have h1:=bm s i;by_cases h:0<tn p b s
  ·exact dm s<|mU.mpr ⟨i,h⟩
  ·have es:tn p b s=0:=by lia
   have YS:=bn s i es;have c1:dt b b p*tn s p d= -(dt b s p*tn p b d):=by
    have i1:dt b b p*tn s p d=dt b d p*tn p b s-dt b s p*tn p b d:=by simp only[dt,tn];grind
    rw[i1,es];simp
   have c2:dt b b p*tn d b s=(dt b s p-dt b b p)*tn p b d:=by
    have i1:dt b b p*tn d b s=(dt b s p-dt b b p)*tn p b d-(dt b d p-dt b b p)*tn p b s:=by simp only[dt,tn];grind
    rw[i1,es];simp
   have c3:dt b s p*dt b s p=dt b b p*dt s s p:=by
    have i1:dt b b p*dt s s p=dt b s p*dt b s p+tn p b s*tn p b s:=by simp only[dt,tn];grind
    rw[i1,es];simp
   have Ul:dt b b p<=dt b s p:=by
    by_cases q:0<=dt b s p
    ·by_cases q2:dt b b p<=dt b s p
     ·exact q2
     ·exfalso;have l1:dt b s p*dt b s p<=dt b s p*dt b b p:=si (by lia) q;have l2:dt b s p*dt b b p<dt b b p*dt b b p:=Int.mul_lt_mul_of_pos_right (by lia) hw;have l3:dt b b p*dt b b p<=dt b b p*dt s s p:=si YS (by lia);lia
    ·exfalso;have pos:0<tn s p d:=by
      have l1:0< -(dt b s p*tn p b d):=by have:=mq (show dt b s p<0 by lia) kd;lia
      by_cases h0:0<tn s p d
      ·exact h0
      ·have:=ŋ (show 0<=dt b b p by lia) (show 0<= -tn s p d by lia);rw[Int.mul_neg]at this;lia
     refine no s i b hb d hdS (Z3i (by have:=ZH p b s;lia) (by lia) ?_ (.inr<|.inl kd));have:tn p d s=tn s p d:=Zo s p d;lia
   have n1:0<=(dt b s p-dt b b p)*tn p b d:=ŋ (by lia) (by lia);by_cases h0:0<=tn d b s
   ·exact h0
   ·have:=Int.mul_neg_of_pos_of_neg hw (show tn d b s<0 by lia);lia
 ·have:tn d b p= -tn p b d:=by simp only[tn];grind
  lia
end
abbrev Ln:=Int×Int×Int
noncomputable def hd(l:Ln)(p:Pt):Bool:=decide<|l.1*p.1+l.2.1*p.2<=l.2.2
def Z8(a b:Pt):Ln:=(b.2-a.2,a.1-b.1,(b.2-a.2)*a.1+(a.1-b.1)*a.2)
def Oe:hd (Z8 a b) s=Δ↔0<=tn a b s:=by
 unfold hd Z8;have e:tn a b s=((b.2-a.2)*a.1+(a.1-b.1)*a.2)-((b.2-a.2)*s.1+(a.1-b.1)*s.2):=by simp only[tn];grind
 dsimp only;lia
def Z9(S:List Pt):List Pt:=S.foldl (λk x=>if x∈k then k else k++[x]) []
theorem Z1v(x:Pt):∀(S k:List Pt),x∈S.foldl (λk x=>if x∈k then k else k++[x]) k↔x∈k\/x∈S
 |[],k=>by simp|y::S,k=>by
  rw[eI,Z1v x S];by_cases h:y∈k
  ·rw[if_pos h];constructor
   ·rintro (q|q)
    ·exact .inl q
    ·exact .inr<|ð _ q
   ·rintro (q|q)
    ·exact .inl q
    ·rcases ù.mp q with e|e
     ·exact .inl<|e▸h
     ·exact .inr e
  ·rw[if_neg h];simp only[Ŵ,ù,jM,or_false];constructor
   ·rintro ((q|q)|q)
    ·exact .inl q
    ·exact .inr<|.inl q
    ·exact .inr<|.inr q
   ·rintro (q|q|q)
    ·exact .inl<|.inl q
    ·exact .inl<|.inr q
    ·exact .inr q
def Zw:x∈Z9 S↔x∈S:=by unfold Z9;rw[Z1v];simp
def Kt(S:List Pt):List Ln:=(Z9 S).flatMap λa=>(Z9 S).filterMap λb=>if a≠b/\(Z9 S).all (hd<|Z8 a b)then Α (Z8 a b)else Β
def ZT:l∈Kt S↔∃a∈S,∃b∈S,a≠b/\(∀s∈S,0<=tn a b s)/\l=Z8 a b:=by
 unfold Kt;simp only[sy,wO];constructor
 ·rintro ⟨a,g,b,f,h⟩;split at h
  ·rename_i i;refine⟨a,Zw.mp g,b,Zw.mp f,i.1,λs e=>?_,(Ň h).symm⟩;exact Oe.mp<|fL.mp i.2 s<|Zw.mpr e
  ·cases h
 ·rintro ⟨a,g,b,f,k,j,rfl⟩;refine⟨a,Zw.mpr g,b,Zw.mpr f,?_⟩;rw[if_pos ⟨k,fL.mpr λs e=>Oe.mpr<|j s<|Zw.mp e⟩]
noncomputable def mx(l:List Int):Int:=l.tail.foldl max<|l.headD 0
noncomputable def mn(l:List Int):Int:=l.tail.foldl min<|l.headD 0
theorem WV:∀(l:List Int) (m:Int),m<=l.foldl max m/\(∀x∈l,x<=l.foldl max m)/\(l.foldl max m=m\/l.foldl max m∈l)
 |[],m=>by simp|y::l,m=>by
  rw[eI];obtain⟨h1,i,g⟩:=WV l<|max m y;refine⟨by lia,λx f=>?_,?_⟩
  ·rcases ù.mp f with e|e
   ·subst e;lia
   ·exact i x e
  ·rcases g with q|q
   ·rw[q];rcases ia m y with h|h
    ·right;rw[Int.max_eq_right h];simp
    ·left;rw[Int.max_eq_left h]
   ·right;exact ð _ q
theorem WW:∀(l:List Int) (m:Int),l.foldl min m<=m/\(∀x∈l,l.foldl min m<=x)/\(l.foldl min m=m\/l.foldl min m∈l)
 |[],m=>by simp|y::l,m=>by
  rw[eI];obtain⟨h1,i,g⟩:=WW l<|min m y;refine⟨by lia,λx f=>?_,?_⟩
  ·rcases ù.mp f with e|e
   ·subst e;lia
   ·exact i x e
  ·rcases g with q|q
   ·rw[q];rcases ia m y with h|h
    ·left;rw[Int.min_eq_left h]
    ·right;rw[Int.min_eq_right h];simp
   ·right;exact ð _ q
def Td(h:x∈l):x<=mx l:=by
 cases l with
 |nil=>cases h|cons y l=>
  obtain⟨b,a,_⟩:=WV l y;rcases ù.mp h with e|e
  ·subst e;exact b
  ·exact a x e
def Z4P(h:l≠[]):mx l∈l:=by
 cases l with
 |nil=>exact absurd rfl h|cons y l=>
  obtain⟨_,_,b⟩:=WV l y;rcases b with q|q
  ·show _∈y::l;rw[show mx (y::l)=y from q];simp
  ·exact ð _ q
def Te(h:x∈l):mn l<=x:=by
 cases l with
 |nil=>cases h|cons y l=>
  obtain⟨b,a,_⟩:=WW l y;rcases ù.mp h with e|e
  ·subst e;exact b
  ·exact a x e
def Z4Q(h:l≠[]):mn l∈l:=by
 cases l with
 |nil=>exact absurd rfl h|cons y l=>
  obtain⟨_,_,b⟩:=WW l y;rcases b with q|q
  ·show _∈y::l;rw[show mn (y::l)=y from q];simp
  ·exact ð _ q
def box(S:List Pt):List Ln:=[(1,0,mx<|S.map (·.1)),(-1,0,-mn (S.map (·.1))),(0,1,mx<|S.map (·.2)),(0,-1,-mn (S.map (·.2)))]
def ZM(S:List Pt):List Ln:=box S++Kt S
def Z2R(h:l∈ZM S)(g:s∈S):hd l s=Δ:=by
 rcases Ŵ.mp h with h|h
 ·have h1:=Td<|bA (f:=(·.1)) g;have h2:=Te<|bA (f:=(·.1)) g;have h3:=Td<|bA (f:=(·.2)) g;have h4:=Te<|bA (f:=(·.2)) g;unfold box at h;simp only[ù,jM,or_false]at h;unfold hd;rcases h with e|e|e|e<;>subst e<;>simp only<;>lia
 ·obtain⟨a,_,b,_,_,i,rfl⟩:=ZT.mp h;exact Oe.mpr<|i s g
def part(S:List Pt)(p:Pt):Option Ln:=(ZM S).find? λl=>!hd l p
def Z3j(h:part S p=Α l):l∈ZM S/\hd l p=Ε:=by have b:=List.find?_some h;have a:=List.mem_of_find?_eq_some h;exact⟨a,by simpa using b⟩
def Z3k(h:part S p=Β):∀l∈ZM S,hd l p=Δ:=by intro l a;have:=List.find?_eq_none.mp h l a;simpa using this
def Ku(a b c p:Pt):List Int:=[tn p b c,tn a p c,tn a b p]
noncomputable def Ao(a b p:Pt):List Int:=
 let g:=(b.1-a.1)*(p.1-a.1)+(b.2-a.2)*(p.2-a.2)
 [(b.1-a.1)*(b.1-a.1)+(b.2-a.2)*(b.2-a.2)-g,g]
def Hv(w:List Int):Bool:=decide (w.sum≠0)&&w.all λs=>decide<|0<=s*w.sum
def Z43:Hv (Ku a b c p)=Δ↔AC a b c p:=by
 unfold Hv Ku AC;have e:[tn p b c,tn a p c,tn a b p].sum=tn a b c:=by simp;have:=Tc a b c p;lia
 rw[e];simp[and_assoc]
noncomputable def at_(S:List Pt)(i:Nat):Pt:=S.getD i (0,0)
def Tf(h:i<S.length):at_ S i∈S:=by unfold at_;rw[cF,Ĩ h];exact ŵ h
def QJ(h:x∈S):∃i,i<S.length/\at_ S i=x:=by obtain⟨i,a,e⟩:=jL.mp h;exact⟨i,a,by unfold at_;rw[cF,Ĩ a];exact e⟩
def Ti(n:Nat):List (Nat×Nat):=(ú n).flatMap λj=>(ú j).map λi=>(i,j)
def Tj(n:Nat):List (Nat×Nat×Nat):=(ú n).flatMap λk=>(Ti k).map λq=>(q.1,q.2,k)
def Tk:(i,j)∈Ti n↔i<j/\j<n:=by
 unfold Ti;simp only[sy,aN,Ĉ,xi];constructor
 ·rintro ⟨k,b,m,a,rfl,rfl⟩;exact⟨a,b⟩
 ·rintro ⟨d,c⟩;exact⟨j,c,i,d,rfl,rfl⟩
def Zm:(i,j,k)∈Tj n↔i<j/\j<k/\k<n:=by
 unfold Tj;simp only[sy,aN,Ĉ,xi];constructor
 ·rintro ⟨m,d,⟨a,b⟩,c,rfl,rfl,rfl⟩;have:=Tk.mp c;exact⟨this.1,this.2,d⟩
 ·rintro ⟨g,f,e⟩;exact⟨k,e,(i,j),Tk.mpr ⟨g,f⟩,rfl,rfl,rfl⟩
def WX(S:List Pt)(p:Pt):Option (List Int×List Nat):=(Tj S.length).findSome? λq=>if Hv (Ku (at_ S q.1) (at_ S q.2.1) (at_ S q.2.2) p)then Α (Ku (at_ S q.1) (at_ S q.2.1) (at_ S q.2.2) p,[q.1,q.2.1,q.2.2])else Β
def Z5B(S:List Pt)(p:Pt):Option (List Int×List Nat):=(Ti S.length).findSome? λq=>if Hv (Ao (at_ S q.1) (at_ S q.2) p)then Α (Ao (at_ S q.1) (at_ S q.2) p,[q.1,q.2])else Β
def QK(S:List Pt)(p:Pt):List Int×List Nat:=((WX S p).orElse λx=>Z5B S p).getD ([1],[0])
structure WY(S:List Pt)(p:Pt)(w:List Int)(q:List Nat):Prop where
 len:w.length=q.length
 sum:w.sum≠0
 sign:∀s∈w,0<=s*w.sum
 nd:q.Nodup
 lt:∀i∈q,i<S.length
 x:((w.zip q).map λa=>a.1*(at_ S a.2).1).sum=w.sum*p.1
 y:((w.zip q).map λa=>a.1*(at_ S a.2).2).sum=w.sum*p.2
def ZY:Hv w=Δ↔w.sum≠0/\∀s∈w,0<=s*w.sum:=by unfold Hv;simp
def Z6e(h1:i<j)(h2:j<k)(h3:k<S.length)(h:Hv (Ku (at_ S i) (at_ S j) (at_ S k) p)=Δ):WY S p (Ku (at_ S i) (at_ S j) (at_ S k) p) [i,j,k]:=by
 have b:=ZY.mp h;refine⟨rfl,b.1,b.2,by simp;lia,by simp;lia,?_,?_⟩
 ·unfold Ku;simp[tn];grind
 ·unfold Ku;simp[tn];grind
def Z6f(h1:i<j)(h2:j<S.length)(h:Hv (Ao (at_ S i) (at_ S j) p)=Δ)(b:tn (at_ S i) (at_ S j) p=0):WY S p (Ao (at_ S i) (at_ S j) p) [i,j]:=by
 have c:=ZY.mp h;refine⟨rfl,c.1,c.2,by simp;lia,by simp;lia,?_,?_⟩
 ·unfold Ao;unfold tn at b;simp;grind
 ·unfold Ao;unfold tn at b;simp;grind
def Tl:tn a a b=0/\tn a b a=0/\tn b a a=0:=by simp only[tn];grind
def Z6g(l:i<S.length)(g:j<S.length)(f:k<S.length)(h:AC (at_ S i) (at_ S j) (at_ S k) p):∃i j k,(i,j,k)∈Tj S.length/\AC (at_ S i) (at_ S j) (at_ S k) p:=by
 have q:i≠j:=λe=>h.1 (by rw[e];exact Tl.1);have o:j≠k:=λe=>h.1 (by rw[e];exact Tl.2.2);have n:i≠k:=λe=>h.1 (by rw[e];exact Tl.2.1);rcases w_ q with a|a<;>rcases w_ o with b|b<;>rcases w_ n with c|c
 ·exact⟨i,j,k,Zm.mpr ⟨a,b,f⟩,h⟩
 ·lia
 ·exact⟨i,k,j,Zm.mpr ⟨c,b,g⟩,h.swap.EQ.swap.EQ.swap.EQ.swap.EQ.swap.EQ|>λx=>h.EQ.swap.EQ.EQ⟩
 ·exact⟨k,i,j,Zm.mpr ⟨c,a,g⟩,h.EQ.EQ⟩
 ·exact⟨j,i,k,Zm.mpr ⟨a,c,f⟩,h.swap⟩
 ·exact⟨j,k,i,Zm.mpr ⟨b,c,l⟩,h.EQ⟩
 ·lia
 ·exact⟨k,j,i,Zm.mpr ⟨b,a,l⟩,h.EQ.swap⟩
def Z3l(h:WX S p=Β):∀x∈S,∀y∈S,∀z∈S,¬AC x y z p:=by intro x d y c z b n;obtain⟨i,l,rfl⟩:=QJ d;obtain⟨j,g,rfl⟩:=QJ c;obtain⟨k,f,rfl⟩:=QJ b;obtain⟨i,j,k,e,m⟩:=Z6g l g f n;have:=BW.mp h (i,j,k) e;rw[if_pos<|Z43.mpr m]at this;cases this
def Z3m(hS:S≠[])(h:part S p=Β):WY S p (QK S p).1 (QK S p).2:=by
 have hl:=Z3k h;unfold QK;cases e3:WX S p with
 |some r=>
  obtain⟨⟨i,j,k⟩,hm,hr⟩:=BX e3;obtain⟨h1,h2,h4⟩:=Zm.mp hm;split at hr
  ·rename_i hw;cases hr;exact Z6e h1 h2 h4 hw
  ·cases hr
 |none=>
  have no:=Z3l e3;have RL:∀x∈S,∀y∈S,∀z∈S,tn x y z=0:=by
   intro x hx y hy z hz;by_cases q:tn x y z=0
   ·exact q
   ·exfalso;obtain⟨a,ha,b,hb,RM,h1,h2⟩:=Z6u ⟨x,hx,y,hy,z,hz,q⟩ no;have:=Oe.mp<|hl (Z8 a b)<|ž _<|ZT.mpr ⟨a,ha,b,hb,RM,h1,rfl⟩;lia
  have on:∀a∈S,∀b∈S,tn a b p=0:=by
   intro a ha b hb;by_cases RM:a=b
   ·subst RM;exact Tl.1
   ·have h1:=Oe.mp (hl (Z8 a b)<|ž _<|ZT.mpr ⟨a,ha,b,hb,RM,λs hs=>by rw[RL a ha b hb s hs];exact oH 0,rfl⟩);have h2:=Oe.mp (hl (Z8 b a)<|ž _<|ZT.mpr ⟨b,hb,a,ha,λe=>RM e.symm,λs hs=>by rw[RL b hb a ha s hs];exact oH 0,rfl⟩);rw[QI a b p]at h2;lia
  have bx:∀l∈box S,hd l p=Δ:=λl hm=>hl l<|jJ _ hm;have b1:=bx (1,0,mx<|S.map (·.1)) (by simp[box]);have b2:=bx (-1,0,-mn (S.map (·.1))) (by simp[box]);have b3:=bx (0,1,mx<|S.map (·.2)) (by simp[box]);have b4:=bx (0,-1,-mn (S.map (·.2))) (by simp[box]);simp only[hd,decide_eq_true_iff]at b1 b2 b3 b4;have c1:p.1<=mx (S.map (·.1)):=by lia
  have c2:mn (S.map (·.1))<=p.1:=by lia
  have c3:p.2<=mx (S.map (·.2)):=by lia
  have c4:mn (S.map (·.2))<=p.2:=by lia
  have sq:∀z:Int,0<=z*z:=λz=>by
   rcases ia 0 z with q|q
   ·exact ŋ q q
   ·exact sf q q
  cases e2:Z5B S p with
  |some r=>
   obtain⟨⟨i,j⟩,hm,hr⟩:=BX e2;obtain⟨h1,h2⟩:=Tk.mp hm;split at hr
   ·rename_i hw;cases hr;exact Z6f h1 h2 hw (on _ (Tf<|by lia) _<|Tf h2)
   ·cases hr
  |none=>
   have no2:∀a∈S,∀b∈S,¬(Hv (Ao a b p)=Δ):=by
    intro a ha b hb hw;obtain⟨i,hi,rfl⟩:=QJ ha;obtain⟨j,hj,rfl⟩:=QJ hb;have RN:∀i j,i<j->j<S.length->Hv (Ao (at_ S i) (at_ S j) p)=Δ->False:=by intro i j h1 h2 hw;have:=BW.mp e2 (i,j)<|Tk.mpr ⟨h1,h2⟩;rw[if_pos hw]at this;cases this
    rcases Nat.lt_trichotomy i j with q|q|q
    ·exact RN i j q hj hw
    ·subst q;refine(ZY.mp hw).1 ?_;simp[Ao]
    ·refine RN j i q hi ?_;rw[ZY]at hw⊢;have e1:(Ao (at_ S j) (at_ S i) p).sum=(Ao (at_ S i) (at_ S j) p).sum:=by simp[Ao];grind
     refine⟨by rw[e1];exact hw.1,λs hs=>?_⟩;rw[e1];refine hw.2 s ?_;simp[Ao]at hs⊢;rcases hs with e|e
     ·right;rw[e];grind
     ·left;rw[e];grind
   have key:∀a∈S,∀b∈S,(0<b.1-a.1->a.1<=p.1->p.1<=b.1->False)/\(0<b.2-a.2->a.2<=p.2->p.2<=b.2->False):=by
    intro a ha b hb;have o:=on a ha b hb;have e:(b.1-a.1)*(p.2-a.2)=(b.2-a.2)*(p.1-a.1):=by unfold tn at o;lia
    refine⟨λh1 h2 h3=>no2 a ha b hb ?_,λh1 h2 h3=>no2 a ha b hb ?_⟩
    all_goals
     rw[ZY];have RO:(Ao a b p).sum=(b.1-a.1)*(b.1-a.1)+(b.2-a.2)*(b.2-a.2):=by simp[Ao]
     have s1:=sq<|b.1-a.1;have s2:=sq<|b.2-a.2
    ·have pos:0<(b.1-a.1)*(b.1-a.1):=wM h1 h1;have g1:0<=(b.1-a.1)*(p.1-a.1)+(b.2-a.2)*(p.2-a.2):=by
      have i1:((b.1-a.1)*(p.1-a.1)+(b.2-a.2)*(p.2-a.2))*(b.1-a.1)=((b.1-a.1)*(b.1-a.1)+(b.2-a.2)*(b.2-a.2))*(p.1-a.1):=by grind
      have i2:0<=((b.1-a.1)*(b.1-a.1)+(b.2-a.2)*(b.2-a.2))*(p.1-a.1):=ŋ (by lia) (by lia);by_cases q:0<=(b.1-a.1)*(p.1-a.1)+(b.2-a.2)*(p.2-a.2)
      ·exact q
      ·have:=mq (show(b.1-a.1)*(p.1-a.1)+(b.2-a.2)*(p.2-a.2)<0 by lia) h1;lia
     have g2:0<=(b.1-a.1)*(b.1-a.1)+(b.2-a.2)*(b.2-a.2)-((b.1-a.1)*(p.1-a.1)+(b.2-a.2)*(p.2-a.2)):=by
      have i1:((b.1-a.1)*(b.1-a.1)+(b.2-a.2)*(b.2-a.2)-((b.1-a.1)*(p.1-a.1)+(b.2-a.2)*(p.2-a.2)))*(b.1-a.1)=((b.1-a.1)*(b.1-a.1)+(b.2-a.2)*(b.2-a.2))*(b.1-p.1):=by grind
      have i2:0<=((b.1-a.1)*(b.1-a.1)+(b.2-a.2)*(b.2-a.2))*(b.1-p.1):=ŋ (by lia) (by lia);by_cases q:0<=(b.1-a.1)*(b.1-a.1)+(b.2-a.2)*(b.2-a.2)-((b.1-a.1)*(p.1-a.1)+(b.2-a.2)*(p.2-a.2))
      ·exact q
      ·have:=mq (show(b.1-a.1)*(b.1-a.1)+(b.2-a.2)*(b.2-a.2)-((b.1-a.1)*(p.1-a.1)+(b.2-a.2)*(p.2-a.2))<0 by lia) h1;lia
     rw[RO];refine⟨by lia,λs hs=>?_⟩;simp[Ao]at hs;rcases hs with e|e<;>rw[e]
     ·exact ŋ g2 (by lia)
     ·exact ŋ g1 (by lia)
    ·have pos:0<(b.2-a.2)*(b.2-a.2):=wM h1 h1;have g1:0<=(b.1-a.1)*(p.1-a.1)+(b.2-a.2)*(p.2-a.2):=by
      have i1:((b.1-a.1)*(p.1-a.1)+(b.2-a.2)*(p.2-a.2))*(b.2-a.2)=((b.1-a.1)*(b.1-a.1)+(b.2-a.2)*(b.2-a.2))*(p.2-a.2):=by grind
      have i2:0<=((b.1-a.1)*(b.1-a.1)+(b.2-a.2)*(b.2-a.2))*(p.2-a.2):=ŋ (by lia) (by lia);by_cases q:0<=(b.1-a.1)*(p.1-a.1)+(b.2-a.2)*(p.2-a.2)
      ·exact q
      ·have:=mq (show(b.1-a.1)*(p.1-a.1)+(b.2-a.2)*(p.2-a.2)<0 by lia) h1;lia
     have g2:0<=(b.1-a.1)*(b.1-a.1)+(b.2-a.2)*(b.2-a.2)-((b.1-a.1)*(p.1-a.1)+(b.2-a.2)*(p.2-a.2)):=by
      have i1:((b.1-a.1)*(b.1-a.1)+(b.2-a.2)*(b.2-a.2)-((b.1-a.1)*(p.1-a.1)+(b.2-a.2)*(p.2-a.2)))*(b.2-a.2)=((b.1-a.1)*(b.1-a.1)+(b.2-a.2)*(b.2-a.2))*(b.2-p.2):=by grind
      have i2:0<=((b.1-a.1)*(b.1-a.1)+(b.2-a.2)*(b.2-a.2))*(b.2-p.2):=ŋ (by lia) (by lia);by_cases q:0<=(b.1-a.1)*(b.1-a.1)+(b.2-a.2)*(b.2-a.2)-((b.1-a.1)*(p.1-a.1)+(b.2-a.2)*(p.2-a.2))
      ·exact q
      ·have:=mq (show(b.1-a.1)*(b.1-a.1)+(b.2-a.2)*(b.2-a.2)-((b.1-a.1)*(p.1-a.1)+(b.2-a.2)*(p.2-a.2))<0 by lia) h1;lia
     rw[RO];refine⟨by omega,λs hs=>?_⟩;simp[Ao]at hs;rcases hs with e|e<;>rw[e]
     ·exact ŋ g2 (by lia)
     ·exact ŋ g1 (by lia)
   have nm:∀f:Pt->Int,S.map f≠[]:=λf e=>hS<|List.map_eq_nil_iff.mp e;obtain⟨xa,hxa,exa⟩:=Ĉ.mp<|Z4Q<|nm (·.1);obtain⟨xb,Yh,exb⟩:=Ĉ.mp<|Z4P<|nm (·.1);obtain⟨ya,hya,eya⟩:=Ĉ.mp<|Z4Q<|nm (·.2);obtain⟨yb,hyb,eyb⟩:=Ĉ.mp<|Z4P<|nm (·.2);have h0:at_ S 0∈S:=Tf<|wV.mpr hS;have l1:=Td<|bA (f:=(·.1)) h0;have l2:=Te<|bA (f:=(·.1)) h0;have l3:=Td<|bA (f:=(·.2)) h0;have l4:=Te<|bA (f:=(·.2)) h0;have ex:p.1=(at_ S 0).1:=by
    by_cases q:mn (S.map (·.1))<mx (S.map (·.1))
    ·exact((key xa hxa xb Yh).1 (by lia) (by lia) (by lia)).elim
    ·lia
   have ey:p.2=(at_ S 0).2:=by
    by_cases q:mn (S.map (·.2))<mx (S.map (·.2))
    ·exact((key ya hya yb hyb).2 (by lia) (by lia) (by lia)).elim
    ·lia
   refine⟨rfl,by simp,by simp,by simp,by simp;exact wV.mpr hS,?_,?_⟩
   ·simp[ex]
   ·simp[ey]
end Hu
namespace Fr
end Fr
namespace T
open PySem L2 M2 M3 M4 P
noncomputable section
def top(i:Nat):æ:=PySem.Challenge.pw_shadowpost_k83_whole_more_never_lights.main.body.getD i<|.Pass ⟨0,0,0,0⟩
def ZQ:List (Str×PV):=[("show",.tup [.int 0,.int 0,.cls "answer_show"]),("dark",.tup [.int 1,.int 1,.cls "answer_dark"]),("who",.tup [.int 1,.int 3,.cls "answer_who"]),("lit",.tup [.int 1,.int 2,.cls "answer_lit"]),("hours",.tup [.int 0,.int 2,.cls "answer_hours"]),("first",.tup [.int 0,.int 2,.cls "answer_first"]),("walk",.tup [.int 1,.int 4,.cls "answer_walk"]),("dial",.tup [.int 0,.int 3,.cls "answer_dial"])]
def yR:M Fl:=(Ā<|ņ<|a_ Bg<|É (Â 2) á)
def kA:M Fl:=(ä (d_ (ϔ<|Ñ<|pY (Â 0) (mP<|í 1)<|mP<|Ñ<|ô é (Â 1)<|Æ 1) (gN 2) yR)
 (Ā<|ņ<|Æ 0))
def Ľ:MF:=Ď 2 3 kA
def ϵ:M Fl:=(ä (LY (gS 2<|ë (gN 7)<|ë (gN 8) Ş)<|a_ iK<|É (Â 3)<|É (Æ 4099) á)
 (Ą 3<|ņ<|Ê Ĭ (Ñ<|ô é (Ñ<|ô é (Ñ<|ô é (Ê Ĝ (Â 8)<|Æ 240007)<|Ê Ĝ (Â 7)<|Æ 89)<|Ê Ĝ (Æ 1201)<|a_ bP<|É (Â 2) á)<|Æ 11)<|Æ 998244353))
def be:M Fl:=(aK (ϐ<|Ê lC (a_ bP<|É (Â 2) á)<|Â 1)
 (ä (d_ (aL aR<|É (Æ 2) á) (gN 5) ϵ)
 (nr 2<|Ê cT (Â 3)<|Æ 5)))
def bg:M Fl:=(ä (LY (gS 2<|ë (gN 3)<|ë (gN 6) Ş)<|a_ iK<|É (Â 3)<|É (Ê zL (Æ 10)<|Æ 9) á)
 (nr 2<|í 6))
def gL:M Fl:=(ä (Ą 2<|ϧ á)
 (ä (Ą 3<|ņ<|Ê cT (Â 0)<|Æ 2)
 (ä (d_ (aL aR<|É (Ê Ĝ (Â 1)<|Ê Ϻ (Æ 1)<|Ê Ĭ (Â 0)<|Æ 2) á) (gN 4) bg)
 (ä (Ą 3<|ô é (Ê Ĭ (Â 3)<|Æ 998244341)<|Æ 5)
 (ä be
 (Ā<|fE 2))))))
def ŷ:MF:=Ď 2 9 gL
def dF:M Fl:=(ä (Ą 1<|ß ŷ<|Ì 0<|Ü (Æ 4) Ö)
 (ä (au (ϐ<|Ê ķ (Ê Ĭ (Ê Þ (Â 1)<|Æ 3)<|Æ 6)<|Æ 4)
 (Ā<|ņ<|mC .non)
 cL)
 (ä (au (ϐ<|Ê ķ (Ê Ĭ (Ê Þ (Â 1)<|Æ 3)<|Æ 6)<|Æ 5)
 (Ā<|ņ<|Ϧ<|É (Ê Ϻ (Ê Ĭ (Ê Þ (Â 1)<|Æ 0)<|Æ 2000001)<|Æ 1000000)<|É (Ê Ϻ (Ê Ĭ (Ê Þ (Â 1)<|Æ 1)<|Æ 2000001)<|Æ 1000000)<|É (Ñ<|ô é (Æ 1)<|Ê Ĭ (Ê Þ (Â 1)<|Æ 2)<|Æ 1000000) á)
 cL)
 (Ā<|ņ<|Ϧ<|É (Ê Ϻ (Ê Ĭ (Ê Þ (Â 1)<|Æ 0)<|Æ 7)<|Æ 3)<|É (Ê Ϻ (Ê Ĭ (Ê Þ (Â 1)<|Æ 1)<|Æ 7)<|Æ 3)<|É (Ñ<|ô é (Æ 1)<|Ê Ĭ (Ê Þ (Â 1)<|Æ 2)<|Æ 3) á))))
def ϣ:MF:=Ď 1 2 dF
def ay:M Fl:=(ä (Ą 4<|Ģ [0,1,3] 1 (aL aR<|É (Ñ<|ô é (Æ 1)<|Ê Ĭ (Ê cT (Â 1)<|Æ 8)<|Æ 3) á) (gN 3) Ę (Ñ<|ß ϣ<|Ü (Ñ<|ô é (Ñ<|ß Ľ<|Ì 0<|Ü (Ñ<|ô é (Ñ<|ô é (Æ 5)<|Ê Ĝ (Æ 3)<|Â 2)<|Â 3) Ö)<|Ê cT (Â 1)<|Æ 8) Ö))
 (nr 2<|Ϧ<|É (Ê Þ (Ñ<|ϧ<|É (mC<|.str "ab")<|É (mC<|.str "a") á)<|Â 3)<|É (Ñ<|ô é (Æ 1)<|Ê Ĭ (Â 1)<|Æ 1000)<|É (í 4) á))
def fw:M Fl:=(ä (Ą 1<|ß Ľ<|Ì 0<|Ü (Æ 1) Ö)
 (ä (Ą 2<|ϧ á)
 (ä (d_ (aL aR<|É (Ñ<|ô é (Æ 1)<|Ê Ĭ (Ê cT (Â 1)<|Æ 4)<|Æ 2) á) (gN 3) ay)
 (Ā<|fE 2))))
def bh:MF:=Ď 1 5 fw
def lL:M Fl:=(Ā<|ņ<|zf ax (mC<|.str " ")<|É (Ñ<|Ģ [] 1 (ĸ 0) (gN 0) Ę (a_ ba<|É (Â 0) á)) á)
def č:MF:=Ď 1 1 lL
def eR:M Fl:=(Ā<|ņ<|gf (n_ gi gi (Æ 1) (a_ bP<|É (Â 0) á)<|Â 2)<|a_ rS<|É (Ñ<|Ģ [1] 1 (ĸ 0) (gN 1) Ę (Ê AB (Â 1)<|Â 0)) á)
def aj:MF:=Ď 3 3 eR
def gn:M Fl:=(ä (Ą 1<|au (dU<|zf pZ (Â 0)<|É (mC<|.str "-") á) (pY (Â 0) (mP<|Æ 1) jm)<|ņ<|í 0)
 (ä (au (iH<|dU<|Ñ<|ß aj<|Ì 1<|Ü (mC<|.str "0123456789")<|Ü (mC<|.int<|10) Ö)
 (Ā<|ņ<|mC<|.bl Ε)
 cL)
 (Ā<|ņ<|R7 (Ê ķ (Â 0)<|mC<|.str "0")<|O8<|zf pZ (Â 1)<|É (mC<|.str "0") á)))
def Ϟ:MF:=Ď 1 2 gn
def nH:M Fl:=(ä (au (dU<|a_ rS<|É (Ñ<|Ģ [] 1 (ĸ 0) (gN 0) Ę (Ñ<|ß Ϟ<|Ì 0 Ö)) á)
 (Ā<|Ģ [] 1 (ĸ 0) (gN 0) Ę (a_ kR<|É (Â 0) á))
 cL)
 (Ā<|ņ<|mC .non))
def dG:MF:=Ď 1 1 nH
def nI:M Fl:=(ä (Ą 2<|ß dG<|Ì 0 Ö)
 (ä (au (ϐ<|Ê rQ (Â 2)<|mC .non)
 dA
 cL)
 (Ā<|fE 2)))
def ak:MF:=Ď 2 3 nI
def qg:M Fl:=(ä (au (qI (ϐ<|Ê ϕ (Ê Þ (Â 0)<|Æ 0)<|mC<|.str "yard")<|ϐ<|Ê ϕ (a_ bP<|É (Â 0) á)<|Æ 3)
 dA
 cL)
 (ä (Ą 2<|ß ak<|Ü (Ñ<|pY (Â 0) (mP<|Æ 1) jm)<|Ì 1 Ö)
 (ä (au (iH<|dU<|a_ rS<|É (Ñ<|Ģ [] 1 (ĸ 2) (gN 0) Ę (n_ gi gi (Æ 1) (Â 0)<|mC<|.int<|20)) á)
 dA
 cL)
 (Ā<|fE 2))))
def iM:MF:=Ď 2 3 qg
def dH:M Fl:=(Ā<|ņ<|gf (Ê Bf (uz 0)<|Æ 0)<|Ê ķ (Af 0)<|Æ 0)
def Ÿ:MF:=Ď 1 1 dH
def eB:M Fl:=(ä (kQ 0 ["Yard"] "width" (í 1))
 (ä (kQ 0 ["Yard"] "height" (í 2))
 (ä (kQ 0 ["Yard"] "things" (Ñ<|uk jo<|É (Â 3) á))
 (kQ 0 ["Yard"] "days" (Ñ<|Qa (Jf 4) (Ģ [] 3 (qQ 4) (gD 0 1 2) Ę (Ϧ<|É (í 0)<|É (í 1)<|É (Ñ<|uk jo<|É (Â 2) á) á))<|Ģ [] 3 (ĸ 4) (gT 3<|ë (gN 0)<|ë (gN 1)<|ë (gN 2) Ş) Ę (Ϧ<|É (í 0)<|É (í 1)<|É (Ñ<|uk jo<|É (Â 2) á) á))))))
def gp:MI:=fG 5 5 "Yard" eB
def wy:M Fl:=(Ā<|ņ<|gf (Ê gi (a_ Bg<|É (Ê Þ (Â 0)<|Æ 0) á)<|mC<|.int<|1000000)<|gf (Ê gi (a_ Bg<|É (Ê Þ (Â 0)<|Æ 1) á)<|mC<|.int<|1000000)<|n_ gi gi (Æ 1) (Ê Þ (Â 0)<|Æ 2)<|mC<|.int<|1000000)
def qh:MF:=Ď 1 1 wy
def kB:M Fl:=(ä (au (ϐ<|Ê ķ (Â 0)<|Ñ<|ϧ<|É (mC<|.str "night") á)
 (Ā<|ņ<|mC .non)
 cL)
 (ä (au (qI (ϐ<|Ê ϕ (Ê Þ (Â 0)<|Æ 0)<|mC<|.str "ray")<|ϐ<|Ê ϕ (a_ bP<|É (Â 0) á)<|Æ 4)
 dA
 cL)
 (ä (Ą 2<|ņ<|a_ qK<|É (Ñ<|ß ak<|Ü (Ñ<|pY (Â 0) (mP<|Æ 1) jm)<|Ì 1 Ö) á)
 (ä (au (iH<|dU<|Ñ<|ß qh<|Ì 2 Ö)
 dA
 cL)
 (Ā<|fE 2)))))
def fb:MF:=Ď 2 3 kB
def qi:M WR:=(uy (qI (ϐ<|Ê ķ (uz 2)<|Æ 0)<|ϐ<|Ê ķ (Af 2)<|mC<|.int<|24) dA<|Ae 2<|Ñ<|ß fb<|Ì 0<|Ì 1 Ö)
def iN:MW:=gK 3 3 qi
def uQ:M Fl:=(Ā<|ß aj<|Ì 0<|Ü (mC<|.str "abcdefghijklmnopqrstuvwxyz")<|Ü (mC<|.int<|8) Ö)
def nj:MF:=Ď 1 1 uQ
def rz:M Fl:=(ä (au (qI (ϐ<|Ê ϕ (a_ bP<|É (Â 0) á)<|Æ 3)<|iH<|dU<|Ñ<|ß nj<|Ü (Ê Þ (Â 0)<|Æ 1) Ö)
 dA
 cL)
 (ä (Ą 2<|ņ<|Ê Þ (Ñ<|ß ak<|Ü (Ñ<|pY (Â 0) (mP<|Æ 2) jm)<|Ì 1 Ö)<|Æ 0)
 (ä (au (iH<|ϐ<|n_ gi gi (Æ 1) (Â 2)<|mC<|.int<|1000000000)
 dA
 cL)
 (Ā<|Ke<|Bn (Ê Þ (Â 0)<|Æ 1)<|Bn (í 2)<|Kd<|ϧ á))))
def kC:MF:=Ď 2 3 rz
def rC:M WR:=(uy (qI (dU<|Ñ<|ß Ÿ<|Ì 2 Ö)<|ϐ<|Ê ķ (uz 2)<|mC<|.int<|12) dA<|Ki 3 (ß kC<|Ì 0<|Ì 1 Ö)<|uy (Dp 3<|ϐ<|Ê AB (Ê Þ (Â 3)<|Æ 0)<|Ñ<|Ģ [] 3 (qQ 2) (gD 0 1 2) Ę (í 0)) dA<|Ac 2 3)
def kD:MW:=gK 3 4 rC
def rD:M Fl:=(Ā<|ņ<|n_ gi gi (ϥ ϳ<|mC<|.int<|1000000000) (Â 0)<|mC<|.int<|1000000000)
def bi:MF:=Ď 1 1 rD
def qj:M Fl:=(Ā<|ņ<|n_ gi gi (Æ 1) (Â 0)<|mC<|.int<|1000000000)
def fc:MF:=Ď 1 1 qj
def nJ:M Fl:=(Ā<|ņ<|gf (Ê ķ (a_ bP<|É (Â 0) á)<|Æ 3)<|gf (Ñ<|ß bi<|Ü (Ê Þ (Â 0)<|Æ 0) Ö)<|gf (Ñ<|ß bi<|Ü (Ê Þ (Â 0)<|Æ 1) Ö)<|Ñ<|ß fc<|Ü (Ê Þ (Â 0)<|Æ 2) Ö)
def gu:MF:=Ď 1 1 nJ
def ľ:M Fl:=(ä (kQ 0 ["Thing","Post","Fence","Sail","Cloth","House"] "word" (í 1))
 (kQ 0 ["Thing","Post","Fence","Sail","Cloth","House"] "numbers" (Ñ<|uk jo<|É (Â 2) á)))
def G5:MI:=fG 3 3 "Thing" ľ
def yS:MI:=fG 3 3 "Post" ľ
def uR:MI:=fG 3 3 "Fence" ľ
def yU:MI:=fG 3 3 "Sail" ľ
def uS:MI:=fG 3 3 "Cloth" ľ
def uT:MI:=fG 3 3 "House" ľ
def kT:M Fl:=(Ā<|ņ<|gf (Ê ķ (a_ bP<|É (Â 0) á)<|Æ 5)<|gf (a_ rS<|É (Ñ<|Ģ [] 1 (ϔ<|Ñ<|pY (Â 0) jm<|mP<|Æ 4) (gN 0) Ę (Ñ<|ß bi<|Ì 0 Ö)) á)<|Ñ<|ß fc<|Ü (Ê Þ (Â 0)<|Æ 4) Ö)
def bj:MF:=Ď 1 1 kT
def lM:M Fl:=(Ā<|ņ<|gf (Ñ<|ß bj<|Ì 0 Ö)<|Ê ϕ (Ñ<|pY (Â 0) jm<|mP<|Æ 2)<|Ñ<|pY (Â 0) (mP<|Æ 2)<|mP<|Æ 4)
def eS:MF:=Ď 1 1 lM
def dI:M Fl:=(Ā<|ņ<|gf (Ñ<|ß bj<|Ì 0 Ö)<|gf (Ê lC (Ê Þ (Â 0)<|Æ 0)<|Ê Þ (Â 0)<|Æ 2)<|Ê lC (Ê Þ (Â 0)<|Æ 1)<|Ê Þ (Â 0)<|Æ 3)
def Ř:MF:=Ď 1 1 dI
def gM:M Fl:=(Ā<|ņ<|gf (Ñ<|ß bi<|Ü (Ê Þ (Â 0)<|Æ 0) Ö)<|gf (Ñ<|ß bi<|Ü (Ê Þ (Â 0)<|Æ 1) Ö)<|n_ gi gi (Æ 0) (Ê Þ (Â 0)<|Æ 2)<|mC<|.int<|1000000000)
def aU:MF:=Ď 1 1 gM
def lN:M Fl:=(Ā<|ņ<|gf (Ê ķ (a_ bP<|É (Â 0) á)<|Æ 9)<|a_ rS<|É (Ñ<|Ģ [0] 1 (ϔ<|Ϧ<|É (Æ 0)<|É (Æ 3)<|É (Æ 6) á) (gN 1) Ę (Ñ<|ß aU<|Ü (Ñ<|pY (Â 0) (mP<|í 1)<|mP<|Ñ<|ô é (Â 1)<|Æ 3) Ö)) á)
def eU:MF:=Ď 1 1 lN
def cU:M Fl:=(ä (au (ji (ϐ<|Ê ķ (Â 0)<|mC<|.str "post")<|dU<|Ñ<|ß gu<|Ì 1 Ö)
 (Ā<|ņ<|fH "Post" yS (Ì 0<|Ì 1 Ö))
 cL)
 (ä (au (ji (ϐ<|Ê ķ (Â 0)<|mC<|.str "fence")<|dU<|Ñ<|ß eS<|Ì 1 Ö)
 (Ā<|ņ<|fH "Fence" uR (Ì 0<|Ì 1 Ö))
 cL)
 (ä (au (ji (ϐ<|Ê ķ (Â 0)<|mC<|.str "sail")<|dU<|Ñ<|ß Ř<|Ì 1 Ö)
 (Ā<|ņ<|fH "Sail" yU (Ì 0<|Ì 1 Ö))
 cL)
 (ä (au (ji (ϐ<|Ê ķ (Â 0)<|mC<|.str "cloth")<|dU<|Ñ<|ß eU<|Ì 1 Ö)
 (Ā<|ņ<|fH "Cloth" uS (Ì 0<|Ì 1 Ö))
 cL)
 (ä (au (ji (ϐ<|Ê ķ (Â 0)<|mC<|.str "house")<|dU<|Ñ<|ß Ř<|Ì 1 Ö)
 (Ā<|ņ<|fH "House" uT (Ì 0<|Ì 1 Ö))
 cL)
 dA)))))
def Ϥ:MF:=Ď 2 2 cU
def nK:M Fl:=(ä (Ą 2<|ß ak<|Ü (Ñ<|pY (Â 0) (mP<|Æ 1) jm)<|Ì 1 Ö)
 (DC<|Ā<|ß Ϥ<|Ü (Ê Þ (Â 0)<|Æ 0)<|Ì 2 Ö))
def gv:MF:=Ď 2 3 nK
def nL:M WR:=(uy (qI (ϐ<|Ê Bf (uz 3)<|Æ 0)<|ϐ<|Ê ķ (a_ bP<|É (Â 2) á)<|mC<|.int<|40) dA<|Ab 2<|Ñ<|ß gv<|Ì 0<|Ì 1 Ö)
def gw:MW:=gK 4 4 nL
def iO:M WR:=(MT (ϐ<|Ê AB (Ê Þ (Â 0)<|Æ 0)<|Ϧ<|É (mC<|.str "ray")<|É (mC<|.str "night") á) (ϴ iN [0,1,3])<|MT (ϐ<|Ê ķ (Ê Þ (Â 0)<|Æ 0)<|mC<|.str "day") (ϴ kD [0,1,3])<|ϴ gw [0,1,2,3])
def į:MW:=gK 4 4 iO
def qk:M Fl:=(ä (Ą 1<|Ģ [] 1 (ϔ<|Ñ<|uD ϖ (Â 0)<|É (mC<|.str "\n") á) (gN 0) Ę (Ñ<|uD ϖ (Â 0)<|É (mC<|.str " ") á))
 (ä (Ą 2<|ß iM<|Ü (Ê Þ (Â 1)<|Æ 0)<|Ü (Æ 0) Ö)
 (S2 5 6 3 4 (Bv<|Ef<|Ñ<|pY (Â 1) (mP<|Æ 1) jm) (ϴ į [6,5,3,4]) (ä (au (dU<|Ñ<|ß Ÿ<|Ì 4 Ö)
 dA
 cL)
 (Ā<|ņ<|fH "Yard" gp (Ü (Ê Þ (Â 2)<|Æ 0)<|Ü (Ê Þ (Â 2)<|Æ 1)<|Ì 3<|Ì 4 Ö))))))
def cV:MF:=Ď 1 7 qk
def ju:M Fl:=(kQ 0 ["Desk"] "yard" (Ñ<|ß cV<|Ì 1 Ö))
def ql:MI:=fG 2 2 "Desk" ju
def qm:M Fl:=(ä (Ą 1<|Ģ [] 1 (ĸ 0) (gN 0) Ę (Ê Þ (Â 0)<|Æ 0))
 (ä (Ą 2<|Ģ [] 1 (ĸ 0) (gN 0) Ę (Ê Þ (Â 0)<|Æ 1))
 (Ā<|ϧ<|É (Ϧ<|É (Æ 1)<|É (Æ 0)<|É (a_ v_<|É (Â 1) á) á)<|É (Ϧ<|É (ϥ ϳ<|Æ 1)<|É (Æ 0)<|É (ϥ ϳ<|a_ wa<|É (Â 1) á) á)<|É (Ϧ<|É (Æ 0)<|É (Æ 1)<|É (a_ v_<|É (Â 2) á) á)<|É (Ϧ<|É (Æ 0)<|É (ϥ ϳ<|Æ 1)<|É (ϥ ϳ<|a_ wa<|É (Â 2) á) á) á)))
def iP:MF:=Ď 1 3 qm
def bT:M Fl:=(au (ϐ<|Ê (DN Δ) (Â 2)<|Â 1)
 (nr 1<|í 2)
 cL)
def qo:M Fl:=(ä (Ą 1<|ϧ á)
 (ä (d_ (ĸ 0) (gN 2) bT)
 (Ā<|fE 1)))
def iQ:MF:=Ď 1 3 qo
def kU:M Fl:=(ä (Ą 2<|ņ<|Ê Ϻ (Ê Þ (Â 1)<|Æ 1)<|Ê Þ (Â 0)<|Æ 1)
 (ä (Ą 3<|ņ<|Ê Ϻ (Ê Þ (Â 0)<|Æ 0)<|Ê Þ (Â 1)<|Æ 0)
 (Ā<|ņ<|Ϧ<|É (í 2)<|É (í 3)<|É (Ñ<|ô é (Ê Ĝ (Â 2)<|Ê Þ (Â 0)<|Æ 0)<|Ê Ĝ (Â 3)<|Ê Þ (Â 0)<|Æ 1) á)))
def dJ:MF:=Ď 2 4 kU
def Ap:M Fl:=(Ā<|ņ<|Ê gi (Ñ<|ô é (Ê Ĝ (Ê Þ (Â 0)<|Æ 0)<|Ê Þ (Â 1)<|Æ 0)<|Ê Ĝ (Ê Þ (Â 0)<|Æ 1)<|Ê Þ (Â 1)<|Æ 1)<|Ê Þ (Â 0)<|Æ 2)
def nk:MF:=Ď 2 2 Ap
def aF:M Fl:=(ä (Ą 5<|ß dJ<|Ì 3<|Ì 4 Ö)
 (au (ji (ϐ<|Ê ϕ (Â 3)<|Â 4)<|dU<|a_ rS<|É (Ñ<|Ģ [5] 1 (ĸ 2) (gN 1) Ę (Ñ<|ß nk<|Ì 0<|Ì 1 Ö)) á)
 (nr 1<|í 5)
 cL))
def eV:M Fl:=(d_ (ĸ 2) (gN 4) aF)
def nM:M Fl:=(ä (Ą 1<|ϧ á)
 (ä (Ą 2<|ß iQ<|Ì 0 Ö)
 (ä (d_ (ĸ 2) (gN 3) eV)
 (Ā<|fE 1))))
def gx:MF:=Ď 1 6 nM
def lO:M Fl:=(Ā<|ô é (Ñ<|ß iP<|Ì 0 Ö)<|Ñ<|ß gx<|Ì 0 Ö)
def eW:MF:=Ď 1 1 lO
def DG:M Fl:=(Ā<|ņ<|Ϧ<|É (Ñ<|ô é (Ê Ĝ (Ê Þ (Â 1)<|Æ 2)<|Ê Þ (Â 0)<|Æ 0)<|Ê Ĝ (Ê Þ (Â 1)<|Æ 0)<|Ê Þ (Â 0)<|Æ 2)<|É (Ñ<|ô é (Ê Ĝ (Ê Þ (Â 1)<|Æ 2)<|Ê Þ (Â 0)<|Æ 1)<|Ê Ĝ (Ê Þ (Â 1)<|Æ 1)<|Ê Þ (Â 0)<|Æ 2) á)
def qU:MF:=Ď 2 2 DG
def jv:M Fl:=(Ā<|ϧ<|É (Ϧ<|É (í 0)<|É (í 1)<|É (í 4) á)<|É (Ϧ<|É (í 2)<|É (í 1)<|É (í 4) á)<|É (Ϧ<|É (í 2)<|É (í 3)<|É (í 4) á)<|É (Ϧ<|É (í 0)<|É (í 3)<|É (í 4) á) á)
def ϗ:MF:=Ď 5 5 jv
def jw:M Fl:=(Ā<|ô é (Ñ<|ß ϗ<|Ì 0<|Ì 1<|Ì 2<|Ì 3<|Ü (Æ 0) Ö)<|Ñ<|ß ϗ<|Ì 0<|Ì 1<|Ì 2<|Ì 3<|Ì 4 Ö)
def az:MF:=Ď 5 5 jw
def kW:M Fl:=(ä (Ą 1<|ņ<|Ê Ĝ (Æ 2)<|Ê Þ (ϥ (ħ ["Thing","Post","Fence","Sail","Cloth","House"] "numbers")<|Â 0)<|Æ 0)
 (ä (Ą 2<|ņ<|Ê Ĝ (Æ 2)<|Ê Þ (ϥ (ħ ["Thing","Post","Fence","Sail","Cloth","House"] "numbers")<|Â 0)<|Æ 1)
 (Ā<|ß az<|Ü (Ê Ϻ (Â 1)<|Æ 1)<|Ü (Ê Ϻ (Â 2)<|Æ 1)<|Ü (Ñ<|ô é (Â 1)<|Æ 1)<|Ü (Ñ<|ô é (Â 2)<|Æ 1)<|Ü (Ê Þ (ϥ (ħ ["Thing","Post","Fence","Sail","Cloth","House"] "numbers")<|Â 0)<|Æ 2) Ö)))
def bo:MF:=Ď 1 3 kW
def jy:M Fl:=(ä (Ą 1<|ņ<|ϥ (ħ ["Thing","Post","Fence","Sail","Cloth","House"] "numbers")<|Â 0)
 (ä (Ą 2<|ņ<|Ϧ<|É (Ê Þ (Â 1)<|Æ 0)<|É (Ê Þ (Â 1)<|Æ 1) á)
 (ä (Ą 3<|ņ<|Ϧ<|É (Ê Þ (Â 1)<|Æ 2)<|É (Ê Þ (Â 1)<|Æ 3) á)
 (Ā<|ϧ<|É (Ñ<|ô é (Â 2)<|Ϧ<|É (Æ 0) á)<|É (Ñ<|ô é (Â 3)<|Ϧ<|É (Æ 0) á)<|É (Ñ<|ô é (Â 3)<|Ϧ<|É (Ê Þ (Â 1)<|Æ 4) á)<|É (Ñ<|ô é (Â 2)<|Ϧ<|É (Ê Þ (Â 1)<|Æ 4) á) á))))
def aA:MF:=Ď 1 4 jy
def kX:M Fl:=(ä (Ą 1<|ņ<|ϥ (ħ ["Thing","Post","Fence","Sail","Cloth","House"] "numbers")<|Â 0)
 (Ā<|ß ϗ<|Ü (Ê Þ (Â 1)<|Æ 0)<|Ü (Ê Þ (Â 1)<|Æ 1)<|Ü (Ê Þ (Â 1)<|Æ 2)<|Ü (Ê Þ (Â 1)<|Æ 3)<|Ü (Ê Þ (Â 1)<|Æ 4) Ö))
def bp:MF:=Ď 1 2 kX
def jz:M Fl:=(Ā<|Ģ [0] 1 (ϔ<|Ϧ<|É (Æ 0)<|É (Æ 3)<|É (Æ 6) á) (gN 1) Ę (a_ qK<|É (Ñ<|pY (ϥ (ħ ["Thing","Post","Fence","Sail","Cloth","House"] "numbers")<|Â 0) (mP<|í 1)<|mP<|Ñ<|ô é (Â 1)<|Æ 3) á))
def aB:MF:=Ď 1 1 jz
def jA:M Fl:=(ä (Ą 1<|ņ<|ϥ (ħ ["Thing","Post","Fence","Sail","Cloth","House"] "numbers")<|Â 0)
 (Ā<|ß az<|Ü (Ê Þ (Â 1)<|Æ 0)<|Ü (Ê Þ (Â 1)<|Æ 1)<|Ü (Ê Þ (Â 1)<|Æ 2)<|Ü (Ê Þ (Â 1)<|Æ 3)<|Ü (Ê Þ (Â 1)<|Æ 4) Ö))
def aC:MF:=Ď 1 2 jA
def kY:M Fl:=(Ā<|Ģ [1] 1 (ϔ<|Ñ<|nC "corners" [("Post",bo),("Fence",aA),("Sail",bp),("Cloth",aB),("House",aC)] (í 0) Ö) (gN 1) Ę (Ñ<|ß qU<|Ì 1<|Ì 0 Ö))
def bq:MF:=Ď 2 2 kY
def kE:M Fl:=(ä (au (ϐ<|Ê lC (Â 1)<|Â 0)
 (Ā<|ņ<|Æ 0)
 cL)
 (Ā<|ņ<|Ê Ϻ (Ê zM (Æ 1)<|Ñ<|ô é (Â 1)<|Æ 1)<|Ê zM (Æ 1)<|Â 0))
def cW:MF:=Ď 2 2 kE
def ϟ:M Fl:=(ä (Ą 9<|ņ<|Ê Ĝ (Â 6)<|Â 1)
 (ä (Ą 10<|ņ<|Ê Ϻ (Â 8)<|Ê Ĝ (Ê Ĝ (Â 7)<|Â 1)<|Â 2)
 (au (ϐ<|Ê Bf (Â 9)<|Æ 0)
 (Ą 5<|ņ<|a_ C7<|É (Â 5)<|É (Ê cT (Â 10)<|Â 9) á)
 (au (ϐ<|Ê lC (Â 9)<|Æ 0)
 (Ą 4<|ņ<|a_ C8<|É (Â 4)<|É (ϥ ϳ<|Ê cT (Â 10)<|ϥ ϳ<|Â 9) á)
 (au (ϐ<|Ê lC (Â 10)<|Æ 0)
 (Ā<|ņ<|Æ 0)
 cL)))))
def lP:M Fl:=(ä (Ą 4<|ņ<|Æ 0)
 (ä (Ą 5<|ņ<|Ê Ϻ (Â 3)<|Æ 1)
 (ä (d_ (ĸ 0) (gT 3<|ë (gN 6)<|ë (gN 7)<|ë (gN 8) Ş) ϟ)
 (Ā<|ß cW<|Ì 4<|Ì 5 Ö))))
def gO:MF:=Ď 4 11 lP
def kF:M Fl:=(Dk 4<|Ê zM (Ñ<|ß gO<|Ì 3<|Ü (Ê Ĝ (Æ 2)<|Ê Þ (Â 2)<|Æ 2)<|Ì 5<|Ü (ϥ (ħ ["Yard"] "width")<|Â 0) Ö)<|Ê Ĝ (Â 5)<|ϥ (ħ ["Yard"] "width")<|Â 0)
def uU:M Fl:=(ä (Ą 3<|ß eW<|Ü (Ñ<|ß bq<|Ì 1<|Ì 2 Ö) Ö)
 (ä (Ą 4<|ņ<|Æ 0)
 (ä (d_ (aL aR<|É (ϥ (ħ ["Yard"] "height")<|Â 0) á) (gN 5) kF)
 (Ā<|fE 4))))
def gC:MF:=Ď 3 6 uU
def gP:M Fl:=(Ā<|Ģ [0,1] 1 (ϔ<|ϥ (ħ ["Yard"] "things")<|Â 0) (gN 2) Ę (Ñ<|ß gC<|Ì 0<|Ì 2<|Ì 1 Ö))
def aV:MF:=Ď 2 2 gP
def yV:M Fl:=(Dk 2<|í 3)
def yW:M Fl:=(ä (au (ϐ<|Ê rQ (Â 1)<|mC .non)
 (Ā<|ß cW<|Ü (Æ 0)<|Ü (Ê Ϻ (Ê Ĝ (ϥ (ħ ["Yard"] "width")<|Â 0)<|ϥ (ħ ["Yard"] "height")<|Â 0)<|Æ 1) Ö)
 cL)
 (ä (Ą 2<|ņ<|Æ 0)
 (ä (d_ (ϔ<|Ñ<|ß aV<|Ì 0<|Ì 1 Ö) (gN 3) yV)
 (Ā<|fE 2))))
def ja:MF:=Ď 2 4 yW
def uV:M Fl:=(Ā<|ņ<|Ê fv (Ñ<|ß ja<|Ì 0<|Ü (mC .non) Ö)<|ϥ Do<|Ñ<|ß ja<|Ì 0<|Ì 1 Ö)
def nn:MF:=Ď 2 2 uV
def uW:M Fl:=(ä (Ą 6<|ß nn<|Ì 0<|Ì 5 Ö)
 (Ą 1<|Ģ [3,6] 2 (J9<|IW 1) (gT 2<|ë (gN 2)<|ë (gN 3) Ş) Ę (Ñ<|ô é (Â 3)<|Ê Ĝ (Â 0)<|Ê fv (Ê pX (Â 1)<|Â 2)<|Æ 1)))
def uX:M Fl:=(d_ (ĸ 4) (gN 5) uW)
def Aq:M Fl:=(ä (Ą 1<|Ģ [] 1 (aL aR<|É (Ê Ĝ (ϥ (ħ ["Yard"] "width")<|Â 0)<|ϥ (ħ ["Yard"] "height")<|Â 0) á) (gN 0) Ę (Æ 0))
 (ä (d_ (ϔ<|ϥ (ħ ["Yard"] "days")<|Â 0) (gT 3<|ë (gN 2)<|ë (gN 3)<|ë (gN 4) Ş) uX)
 (Ā<|fE 1)))
def qr:MF:=Ď 1 7 Aq
def iR:M Fl:=(ä (Ą 2<|ß dG<|Ü (Ñ<|pY (Â 0) (mP<|í 1) jm) Ö)
 (ä (au (ϐ<|Ê rQ (Â 2)<|mC .non)
 dA
 cL)
 (Ā<|fE 2)))
def Ī:MF:=Ď 2 3 iR
def lQ:M Fl:=(Ā<|ņ<|zf ax (mC<|.str " ")<|É (Ñ<|ô é (Ñ<|ϧ<|É (ϥ (ħ ["Thing","Post","Fence","Sail","Cloth","House"] "word")<|Â 0) á)<|Ñ<|Ģ [] 1 (ϔ<|ϥ (ħ ["Thing","Post","Fence","Sail","Cloth","House"] "numbers")<|Â 0) (gN 0) Ę (a_ ba<|É (Â 0) á)) á)
def ó:MF:=Ď 1 1 lQ
def kG:M Fl:=(ä (au (ϐ<|Ê rQ (Â 0)<|mC .non)
 (Ā<|ņ<|mC<|.str "night")
 cL)
 (Ā<|ņ<|zf ax (mC<|.str " ")<|É (Ñ<|ô é (Ñ<|ϧ<|É (mC<|.str "ray") á)<|Ñ<|Ģ [] 1 (ĸ 0) (gN 0) Ę (a_ ba<|É (Â 0) á)) á))
def br:MF:=Ď 1 1 kG
def gy:M Fl:=(ä (nr 1<|Jl [(mC<|.str "day "),(Es<|í 2),(mC<|.str " "),(Es<|í 3)] iz)
 (IX 1<|Ģ [] 1 (ĸ 4) (gN 0) Ę (Ñ<|ß br<|Ì 0 Ö)))
def qt:M Fl:=(ä (Ą 1<|ϧ<|É (zf ax (mC<|.str " ")<|É (Ñ<|ϧ<|É (mC<|.str "yard")<|É (a_ ba<|É (ϥ (ħ ["Yard"] "width")<|Â 0) á)<|É (a_ ba<|É (ϥ (ħ ["Yard"] "height")<|Â 0) á) á) á) á)
 (ä (IX 1<|Ģ [] 1 (ϔ<|ϥ (ħ ["Yard"] "things")<|Â 0) (gN 0) Ę (Ñ<|nC "shown" [("Thing",ó),("Post",ó),("Fence",ó),("Sail",ó),("Cloth",ó),("House",ó)] (í 0) Ö))
 (ä (d_ (ϔ<|ϥ (ħ ["Yard"] "days")<|Â 0) (gT 3<|ë (gN 2)<|ë (gN 3)<|ë (gN 4) Ş) gy)
 (Ā<|ņ<|zf ax (mC<|.str "\n")<|É (Â 1) á))))
def ff:MF:=Ď 1 5 qt
def lR:M Fl:=(Ā<|ņ<|G3 "\n" "; " (Ñ<|ß ff<|Ì 0 Ö))
def cB:MF:=Ď 2 2 lR
def ou:M Fl:=(Ā<|ņ<|n_ gi lC (Æ 0) (Â 1)<|a_ bP<|É (ϥ (ħ ["Yard"] "days")<|Â 0) á)
def eC:MF:=Ď 2 2 ou
def rE:M Fl:=(Ā<|ņ<|Ê Þ (Ê Þ (ϥ (ħ ["Yard"] "days")<|Â 0)<|Â 1)<|Æ 2)
def eD:MF:=Ď 2 2 rE
def nN:M Fl:=(au (qI (iH<|dU<|Ñ<|ß eC<|Ì 0<|Ì 1 Ö)<|iH<|ϐ<|n_ gi lC (Æ 0) (Â 2)<|a_ bP<|É (Ñ<|ß eD<|Ì 0<|Ì 1 Ö) á)
 dA
 cL)
def gA:MF:=Ď 3 3 nN
def lS:M Fl:=(ä (zI<|Ñ<|ß gA<|Ì 0<|Ü (Ê Þ (Â 1)<|Æ 0)<|Ü (Ê Þ (Â 1)<|Æ 1) Ö)
 (ä (Ą 2<|ß ja<|Ì 0<|Ü (Ê Þ (Ñ<|ß eD<|Ì 0<|Ü (Ê Þ (Â 1)<|Æ 0) Ö)<|Ê Þ (Â 1)<|Æ 1) Ö)
 (ä (Ą 3<|ņ<|ϥ (ħ ["Yard"] "width")<|Â 0)
 (ä (Ą 4<|Ģ [2] 1 (aL aR<|É (Ê Ĝ (Â 3)<|ϥ (ħ ["Yard"] "height")<|Â 0) á) (gN 1) Ę (au (dU<|Ê fv (Ê pX (Â 0)<|Â 1)<|Æ 1) (mC<|.str "#")<|mC<|.str "."))
 (Ā<|ņ<|zf ax (mC<|.str "/")<|É (Ñ<|Ģ [4,3] 1 (aL aR<|É (ϥ (ħ ["Yard"] "height")<|Â 0) á) (gN 2) Ę (zf ax (mC<|.str "")<|É (Ñ<|pY (Â 0) (mP<|Ê Ĝ (Â 2)<|Â 1)<|mP<|Ñ<|ô é (Ê Ĝ (Â 2)<|Â 1)<|Â 1) á)) á)))))
def cC:MF:=Ď 2 5 lS
def bU:M Fl:=(Ā<|ņ<|gf (n_ gi lC (Æ 0) (Ê Þ (Â 1)<|Æ 0)<|ϥ (ħ ["Yard"] "width")<|Â 0)<|n_ gi lC (Æ 0) (Ê Þ (Â 1)<|Æ 1)<|ϥ (ħ ["Yard"] "height")<|Â 0)
def ő:MF:=Ď 2 2 bU
def lU:M Fl:=(au (iH<|dU<|Ñ<|ß ő<|Ì 0<|Ì 1 Ö)
 dA
 cL)
def cD:MF:=Ď 2 2 lU
def qu:M Fl:=(au (iH<|dU<|Ñ<|ß eC<|Ì 0<|Ì 1 Ö)
 dA
 cL)
def iS:MF:=Ď 2 2 qu
def qv:M Fl:=(Ā<|ô é (Ê Ĝ (Ê Þ (Â 0)<|Æ 1)<|Â 1)<|Ê Þ (Â 0)<|Æ 0)
def ϻ:MF:=Ď 2 2 qv
def rG:M Fl:=(Ā<|ņ<|Ϧ<|É (Ê Ĭ (Â 0)<|Â 1)<|É (Ê cT (Â 0)<|Â 1) á)
def eE:MF:=Ď 2 2 rG
def iU:M Fl:=(ä (Ą 2<|ß eE<|Ì 1<|Ü (ϥ (ħ ["Yard"] "width")<|Â 0) Ö)
 (ä (Ą 3<|Ģ [2] 2 (ϔ<|mC<|.tup [.tup [.int<|-1,.int 0],.tup [.int 1,.int 0],.tup [.int 0,.int<|-1],.tup [.int 0,.int 1],.tup [.int 0,.int 0]]) (gT 2<|ë (gN 1)<|ë (gN 2) Ş) Ę (Ϧ<|É (Ñ<|ô é (Ê Þ (Â 0)<|Æ 0)<|Â 1)<|É (Ñ<|ô é (Ê Þ (Â 0)<|Æ 1)<|Â 2) á))
 (Ā<|Ģ [0] 1 (ĸ 3) (gN 1) (dU<|Ñ<|ß ő<|Ì 0<|Ì 1 Ö) (Ñ<|ß ϻ<|Ì 1<|Ü (ϥ (ħ ["Yard"] "width")<|Â 0) Ö))))
def bV:MF:=Ď 2 4 iU
def kH:M Fl:=(ä (Ą 3<|Ģ [2] 1 (ϔ<|Ñ<|ß bV<|Ì 0<|Ì 1 Ö) (gN 1) (ϐ<|Ê ng (Ê Þ (Â 0)<|Â 1)<|mC .non) (í 1))
 (Ā<|ņ<|GD [2] (Ê Þ (Â 0)<|Â 1) (É (Â 3) á)))
def bu:MF:=Ď 3 4 kH
def dL:M Fl:=(ä (au (ϐ<|Ê ķ (Â 1)<|Â 2)
 (Ā<|ņ<|Æ 0)
 cL)
 (ä (Ą 4<|ß bu<|Ì 0<|Ì 1<|Ì 3 Ö)
 (Ā<|ņ<|au (ϐ<|Ê rQ (Â 4)<|mC .non) (mC .non)<|Ê Þ (Â 3)<|Â 4)))
def aG:MF:=Ď 4 5 dL
def fg:M Fl:=(ä (Ą 7<|ß aG<|Ì 0<|Ì 6<|Ì 2<|Ì 3 Ö)
 (ä (Ą 8<|ņ<|Ê Ϻ (Æ 1)<|Ê fv (Ê pX (Â 4)<|Â 6)<|Æ 1)
 (nr 5<|au (ϐ<|Ê rQ (Â 7)<|mC .non) (mC .non)<|Ñ<|ô é (Â 8)<|Â 7)))
def rH:M Fl:=(ä (Ą 4<|ß ja<|Ì 0<|Ì 1 Ö)
 (ä (Ą 5<|ϧ á)
 (ä (d_ (aL aR<|É (Ê Ĝ (ϥ (ħ ["Yard"] "width")<|Â 0)<|ϥ (ħ ["Yard"] "height")<|Â 0) á) (gN 6) fg)
 (Ā<|fE 5))))
def kI:MF:=Ď 4 9 rH
def fh:M Fl:=(ä (Ą 4<|ß kI<|Ì 0<|Ì 5<|Ì 2<|Ì 4 Ö)
 (nr 3<|í 4))
def rJ:M Fl:=(ä (Ą 3<|ϧ á)
 (ä (Ą 4<|Ģ [] 1 (aL aR<|É (Ê Ĝ (ϥ (ħ ["Yard"] "width")<|Â 0)<|ϥ (ħ ["Yard"] "height")<|Â 0) á) (gN 0) Ę (mC .non))
 (ä (d_ (GH<|Ef<|Ñ<|ß eD<|Ì 0<|Ì 1 Ö) (gN 5) fh)
 (Ā<|Kg<|Â 3))))
def kJ:MF:=Ď 3 6 rJ
def wz:M Fl:=(aK (ϐ<|Ê ϕ (Ê Þ (Â 4)<|ϥ ϳ<|Æ 1)<|Â 2)
 (nr 4<|Ñ<|ß bu<|Ì 0<|Ü (Ê Þ (Â 4)<|ϥ ϳ<|Æ 1)<|Ü (Ê Þ (Â 3)<|a_ bP<|É (Â 4) á) Ö))
def wA:M Fl:=(ä (Ą 4<|ϧ<|É (í 1) á)
 (ä wz
 (Ā<|Ģ [0] 1 (ĸ 4) (gN 1) Ę (Ñ<|ß eE<|Ì 1<|Ü (ϥ (ħ ["Yard"] "width")<|Â 0) Ö))))
def lV:MF:=Ď 4 5 wA
def jb:M Fl:=(ä (zI<|Ñ<|ß cD<|Ì 0<|Ì 2 Ö)
 (ä (zI<|Ñ<|ß cD<|Ì 0<|Ì 3 Ö)
 (ä (zI<|Ñ<|ß iS<|Ì 0<|Ì 1 Ö)
 (ä (Ą 4<|ß ϻ<|Ì 2<|Ü (ϥ (ħ ["Yard"] "width")<|Â 0) Ö)
 (ä (Ą 5<|ß ϻ<|Ì 3<|Ü (ϥ (ħ ["Yard"] "width")<|Â 0) Ö)
 (ä (Ą 6<|ß kJ<|Ì 0<|Ì 1<|Ì 5 Ö)
 (ä (au (ϐ<|Ê rQ (Ê Þ (Ê Þ (Â 6)<|Æ 0)<|Â 4)<|mC .non)
 (Ā<|ņ<|Ϧ<|É (mC<|.str "none")<|É (í 6) á)
 cL)
 (Ā<|ņ<|Ϧ<|É (mC<|.str "walk")<|É (Ê Þ (Ê Þ (Â 6)<|Æ 0)<|Â 4)<|É (Ñ<|ß lV<|Ì 0<|Ì 4<|Ì 5<|Ì 6 Ö)<|É (í 6) á))))))))
def dM:MF:=Ď 4 7 jb
def qw:M Fl:=(Ā<|ņ<|zf ax (mC<|.str ",")<|É (Ñ<|Ģ [] 1 (ĸ 0) (gN 0) Ę (a_ ba<|É (Â 0) á)) á)
def fi:MF:=Ď 1 1 qw
def gQ:M Fl:=(ä (Ą 2<|ß dM<|Ì 0<|Ü (Ê Þ (Â 1)<|Æ 0)<|Ü (Ϧ<|É (Ê Þ (Â 1)<|Æ 1)<|É (Ê Þ (Â 1)<|Æ 2) á)<|Ü (Ϧ<|É (Ê Þ (Â 1)<|Æ 3)<|É (Ê Þ (Â 1)<|Æ 4) á) Ö)
 (ä (au (ϐ<|Ê ķ (Ê Þ (Â 2)<|Æ 0)<|mC<|.str "none")
 (Ā<|ņ<|mC<|.str "none")
 cL)
 (Ā<|ņ<|zf ax (mC<|.str " ")<|É (Ñ<|ô é (Ñ<|ϧ<|É (a_ ba<|É (Ê Þ (Â 2)<|Æ 1) á) á)<|Ñ<|Ģ [] 1 (ϔ<|Ê Þ (Â 2)<|Æ 2) (gN 0) Ę (Ñ<|ß fi<|Ì 0 Ö)) á)))
def aH:MF:=Ď 2 3 gQ
def uY:M Fl:=(Ā<|ņ<|Ê Þ (Ê Þ (ϥ (ħ ["Yard"] "days")<|Â 0)<|Â 1)<|Æ 0)
def nq:MF:=Ď 2 2 uY
def aI:M Fl:=(au (ϐ<|Ê ķ (Ñ<|ß nq<|Ì 0<|Ì 2 Ö)<|Â 1)
 (Ā<|fE 2)
 cL)
def nO:M Fl:=(ä (d_ (aL aR<|É (a_ bP<|É (ϥ (ħ ["Yard"] "days")<|Â 0) á) á) (gN 2) aI)
 dA)
def bW:MF:=Ď 2 3 nO
def qV:M Fl:=(ä (au (ϐ<|Ê (GX "ROWS" ZQ) (Ê Þ (Â 1)<|Æ 0)<|mC<|.cls "ROWS")
 dA
 cL)
 (ä (Ą 2<|ņ<|Ê (GY "ROWS" ZQ) (mC<|.cls "ROWS")<|Ê Þ (Â 1)<|Æ 0)
 (ä (Ą 3<|pY (Â 1) (mP<|Æ 1)<|mP<|Ñ<|ô é (Æ 1)<|Ê Þ (Â 2)<|Æ 0)
 (ä (au (ϐ<|Ê ϕ (a_ bP<|É (Â 1) á)<|Ñ<|ô é (Ñ<|ô é (Æ 1)<|Ê Þ (Â 2)<|Æ 0)<|Ê Þ (Â 2)<|Æ 1)
 dA
 cL)
 (ä (Ą 4<|ß Ī<|Ì 1<|Ü (Ñ<|ô é (Æ 1)<|Ê Þ (Â 2)<|Æ 0) Ö)
 (Ā<|Jp [("answer_show",cB),("answer_dark",cC),("answer_walk",aH)] (Ê Þ (Â 2)<|Æ 2) (Ì 0<|Ü (Ñ<|ô é (Ñ<|Ģ [0] 1 (ĸ 3) (gN 1) Ę (Ñ<|ß bW<|Ì 0<|Ì 1 Ö))<|Â 4) Ö)))))))
def fj:MF:=Ď 2 5 qV
def nP:M Fl:=(ä (au (ϐ<|Ê lC (a_ bP<|É (Â 1) á)<|Æ 2)
 dA
 cL)
 (ä (Ą 2<|ß Ī<|Ì 1<|Ü (Æ 2) Ö)
 (ä (au (ϐ<|Ê ķ (a_ bP<|É (ϥ (ħ ["Yard"] "things")<|Â 0) á)<|mC<|.int<|40)
 dA
 cL)
 (Ā<|ņ<|fH "Yard" gp (Ü (ϥ (ħ ["Yard"] "width")<|Â 0)<|Ü (ϥ (ħ ["Yard"] "height")<|Â 0)<|Ü (Ñ<|ô é (ϥ (ħ ["Yard"] "things")<|Â 0)<|Ñ<|ϧ<|É (Ñ<|ß Ϥ<|Ü (Ê Þ (Â 1)<|Æ 1)<|Ì 2 Ö) á)<|Ü (ϥ (ħ ["Yard"] "days")<|Â 0) Ö)))))
def dN:MF:=Ď 2 3 nP
def jB:M Fl:=(ä (au (ϐ<|Ê ϕ (a_ bP<|É (Â 1) á)<|Æ 2)
 dA
 cL)
 (ä (Ą 2<|ņ<|Ê Þ (Ñ<|ß Ī<|Ì 1<|Ü (Æ 1) Ö)<|Æ 0)
 (ä (au (iH<|ϐ<|n_ gi lC (Æ 0) (Â 2)<|a_ bP<|É (ϥ (ħ ["Yard"] "things")<|Â 0) á)
 dA
 cL)
 (Ā<|ņ<|fH "Yard" gp (Ü (ϥ (ħ ["Yard"] "width")<|Â 0)<|Ü (ϥ (ħ ["Yard"] "height")<|Â 0)<|Ü (Ñ<|ô é (Ñ<|pY (ϥ (ħ ["Yard"] "things")<|Â 0) jm<|mP<|í 2)<|Ñ<|pY (ϥ (ħ ["Yard"] "things")<|Â 0) (mP<|Ñ<|ô é (Â 2)<|Æ 1) jm)<|Ü (ϥ (ħ ["Yard"] "days")<|Â 0) Ö)))))
def cJ:MF:=Ď 2 3 jB
def lW:M Fl:=(ä (Ą 2<|uD ϖ (Â 1)<|É (mC<|.str " ") á)
 (ä (au (ϐ<|Ê ķ (Ê Þ (Â 2)<|Æ 0)<|mC<|.str "put")
 (ä (kQ 0 ["Desk"] "yard" (Ñ<|ß dN<|Ü (ϥ (ħ ["Desk"] "yard")<|Â 0)<|Ì 2 Ö))
 (Ā<|ņ<|mC<|.str "ok"))
 cL)
 (ä (au (ϐ<|Ê ķ (Ê Þ (Â 2)<|Æ 0)<|mC<|.str "take")
 (ä (kQ 0 ["Desk"] "yard" (Ñ<|ß cJ<|Ü (ϥ (ħ ["Desk"] "yard")<|Â 0)<|Ì 2 Ö))
 (Ā<|ņ<|mC<|.str "ok"))
 cL)
 (Ā<|ß fj<|Ü (ϥ (ħ ["Desk"] "yard")<|Â 0)<|Ì 2 Ö))))
def ń:MM:=jt 2 3 "Desk" lW
def qy:M Fl:=(ä (Ą 2<|uD ϖ (Â 1)<|É (mC<|.str " ") á)
 (ä (au (ϐ<|Ê ķ (Ê Þ (Â 2)<|Æ 0)<|mC<|.str "put")
 (ä dA
 (Ā<|ņ<|mC<|.str "ok"))
 cL)
 (ä (au (ϐ<|Ê ķ (Ê Þ (Â 2)<|Æ 0)<|mC<|.str "take")
 (ä dA
 (Ā<|ņ<|mC<|.str "ok"))
 cL)
 (Ā<|ß fj<|Ü (ϥ (ħ ["Desk"] "yard")<|Â 0)<|Ì 2 Ö))))
def ĭ:MF:=Ď 2 3 qy
def eX:M Fl:=(nr 4<|zf ax (mC<|.str "/")<|É (Ñ<|Ģ [0,8] 1 (aL aR<|É (a_ bP<|É (Â 10) á) á) (gN 2) Ę (Ñ<|eA "say" [("Desk",ĭ)] 0 (Ü (Ñ<|ô é (Ñ<|ô é (Ñ<|ô é (mC<|.str "dark ")<|Â 1)<|mC<|.str " ")<|a_ ba<|É (Â 2) á) Ö))) á)
def nQ:M Fl:=(ä (Ą 4<|ϧ á)
 (ä (d_ (ĸ 1) (gT 3<|ë (gN 8)<|ë (gN 9)<|ë (gN 10) Ş) eX)
 (ä (Ą 5<|ß cV<|Ü (zf ax (mC<|.str "\n")<|É (Ñ<|uD ϖ (Ñ<|eA "say" [("Desk",ĭ)] 0 (Ü (mC<|.str "show") Ö))<|É (mC<|.str "; ") á) á) Ö)
 (ä (Ą 6<|ß qr<|Ì 5 Ö)
 (ä (Ą 7<|Ģ [0,3] 3 (ĸ 1) (gT 3<|ë (gN 2)<|ë (gN 3)<|ë (gN 4) Ş) Ę (Ê Þ (Ñ<|uD ϖ (Ñ<|eA "say" [("Desk",ĭ)] 0 (Ü (Ñ<|ô é (Ñ<|ô é (Ñ<|ô é (mC<|.str "walk ")<|Â 2)<|mC<|.str " ")<|Â 1) Ö))<|É (mC<|.str " ") á)<|Æ 0))
 (Ā<|ņ<|Ϧ<|É (í 4)<|É (í 6)<|É (í 7) á))))))
def ũ:MF:=Ď 4 11 nQ
def WZ:M Fl:=(ä (au (ϐ<|Ê ķ (Ê Ĭ (Ê Þ (Â 3)<|Æ 0)<|Æ 5)<|Æ 0)
 (Ā<|ϧ<|É (mC<|.str "post")<|É (Ê Ϻ (Ê Ĭ (Ê Þ (Â 3)<|Æ 1)<|Ñ<|ô é (Â 1)<|Æ 2)<|Æ 1)<|É (Ê Ϻ (Ê Ĭ (Ê Þ (Â 3)<|Æ 2)<|Ñ<|ô é (Â 2)<|Æ 2)<|Æ 1)<|É (í 8) á)
 cL)
 (ä (au (ϐ<|Ê ķ (Ê Ĭ (Ê Þ (Â 3)<|Æ 0)<|Æ 5)<|Æ 1)
 (ä (Ą 10<|ņ<|Ê Þ (Ñ<|ϧ<|É (Ϧ<|É (í 6)<|É (í 5) á)<|É (Ϧ<|É (í 6)<|É (í 7) á)<|É (Ϧ<|É (í 4)<|É (í 7) á)<|É (Ϧ<|É (Ê Ϻ (Â 4)<|Æ 2)<|É (í 7) á) á)<|Ê Ĭ (Ê Þ (Â 3)<|Æ 7)<|Æ 4)
 (Ā<|ϧ<|É (mC<|.str "fence")<|É (í 4)<|É (í 5)<|É (Ê Þ (Â 10)<|Æ 0)<|É (Ê Þ (Â 10)<|Æ 1)<|É (í 8) á))
 cL)
 (ä (au (ϐ<|Ê ķ (Ê Ĭ (Ê Þ (Â 3)<|Æ 0)<|Æ 5)<|Æ 2)
 (Ā<|ϧ<|É (mC<|.str "sail")<|É (í 4)<|É (í 5)<|É (í 6)<|É (í 7)<|É (í 8) á)
 cL)
 (ä (au (ϐ<|Ê ķ (Ê Ĭ (Ê Þ (Â 3)<|Æ 0)<|Æ 5)<|Æ 3)
 (Ā<|ϧ<|É (mC<|.str "house")<|É (í 4)<|É (í 5)<|É (í 6)<|É (í 7)<|É (í 8) á)
 cL)
 (ä (Ą 9<|ņ<|Ê Ĝ (Ê Ĭ (Ê Þ (Â 3)<|Æ 10)<|Æ 7)<|Ê Ĭ (Ê Þ (Â 3)<|Æ 6)<|Æ 2)
 (Ā<|ϧ<|É (mC<|.str "cloth")<|É (í 4)<|É (í 5)<|É (Ê Ĭ (Ê Þ (Â 3)<|Æ 5)<|Æ 7)<|É (í 6)<|É (Ñ<|ô é (Ê Ϻ (Â 5)<|Æ 2)<|Ê Ĭ (Ê Þ (Â 3)<|Æ 7)<|Æ 5)<|É (Ê Ĭ (Ê Þ (Â 3)<|Æ 8)<|Æ 7)<|É (Ñ<|ô é (Ê Ϻ (Â 4)<|Æ 3)<|Ê Ĭ (Ê Þ (Â 3)<|Æ 9)<|Æ 7)<|É (í 7)<|É (í 9) á))))))
def qW:M Fl:=(ä (Ą 3<|ß ŷ<|Ì 0<|Ü (Æ 11) Ö)
 (ä (Ą 4<|ņ<|Ê Ϻ (Ê Ĭ (Ê Þ (Â 3)<|Æ 1)<|Ñ<|ô é (Ê Ĝ (Æ 2)<|Â 1)<|Æ 7)<|Æ 4)
 (ä (Ą 5<|ņ<|Ê Ϻ (Ê Ĭ (Ê Þ (Â 3)<|Æ 2)<|Ñ<|ô é (Ê Ĝ (Æ 2)<|Â 2)<|Æ 7)<|Æ 4)
 (ä (Ą 6<|ô é (Ñ<|ô é (Â 4)<|Æ 1)<|Ê Ĭ (Ê Þ (Â 3)<|Æ 3)<|Æ 5)
 (ä (Ą 7<|ô é (Ñ<|ô é (Â 5)<|Æ 1)<|Ê Ĭ (Ê Þ (Â 3)<|Æ 4)<|Æ 5)
 (ä (Ą 8<|ô é (Æ 1)<|Ê Ĭ (Ê Þ (Â 3)<|Æ 5)<|Æ 8)
 (ä (au (ϐ<|Ê ķ (Ê Ĭ (Ê Þ (Â 3)<|Æ 6)<|Æ 8)<|Æ 5)
 (Ą 8<|ņ<|Ê Ϻ (Ê zL (Æ 10)<|Æ 9)<|Ê Ĭ (Ê Þ (Â 3)<|Æ 5)<|Æ 1000)
 cL)
 WZ)))))))
def Ű:MF:=Ď 3 11 qW
def ů:M Fl:=(au (ϐ<|Ê rQ (Â 8)<|mC .non)
 (nr 4<|mC<|.str "night")
 (nr 4<|Ñ<|ß č<|Ü (Ñ<|ô é (Ñ<|ϧ<|É (mC<|.str "ray") á)<|Ñ<|uk jo<|É (Â 8) á) Ö))
def aW:M Fl:=(ä (nr 4<|Ñ<|ß č<|Ü (Ñ<|ϧ<|É (mC<|.str "day")<|É (í 5)<|É (í 6) á) Ö)
 (d_ (ĸ 7) (gN 8) ů))
def iV:M Fl:=(ä (Ą 4<|ô é (Ñ<|ϧ<|É (Ñ<|ß č<|Ü (Ñ<|ϧ<|É (mC<|.str "yard")<|É (í 0)<|É (í 1) á) Ö) á)<|Ñ<|Ģ [] 1 (ĸ 2) (gN 0) Ę (Ñ<|ß č<|Ì 0 Ö))
 (ä (d_ (ĸ 3) (gT 3<|ë (gN 5)<|ë (gN 6)<|ë (gN 7) Ş) aW)
 (Ā<|ņ<|zf ax (mC<|.str "\n")<|É (Â 4) á)))
def ϶:MF:=Ď 4 9 iV
def gR:M Fl:=(ä (Ą 2<|Ģ [] 1 (ĸ 0) (gN 0) (ji (ϐ<|Ê AB (Ê Þ (Â 0)<|Æ 0)<|Ñ<|ϧ<|É (mC<|.str "post")<|É (mC<|.str "fence")<|É (mC<|.str "house") á)<|ϐ<|Ê lC (Ê Þ (Â 0)<|ϥ ϳ<|Æ 1)<|Æ 1000) (í 0))
 (ä (au (ϐ<|Ê ķ (Â 2)<|Ñ<|ϧ á)
 (Ā<|ņ<|mC .non)
 cL)
 (ä (Ą 3<|ņ<|Ê Þ (Â 2)<|Ê Ĭ (Â 1)<|a_ bP<|É (Â 2) á)
 (Ā<|ô é (Ñ<|pY (Â 3) jm<|mP<|ϥ ϳ<|Æ 1)<|Ñ<|ϧ<|É (Ñ<|ô é (Ñ<|ô é (Ê Þ (Â 3)<|ϥ ϳ<|Æ 1)<|Æ 1)<|Ê Ĭ (Ê cT (Â 1)<|Æ 8)<|Æ 5) á))))
def Ź:MF:=Ď 2 4 gR
def Ž:M Fl:=(au (qI (ϐ<|Ê ϕ (Ê ķ (Â 2)<|mC<|.str "none")<|Ê ķ (Â 3)<|mC<|.str "none")<|ji (ϐ<|Ê ϕ (Â 2)<|mC<|.str "none")<|ϐ<|Ê Bf (a_ kR<|É (Â 3) á)<|a_ kR<|É (Â 2) á)
 (Ā<|ņ<|mC<|.bl Ε)
 cL)
def cP:M Fl:=(au (ϐ<|Ê Bf (Â 3)<|Â 2)
 (Ā<|ņ<|mC<|.bl Ε)
 cL)
def am:M Fl:=(au (qI (ϐ<|Ê ϕ (a_ bP<|É (Â 2) á)<|a_ bP<|É (Â 3) á)<|dU<|a_ IG<|É (Ñ<|Ģ [2,3] 1 (aL aR<|É (a_ bP<|É (Â 2) á) á) (gN 2) Ę (gf (Ê ķ (Ê Þ (Â 0)<|Â 2)<|mC<|.str "#")<|Ê ϕ (Ê Þ (Â 1)<|Â 2)<|mC<|.str "#")) á)
 (Ā<|ņ<|mC<|.bl Ε)
 cL)
def gU:M Fl:=(ä (d_ (Go (Ef<|Ê Þ (Â 0)<|Æ 0)<|Ef<|Ê Þ (Â 1)<|Æ 0) (gT 2<|ë (gN 2)<|ë (gN 3) Ş) am)
 (ä (d_ (Go (Ef<|Ê Þ (Â 0)<|Æ 1)<|Ef<|Ê Þ (Â 1)<|Æ 1) (gT 2<|ë (gN 2)<|ë (gN 3) Ş) cP)
 (ä (d_ (Go (Ef<|Ê Þ (Â 0)<|Æ 2)<|Ef<|Ê Þ (Â 1)<|Æ 2) (gT 2<|ë (gN 2)<|ë (gN 3) Ş) Ž)
 (Ā<|ņ<|mC<|.bl Δ))))
def Ϡ:MF:=Ď 2 4 gU
def kK:M Fl:=(ä (Ą 4<|ņ<|Ê Þ (Ê Þ (Â 0)<|Æ 0)<|Â 3)
 (ä (Ą 5<|ņ<|Ê Þ (Ê Þ (Â 1)<|Æ 0)<|Â 3)
 (ä (Ą 6<|ņ<|zf ax (mC<|.str "")<|É (Ñ<|Ģ [4,5] 1 (aL aR<|É (a_ bP<|É (Â 4) á) á) (gN 2) Ę (au (ϐ<|Ê AB (mC<|.str "#")<|Ñ<|ϧ<|É (Ê Þ (Â 0)<|Â 2)<|É (Ê Þ (Â 1)<|Â 2) á) (mC<|.str "#")<|Ê Þ (Â 0)<|Â 2)) á)
 (au (ϐ<|Ê ϕ (Ê Þ (Ê Þ (Â 2)<|Æ 0)<|Â 3)<|Â 6)
 (Ā<|ņ<|mC<|.bl Ε)
 cL))))
def qz:M Fl:=(ä (d_ (aL aR<|É (a_ bP<|É (Ê Þ (Â 2)<|Æ 0) á) á) (gN 3) kK)
 (Ā<|ņ<|mC<|.bl Δ))
def iW:MF:=Ď 3 7 qz
def rK:M Fl:=(ä (Ą 6<|ß ũ<|Ì 0<|Ì 3<|Ì 4<|Ì 5 Ö)
 (ä (Ą 7<|ß č<|Ü (Ñ<|ô é (Ñ<|ϧ<|É (mC<|.str "put") á)<|Â 2) Ö)
 (ä (au (qI (ϐ<|Ê ϕ (dE 0 "Desk" "say" ń (É (í 7) á))<|mC<|.str "ok")<|ϐ<|Ê ϕ (dE 1 "Desk" "say" ń (É (í 7) á))<|mC<|.str "ok")
 (Ā<|ņ<|mC<|.bl Ε)
 cL)
 (ä (Ą 8<|ß ũ<|Ì 0<|Ì 3<|Ì 4<|Ì 5 Ö)
 (ä (Ą 9<|ß ũ<|Ì 1<|Ì 3<|Ì 4<|Ì 5 Ö)
 (ä (au (ϐ<|Ê ϕ (dE 1 "Desk" "say" ń (É (mC<|.str "take 0") á))<|mC<|.str "ok")
 (Ā<|ņ<|mC<|.bl Ε)
 cL)
 (Ā<|ņ<|gf (Ñ<|ß Ϡ<|Ì 6<|Ì 8 Ö)<|Ñ<|ß iW<|Ì 6<|Ì 9<|Ì 8 Ö)))))))
def kL:MM:=jt 6 10 "Desk" rK
def lX:M Fl:=(ä (au (ϐ<|Ê ϕ (dE 0 "Desk" "say" ń (É (Ñ<|ß č<|Ü (Ñ<|ô é (Ñ<|ϧ<|É (mC<|.str "put") á)<|Â 1) Ö) á))<|mC<|.str "ok")
 (Ā<|ņ<|mC<|.bl Ε)
 cL)
 (ä (Ą 6<|ß ũ<|Ì 0<|Ì 3<|Ì 4<|Ì 5 Ö)
 (ä (au (qI (ϐ<|Ê ϕ (dE 0 "Desk" "say" ń (É (mC<|.str "take 0") á))<|mC<|.str "ok")<|ϐ<|Ê ϕ (dE 0 "Desk" "say" ń (É (Ñ<|ß č<|Ü (Ñ<|ô é (Ñ<|ϧ<|É (mC<|.str "put") á)<|Â 2) Ö) á))<|mC<|.str "ok")
 (Ā<|ņ<|mC<|.bl Ε)
 cL)
 (ä (Ą 7<|ß ũ<|Ì 0<|Ì 3<|Ì 4<|Ì 5 Ö)
 (Ā<|ņ<|gf (Ê ķ (dE 0 "Desk" "say" ń (É (mC<|.str "take 0") á))<|mC<|.str "ok")<|Ñ<|ß Ϡ<|Ì 6<|Ì 7 Ö)))))
def eY:MM:=jt 6 8 "Desk" lX
def BB:M Fl:=(au (ϐ<|Ê ϕ (dE 7 "Desk" "say" ń (É (Ñ<|ô é (mC<|.str "take ")<|a_ ba<|É (a_ bP<|É (Â 3) á) á) á))<|mC<|.str "ok")
 (Ā<|ņ<|mC<|.bl Ε)
 cL)
def W_:M Fl:=(ä (au (iH<|dU<|uJ 7 8 "Desk" kL (É (í 13)<|É (í 4)<|É (í 1)<|É (í 6) á))
 (Ā<|ņ<|mC<|.bl Ε)
 cL)
 (Ą 10<|ô é (Â 10)<|Æ 1))
def Of:M Fl:=(ä (au (ji (ϐ<|Ê ķ (Ê Ĭ (Â 2)<|Æ 3)<|Æ 1)<|ϐ<|Ê ng (Â 14)<|mC .non)
 (ä (Ą 13<|ņ<|í 14)
 (ä (Ą 15<|ņ<|Ê Þ (Ñ<|Ģ [14] 1 (ĸ 3) (gN 1) (ϐ<|Ê ķ (Ñ<|pY (Â 1) jm<|mP<|ϥ ϳ<|Æ 1)<|Ñ<|pY (Â 0) jm<|mP<|ϥ ϳ<|Æ 1) (í 1))<|Æ 0)
 (au (ji (ϐ<|Ê lC (Ê Þ (Â 15)<|ϥ ϳ<|Æ 1)<|Ê Þ (Â 14)<|ϥ ϳ<|Æ 1)<|iH<|dU<|i_ 8 "Desk" eY (É (í 15)<|É (í 14)<|É (í 4)<|É (í 1)<|É (í 6) á))
 (Ā<|ņ<|mC<|.bl Ε)
 cL)))
 cL)
 W_)
def qX:M Fl:=(ä (Ą 2<|ņ<|a_ Bg<|É (Â 11) á)
 (ä (Ą 13<|ß Ű<|Ü (Ê cT (Â 2)<|Æ 3)<|Ü (Ê Þ (Â 1)<|Æ 0)<|Ü (Ê Þ (Â 1)<|Æ 1) Ö)
 (ä (Ą 14<|ß Ź<|Ì 3<|Ü (Ê cT (Â 2)<|Æ 3) Ö)
 Of)))
def yX:M Fl:=(ä (Ą 1<|ņ<|Ϧ<|É (Ñ<|ô é (Æ 1)<|Ê Ĭ (Ñ<|ß Ľ<|Ì 0<|Ü (Æ 0) Ö)<|Æ 3)<|É (Ñ<|ô é (Æ 1)<|Ê Ĭ (Ê cT (Ñ<|ß Ľ<|Ì 0<|Ü (Æ 0) Ö)<|Æ 4)<|Æ 3) á)
 (ä (Ą 2<|ß Ľ<|Ì 0<|Ü (Æ 1) Ö)
 (ä (Ą 3<|Ģ [2,1,0] 1 (aL aR<|É (Ê Ĭ (Â 2)<|Æ 4) á) (gN 3) Ę (Ñ<|ß Ű<|Ü (Ñ<|ô é (Ñ<|ß Ľ<|Ì 2<|Ü (Ñ<|ô é (Æ 2)<|Â 3) Ö)<|Â 0)<|Ü (Ê Þ (Â 1)<|Æ 0)<|Ü (Ê Þ (Â 1)<|Æ 1) Ö))
 (ä (Ą 4<|ß bh<|Ì 0 Ö)
 (ä (Ą 5<|ß Ľ<|Ì 0<|Ü (Æ 11) Ö)
 (ä (Ą 6<|ß č<|Ü (Ñ<|ϧ<|É (Ê Ĭ (Â 5)<|Ê Þ (Â 1)<|Æ 0)<|É (Ê Ĭ (Ê cT (Â 5)<|Æ 4)<|Ê Þ (Â 1)<|Æ 1)<|É (Ê Ĭ (Ê cT (Â 5)<|Æ 16)<|Ê Þ (Â 1)<|Æ 0)<|É (Ê Ĭ (Ê cT (Â 5)<|Æ 64)<|Ê Þ (Â 1)<|Æ 1) á) Ö)
 (qT 7 "Desk" ql (Ü (Ñ<|ß ϶<|Ü (Ê Þ (Â 1)<|Æ 0)<|Ü (Ê Þ (Â 1)<|Æ 1)<|Ì 3<|Ì 4 Ö) Ö)
 (qT 8 "Desk" ql (Ü (Ñ<|ß ϶<|Ü (Ê Þ (Â 1)<|Æ 0)<|Ü (Ê Þ (Â 1)<|Æ 1)<|Ü (Ñ<|ϧ á)<|Ì 4 Ö) Ö)
 (ä (Ą 9<|ß ũ<|Ì 7<|Ì 4<|Ì 1<|Ì 6 Ö)
 (ä (Ą 10<|ņ<|Æ 0)
 (ä (d_ (ϔ<|Ñ<|pY (Â 0) (mP<|Æ 12)<|mP<|Æ 14) (gN 11) qX)
 (ä (d_ (aL aR<|É (í 10) á) (gN 12) BB)
 (Ā<|ņ<|Ê ķ (Ñ<|ß ũ<|Ì 7<|Ì 4<|Ì 1<|Ì 6 Ö)<|Â 9)))))))))))))
def Ar:MF:=Ď 1 16 yX
abbrev Df(V:VE)(i:Nat)(x:String)(a:MF)(k:Nat):Prop:=Dn V x (top i) (Bz<|top i) a k
abbrev Dv(V:VE)(i:Nat)(x:String)(a:MW)(k:Nat):Prop:=Dw V x (top i) (Bz<|top i) a k
section
seal PE PT PW PA PS b_ PG Ay PI CP
def okL{V:VE}{fa:À}(_:Gz V.mg "abs")(_:Gz V.mg "all")(_:Gz V.mg "any")(_:Gz V.mg "divmod")(_:Gz V.mg "enumerate")(_:Gz V.mg "int")(_:Gz V.mg "len")(_:Gz V.mg "list")(_:Gz V.mg "max")(_:Gz V.mg "min")(_:Gz V.mg "range")(_:Gz V.mg "reversed")(_:Gz V.mg "str")(_:Gz V.mg "tuple")(_:Gz V.mg "zip")(_:Gc V "Yard")(_:Gc V "Thing")(_:Gc V "Post")(_:Gc V "Fence")(_:Gc V "Sail")(_:Gc V "Cloth")(_:Gc V "House")(_:Gc V "Desk")(_:Gc V "ROWS")(_:Gc V "answer_who")(_:Gc V "answer_lit")(_:Gc V "answer_hours")(_:Gc V "answer_first")(_:Gc V "answer_dial")(_:Gs V.mg "FIGURES" "0123456789")(_:Gs V.mg "LETTERS" "abcdefghijklmnopqrstuvwxyz")(_:Gi V.mg "MOST_DAYS" (12))(_:Gi V.mg "MOST_FIGURES" (10))(_:Gi V.mg "MOST_HEIGHT" (1000000000))(_:Gi V.mg "MOST_LETTERS" (8))(_:Gi V.mg "MOST_PLACE" (1000000000))(_:Gi V.mg "MOST_RAY" (1000000))(_:Gi V.mg "MOST_SIDE" (20))(_:Gi V.mg "MOST_THINGS" (40))(_:Gi V.mg "MOST_TIMES" (1000000000))(_:Gi V.mg "MOST_TURNS" (24))(_:Gt V "STEPS" ((.tup [.tup [.int<|-1,.int 0],.tup [.int 1,.int 0],.tup [.int 0,.int<|-1],.tup [.int 0,.int 1],.tup [.int 0,.int 0]])))(_:Gc V "answer_show")(_:Gc V "answer_dark")(_:Gc V "answer_walk")(_:Kc V "Yard")(_:Na V "Yard" "width")(_:Na V "Yard" "height")(_:Na V "Yard" "things")(_:Na V "Yard" "days")(_:Kc V "Thing")(_:Na V "Thing" "word")(_:Na V "Thing" "numbers")(_:Kc V "Post")(_:Na V "Post" "word")(_:Na V "Post" "numbers")(_:Kc V "Fence")(_:Na V "Fence" "word")(_:Na V "Fence" "numbers")(_:Kc V "Sail")(_:Na V "Sail" "word")(_:Na V "Sail" "numbers")(_:Kc V "Cloth")(_:Na V "Cloth" "word")(_:Na V "Cloth" "numbers")(_:Kc V "House")(_:Na V "House" "word")(_:Na V "House" "numbers")(_:Kc V "Desk")(_:Na V "Desk" "yard")(_:yP V.K V.cm V.w.params (V.cm "ROWS") ZQ)(_:V.mg "law"=Α (.ref fa))(d0:Df V 148 "_law_part" Ľ 0)
 (d1:Dn V "_law_spread" (top 149) ["_law_number","_law_many","_law_found","_law_rest","_law_k","_law_turn","_law_digits","_law_upper","_law_lower"] ŷ 0)
 (d2:Df V 151 "_law_ray_by" ϣ 1)
 (d3:Df V 160 "_law_days_by" bh 2)
 (d4:Df V 152 "_law_joined" č 0)
 (d5:Df V 109 "is_made_of" aj 0)
 (d6:Df V 110 "is_number" Ϟ 1)
 (d7:Df V 112 "numbers_of" dG 2)
 (d8:Df V 114 "numbers_in" ak 3)
 (d9:Df V 115 "read_size" iM 4)
 (d10:Df V 119 "lacks_turns" Ÿ 0)
 (d11:Di V "Yard" "Yard.__init__" (ϡ (top 55) 0) gp 0)
 (d12:Df V 33 "is_ray" qh 0)
 (d13:Df V 118 "read_turn" fb 4)
 (d14:Dv V 122 "take_turn" iN 5)
 (d15:Df V 111 "is_name" nj 1)
 (d16:Df V 117 "read_day" kC 4)
 (d17:Dv V 121 "take_day" kD 5)
 (d18:Df V 70 "is_place" bi 0)
 (d19:Df V 71 "is_height" fc 0)
 (d20:Df V 73 "makes_post" gu 1)
 (W0:Di V "Thing" "Thing.__init__" (ϡ (top 80) 0) G5 0)
 (d22:Di V "Post" "Thing.__init__" (ϡ (top 80) 0) yS 0)
 (d23:Di V "Fence" "Thing.__init__" (ϡ (top 80) 0) uR 0)
 (d24:Di V "Sail" "Thing.__init__" (ϡ (top 80) 0) yU 0)
 (d25:Di V "Cloth" "Thing.__init__" (ϡ (top 80) 0) uS 0)
 (d26:Di V "House" "Thing.__init__" (ϡ (top 80) 0) uT 0)
 (d27:Df V 74 "has_two_ends" bj 1)
 (d28:Df V 75 "makes_fence" eS 2)
 (d29:Df V 76 "makes_sail_or_house" Ř 2)
 (d30:Df V 72 "is_cloth_corner" aU 1)
 (S0:Df V 77 "makes_cloth" eU 2)
 (W3:Df V 86 "thing_of" Ϥ 3)
 (d33:Df V 116 "read_thing" gv 4)
 (d34:Dv V 120 "take_thing" gw 5)
 (d35:Dv V 123 "take_row" į 6)
 (d36:Df V 124 "read_yard" cV 7)
 (d37:Di V "Desk" "Desk.__init__" (ϡ (top 146) 0) ql 8)
 (d38:Df V 14 "box_lines" iP 0)
 (d39:Df V 16 "each_once" iQ 0)
 (d40:Df V 15 "line_through" dJ 0)
 (W4:Df V 13 "holds" nk 0)
 (W5:Df V 17 "edge_lines" gx 1)
 (W6:Df V 18 "lines_about" eW 2)
 (d44:Df V 34 "cast" qU 0)
 (d45:Df V 78 "level_corners" ϗ 0)
 (d46:Df V 79 "block_corners" az 1)
 (d47:Dh V "Post" "corners" "Post.corners" (ϡ (top 81) 0) bo 2)
 (d48:Dh V "Fence" "corners" "Fence.corners" (ϡ (top 82) 0) aA 0)
 (d49:Dh V "Sail" "corners" "Sail.corners" (ϡ (top 83) 0) bp 1)
 (d50:Dh V "Cloth" "corners" "Cloth.corners" (ϡ (top 84) 0) aB 0)
 (W7:Dh V "House" "corners" "House.corners" (ϡ (top 85) 0) aC 2)
 (W8:Df V 37 "corner_casts" bq 3)
 (W9:Df V 41 "span_bits" cW 0)
 (Xa:Df V 42 "row_bits" gO 1)
 (d55:Df V 43 "dark_of" gC 4)
 (d56:Df V 44 "darks_of_things" aV 5)
 (d57:Df V 45 "dark" ja 6)
 (d58:Df V 65 "lit_set" nn 7)
 (d59:Df V 66 "hours" qr 8)
 (d60:Df V 142 "numbers_behind" Ī 3)
 (d61:Dh V "Thing" "shown" "Thing.shown" (ϡ (top 80) 1) ó 0)
 (d62:Dj V "shown" "Thing" "Post")
 (d63:Dj V "shown" "Thing" "Fence")
 (d64:Dj V "shown" "Thing" "Sail")
 (d65:Dj V "shown" "Thing" "Cloth")
 (d66:Dj V "shown" "Thing" "House")
 (d67:Df V 125 "show_turn" br 0)
 (d68:Df V 126 "show_yard" ff 1)
 (d69:Df V 131 "answer_show" cB 2)
 (d70:Df V 58 "has_day" eC 0)
 (d71:Df V 57 "turns_of" eD 0)
 (d72:Df V 61 "check_turn" gA 1)
 (d73:Df V 132 "answer_dark" cC 7)
 (d74:Df V 56 "has_stone" ő 0)
 (d75:Df V 59 "check_stone" cD 1)
 (d76:Df V 60 "check_day" iS 1)
 (d77:Df V 31 "number_of" ϻ 0)
 (d78:Df V 32 "stone_at" eE 0)
 (d79:Df V 97 "numbers_beside" bV 1)
 (d80:Dl V "best_step" (top 98) bu 4)
 (d81:Df V 99 "cost_behind" aG 5)
 (d82:Df V 100 "costs_at" kI 7)
 (d83:Df V 101 "paper_of" kJ 8)
 (d84:Df V 102 "walked" lV 5)
 (d85:Df V 103 "shady_walk" dM 9)
 (d86:Df V 130 "pair_text" fi 0)
 (d87:Df V 138 "answer_walk" aH 10)
 (d88:Df V 128 "name_of" nq 0)
 (d89:Df V 129 "day_called" bW 1)
 (d90:Df V 143 "answer" fj 11)
 (d91:Df V 144 "with_thing" dN 4)
 (d92:Df V 145 "without_thing" cJ 4)
 (d93:Dq V "Desk" "say" "Desk.say" (ϡ (top 146) 1) ń 12)
 (d94:Dh V "Desk" "say" "Desk.say" (ϡ (top 146) 1) ĭ 12)
 (d95:Dn V "_law_asked" (top 154) ["_law_desk","_law_days","_law_size","_law_ends","_law_pictures","_law_yard","_law_hours_told","_law_costs","_law_name","_law_often","_law_turns"] ũ 13)
 (d96:Dn V "_law_thing_by" (top 150) ["_law_number","_law_width","_law_height","_law_xs","_law_x","_law_y","_law_u","_law_v","_law_h","_law_high","_law_end"] Ű 1)
 (d97:Df V 153 "_law_yard_text" ϶ 1)
 (d98:Dn V "_law_higher" (top 157) ["_law_things","_law_number","_law_grounded","_law_words"] Ź 0)
 (d99:Df V 155 "_law_no_lighter" Ϡ 0)
 (Xb:Df V 156 "_law_laid" iW 0)
 (Xc:Dt V "_law_put" (top 158) kL 14)
 (Xd:Dt V "_law_raised" (top 159) eY 14)
 (Xe:Dn V "law" (top 161) ["_law_script","_law_size","_law_number","_law_things","_law_days","_law_place","_law_ends","_law_desk","_law_bare","_law_first","_law_added","_law_cell","_law_k","_law_words","_law_high","_law_low"] Ar 15):
 QB V fa "_law_script" 16 Ar:=by
 refine aT d0 rfl (λS x hr hu=>Ø (av Ķ rfl (e_<|ò<|Ũ (Ã 0) (Œ<|v_var 1)<|Œ<|v_add (Ã 1) Ë) (ϩ S)<|ĩ<|ϓ yi yz gz sM<|Ý (Ã 2) ê)<|ĩ ī) λx=>?_;refine aT d1 rfl (λS x hr hu=>ĕ S (Ŏ î)<|ĕ S (ϱ<|wl (Ã 0) Ë)<|Ø (av Ķ rfl (ū rfl gz<|Í (v_mul (Ã 1)<|Gx Ë<|ş (Ã 0) Ë) î) (ϩ S)<|Ø (J0 (ϓ vU vV gz Ca<|Ý (Ã 3)<|Ý (å<|fF FV Fp Ë Ë) ê)<|Kb rfl<|ě (ϩ S)<|ě (ϩ S) dB)<|ø<|PS.wk (Ŧ<|cQ ώ Ϙ ϭ Ņ (pv 2)<|Í (v_var 6) î) λx x x h=>bN h)<|ĕ S (lH (ş (Ã 3) Ë) Ë)<|Ø (C3 Ķ (Ϝ iJ iF (å<|ϓ ō Ś gz İ<|Ý (Ã 2) ê) (Ã 1)<|Ġ _)<|Ø (av Ķ rfl (ū rfl gz<|Í ī î) (ϩ S)<|Ø (J0 (ϓ vU vV gz Ca<|Ý (Ã 3)<|Ý Ë ê)<|Kb rfl<|ě (ϩ S)<|ě (ϩ S) dB)<|ø<|El S<|ϱ<|v_mod (cj (cj (cj (cz (Ã 8) Ë)<|cz (Ã 7) Ë)<|cz Ë<|å<|ϓ ō Ś gz İ<|Ý (Ã 2) ê) Ë) Ë)<|ø<|PS.wk (Ŧ<|cQ ώ Ϙ ϭ Ņ (pv 2)<|Í (wl (Ã 3) Ë) î) λx x x h=>bN h)<|ļ<|jh 2) λx=>?_;refine aT d2 rfl (λS x hr hu=>ĕ S (ÿ hr<|Ó 0<|Õ ī Ò)<|Ø (Ŗ (dP hu (ş (ċ (Ã 1) Ë) Ë) Ë) (ĩ pO) Ă)<|Ø (Ŗ (dP hu (ş (ċ (Ã 1) Ë) Ë) Ë) (ĩ<|ŝ<|Í (v_sub (ş (ċ (Ã 1) Ë) Ë) Ë)<|Í (v_sub (ş (ċ (Ã 1) Ë) Ë) Ë)<|Í (v_add Ë<|ş (ċ (Ã 1) Ë) Ë) î) Ă)<|ĩ<|ŝ<|Í (v_sub (ş (ċ (Ã 1) Ë) Ë) Ë)<|Í (v_sub (ş (ċ (Ã 1) Ë) Ë) Ë)<|Í (v_add Ë<|ş (ċ (Ã 1) Ë) Ë) î) λx=>?_;refine aT d3 rfl (λS x hr hu=>ĕ S (ÿ hr<|Ó 0<|Õ ī Ò)<|ĕ S (Ŏ î)<|Ø (av Ķ rfl (ū rfl gz<|Í (v_add Ë<|ş (nE (Ã 1) Ë) Ë) î) (ϩ S)<|Ø (rT S (ū rfl gz<|Í (v_add Ë<|ş (nE (Ã 1) Ë) Ë) î) ϒ Ħ<|ò<|ÿ hr<|Õ (v_add (å<|ò<|ÿ hr<|Ó 0<|Õ (v_add (cj Ë<|cz Ë<|Ã 2)<|Ã 3) Ò)<|nE (Ã 1) Ë) Ò)<|ø<|PS.wk (Ŧ<|cQ ώ Ϙ ϭ Ņ (pv 2)<|Í (ŝ<|Í (Ĥ (å<|ò<|Ŏ<|Í Ŋ<|Í Ŋ î)<|Ã 3)<|Í (v_add Ë<|ş (Ã 1) Ë)<|Í (v_var 4) î) î) λx x x h=>bN h)<|ļ<|jh 2) λx=>?_;refine aT d4 rfl (λS x hr hu=>ĩ<|oi ŕ bF bG bQ bL ğ<|Ý (å<|ò<|dX (ř 0) ϒ Ħ<|qb gj gk gz fQ<|Ý (Ã 0) ê) ê) λx=>?_;refine aT d5 rfl (λS x hr hu=>ĩ<|v_and (pP cb cb ca ca Ë (å<|ϓ ō Ś gz İ<|Ý (Ã 0) ê)<|Ã 2)<|iI<|ϓ (qH rfl) qM gz mH<|Ý (å<|ò<|dX (ř 0) ϒ Ħ<|ny uF (uE hu) (Ã 1) (Ã 0)<|by with_unfolding_all rfl) ê) λx=>?_;refine aT d6 rfl (λS x hr hu=>ĕ S (FM (cR<|å<|oi ŕ Cs Ct wc vQ (Ã 0)<|Ý ğ ê) (Ũ (Ã 0) (Œ ī) dC)<|ϱ<|v_var 0)<|Ø (Ŗ (nA<|cR<|å<|ò<|ÿ hr<|Ó 1<|Õ Qz<|Õ oq Ò) (ĩ pN) Ă)<|ĩ<|v_or (v_eq hu (Ã 0) ğ)<|iI<|v_not<|oi ŕ Cs Ct wc vQ (Ã 1)<|Ý ğ ê) λx=>?_;refine aT d7 rfl (λS x hr hu=>Ø (Ŗ (cR<|å<|ϓ (qH rfl) qM gz mH<|Ý (å<|ò<|dX (ř 0) ϒ Ħ<|ò<|ÿ hr<|Ó 0 Ò) ê) (ļ<|dX (ř 0) ϒ Ħ<|qb yN yO gz xj<|Ý (Ã 0) ê) Ă)<|ĩ pO) λx=>?_;refine aT d8 rfl (λS x hr hu=>ĕ S (ÿ hr<|Ó 0 Ò)<|Ø (Ŗ (Ϝ rk lq (Ã 2) nD<|Ġ _) (ø Ļ) Ă)<|ļ<|jh 2) λx=>?_;refine aT d9 rfl (λS x hr hu=>Ø (Ŗ (PW.pt<|w_or (qP hu (ċ (Ã 0) Ë) ğ)<|pQ<|qP hu (å<|ϓ ō Ś gz İ<|Ý (Ã 0) ê) Ë) (ø Ļ) Ă)<|ĕ S (ÿ hr<|Õ (ò<|Ũ (Ã 0) (Œ ī) dC)<|Ó 1 Ò)<|Ø (Ŗ (nA<|cR<|å<|ϓ (qH rfl) qM gz mH<|Ý (å<|ò<|dX (ř 2) ϒ Ħ<|pP cb cb ca ca Ë (Ã 0)<|å oq) ê) (ø Ļ) Ă)<|ļ<|jh 2) λx=>?_;refine aT d10 rfl (λS x hr hu=>ĩ<|v_and (ny zN zD (å<|yJ 0 gz<|pv 0) Ë<|Ġ _)<|iI<|v_eq hu (å<|GP 0 gz<|MY<|pv 0) Ë) λx=>?_;refine stI d11 rfl (λS x hr hu=>Ø (kz (pv 0)<|v_var 1)<|Ø (kz (pv 0)<|v_var 2)<|Ø (kz (pv 0)<|ò<|vt eP eQ gz eK<|Ý (Ã 3) ê)<|ø<|kz (pv 0)<|ò<|Wm (Jf 4) (Dx ["name","times","turns"] [] 3 (è<|ϡ (top 55) 0) rfl rfl (P7 4) (λx x x x x=>P8 (i:=0) (j:=1) (k:=2) rfl (show(["name","times","turns"]:List Str).Nodup by decide+kernel) rfl rfl rfl (ac rfl) (ac rfl) (ac rfl) (fx:=jO rfl) (fy:=jO rfl) (fz:=jO rfl)) (λx x x x x=>Ħ) (λx x x x x=>ŝ<|Í (v_var 0)<|Í (v_var 1)<|Í (ò<|vt eP eQ gz eK<|Ý (Ã 2) ê) î) trivial)<|dX (ř 4) (kP rfl<|ě ϒ<|ě ϒ<|ě ϒ dB) Ħ<|ŝ<|Í (v_var 0)<|Í (v_var 1)<|Í (ò<|vt eP eQ gz eK<|Ý (Ã 2) ê) î) λx=>?_;refine aT d12 rfl (λS x hr hu=>ĩ<|v_and (ny cb ca (å<|ϓ yi yz gz sM<|Ý (ċ (Ã 0) Ë) ê) (å oq)<|Ġ _)<|v_and (ny cb ca (å<|ϓ yi yz gz sM<|Ý (ċ (Ã 0) Ë) ê) (å oq)<|Ġ _)<|iI<|pP cb cb ca ca Ë (ċ (Ã 0) Ë)<|å oq) λx=>?_;refine aT d13 rfl (λS x hr hu=>Ø (Ŗ (dP hu (Ã 0)<|å<|ò<|Ŏ<|Í Ŋ î) (ĩ pO) Ă)<|Ø (Ŗ (PW.pt<|w_or (qP hu (ċ (Ã 0) Ë) ğ)<|pQ<|qP hu (å<|ϓ ō Ś gz İ<|Ý (Ã 0) ê) Ë) (ø Ļ) Ă)<|ĕ S (ϱ<|qb zQ zR gz Cb<|Ý (å<|ò<|ÿ hr<|Õ (ò<|Ũ (Ã 0) (Œ ī) dC)<|Ó 1 Ò) ê)<|Ø (Ŗ (nA<|cR<|å<|ò<|ÿ hr<|Ó 2 Ò) (ø Ļ) Ă)<|ļ<|jh 2) λx=>?_;refine Ta d14 rfl (λS x hr hu=>tQ (PW.pt<|w_or (dP hu (å<|yJ 2 gz<|pv 2) Ë)<|pQ<|dP hu (å<|GP 2 gz<|MY<|pv 2)<|å oq) (ø Ļ)<|MX (MY<|pv 2)<|ò<|ÿ hr<|Ó 0<|Ó 1 Ò) λx=>?_;refine aT d15 rfl (λS x hr hu=>ļ<|ÿ hr<|Ó 0<|Õ Qz<|Õ oq Ò) λx=>?_;refine aT d16 rfl (λS x hr hu=>Ø (Ŗ (PW.pt<|w_or (qP hu (å<|ϓ ō Ś gz İ<|Ý (Ã 0) ê) Ë)<|pQ<|nA<|cR<|å<|ò<|ÿ hr<|Õ (Ĥ (Ã 0) Ë) Ò) (ø Ļ) Ă)<|ĕ S (ϱ<|Ĥ (å<|ò<|ÿ hr<|Õ (ò<|Ũ (Ã 0) (Œ ī) dC)<|Ó 1 Ò) Ë)<|Ø (Ŗ (nA<|FL cb cb ca ca Ë (Ã 2)<|å oq) (ø Ļ) Ă)<|ļ<|MG<|Dr (Ĥ (Ã 0) Ë)<|Dr (v_var 2)<|ME<|Ŏ î) λx=>?_;refine Ta d17 rfl (λS x hr hu=>tQ (PW.pt<|w_or (cR<|å<|ò<|ÿ hr<|Ó 2 Ò)<|pQ<|dP hu (å<|yJ 2 gz<|pv 2)<|å oq) (ø Ļ)<|Qc (i:=3) S.nd rfl (ac rfl) (ÿ hr<|Ó 0<|Ó 1 Ò)<|tQ (MC 3<|Ϝ uF (uE hu) (ċ (Ã 3) Ë) (å<|ò<|Dx ["name","times","turns"] [] 3 (è<|top 121) rfl rfl (P7 2) (λx x x x x=>P8 (i:=0) (j:=1) (k:=2) rfl (show(["name","times","turns"]:List Str).Nodup by decide+kernel) rfl rfl rfl (ac rfl) (ac rfl) (ac rfl) (fx:=jO rfl) (fy:=jO rfl) (fz:=jO rfl)) (λx x x x x=>Ħ) (λx x x x x=>v_var 0) trivial)<|by with_unfolding_all rfl) (ø Ļ)<|MV (pv 2)<|pv 3) λx=>?_;refine aT d18 rfl (λS x hr hu=>ĩ<|pP cb cb ca ca (å<|lx cr cn<|å oq) (Ã 0)<|å oq) λx=>?_;refine aT d19 rfl (λS x hr hu=>ĩ<|pP cb cb ca ca Ë (Ã 0)<|å oq) λx=>?_;refine aT d20 rfl (λS x hr hu=>ĩ<|v_and (v_eq hu (å<|ϓ ō Ś gz İ<|Ý (Ã 0) ê) Ë)<|v_and (ò<|ÿ hr<|Õ (Ĥ (Ã 0) Ë) Ò)<|v_and (ò<|ÿ hr<|Õ (Ĥ (Ã 0) Ë) Ò)<|iI<|ò<|ÿ hr<|Õ (Ĥ (Ã 0) Ë) Ò) λx=>?_;refine stI W0 rfl (λS x hr hu=>Ø (kz (pv 0)<|v_var 1)<|ø<|kz (pv 0)<|ò<|vt eP eQ gz eK<|Ý (Ã 2) ê) λx=>?_;refine stI d22 rfl (λS x hr hu=>Ø (kz (pv 0)<|v_var 1)<|ø<|kz (pv 0)<|ò<|vt eP eQ gz eK<|Ý (Ã 2) ê) λx=>?_;refine stI d23 rfl (λS x hr hu=>Ø (kz (pv 0)<|v_var 1)<|ø<|kz (pv 0)<|ò<|vt eP eQ gz eK<|Ý (Ã 2) ê) λx=>?_;refine stI d24 rfl (λS x hr hu=>Ø (kz (pv 0)<|v_var 1)<|ø<|kz (pv 0)<|ò<|vt eP eQ gz eK<|Ý (Ã 2) ê) λx=>?_;refine stI d25 rfl (λS x hr hu=>Ø (kz (pv 0)<|v_var 1)<|ø<|kz (pv 0)<|ò<|vt eP eQ gz eK<|Ý (Ã 2) ê) λx=>?_;refine stI d26 rfl (λS x hr hu=>Ø (kz (pv 0)<|v_var 1)<|ø<|kz (pv 0)<|ò<|vt eP eQ gz eK<|Ý (Ã 2) ê) λx=>?_;refine aT d27 rfl (λS x hr hu=>ĩ<|v_and (v_eq hu (å<|ϓ ō Ś gz İ<|Ý (Ã 0) ê) Ë)<|v_and (ϓ (qH rfl) qM gz mH<|Ý (å<|ò<|dX (e_<|ò<|Ũ (Ã 0) dC<|Œ ī) ϒ Ħ<|ò<|ÿ hr<|Ó 0 Ò) ê)<|iI<|ò<|ÿ hr<|Õ (Ĥ (Ã 0) Ë) Ò) λx=>?_;refine aT d28 rfl (λS x hr hu=>ĩ<|v_and (ò<|ÿ hr<|Ó 0 Ò)<|iI<|ny nB (iY hu) (å<|ò<|Ũ (Ã 0) dC<|Œ ī) (å<|ò<|Ũ (Ã 0) (Œ ī)<|Œ ī)<|Ġ _) λx=>?_;refine aT d29 rfl (λS x hr hu=>ĩ<|v_and (ò<|ÿ hr<|Ó 0 Ò)<|v_and (ny iJ iF (ċ (Ã 0) Ë) (ċ (Ã 0) Ë)<|Ġ _)<|iI<|ny iJ iF (ċ (Ã 0) Ë) (ċ (Ã 0) Ë)<|Ġ _) λx=>?_;refine aT d30 rfl (λS x hr hu=>ĩ<|v_and (ò<|ÿ hr<|Õ (Ĥ (Ã 0) Ë) Ò)<|v_and (ò<|ÿ hr<|Õ (Ĥ (Ã 0) Ë) Ò)<|iI<|pP cb cb ca ca Ë (ċ (Ã 0) Ë)<|å oq) λx=>?_;refine aT S0 rfl (λS x hr hu=>ĩ<|v_and (v_eq hu (å<|ϓ ō Ś gz İ<|Ý (Ã 0) ê) Ë)<|iI<|ϓ (qH rfl) qM gz mH<|Ý (å<|ò<|dX (e_<|ŝ<|Í ī<|Í ī<|Í ī î) ϒ Ħ<|ò<|ÿ hr<|Õ (ò<|Ũ (Ã 0) (Œ<|v_var 1)<|Œ<|v_add (Ã 1) Ë) Ò) ê) λx=>?_;refine aT W3 rfl (λS x hr hu=>Ø (Ŗ (PW.pt<|w_and (dP hu (Ã 0) ğ)<|kq<|cR<|å<|ò<|ÿ hr<|Ó 1 Ò) (ĩ<|Am hr<|Ó 0<|Ó 1 Ò) Ă)<|Ø (Ŗ (PW.pt<|w_and (dP hu (Ã 0) ğ)<|kq<|cR<|å<|ò<|ÿ hr<|Ó 1 Ò) (ĩ<|Am hr<|Ó 0<|Ó 1 Ò) Ă)<|Ø (Ŗ (PW.pt<|w_and (dP hu (Ã 0) ğ)<|kq<|cR<|å<|ò<|ÿ hr<|Ó 1 Ò) (ĩ<|Am hr<|Ó 0<|Ó 1 Ò) Ă)<|Ø (Ŗ (PW.pt<|w_and (dP hu (Ã 0) ğ)<|kq<|cR<|å<|ò<|ÿ hr<|Ó 1 Ò) (ĩ<|Am hr<|Ó 0<|Ó 1 Ò) Ă)<|Ø (Ŗ (PW.pt<|w_and (dP hu (Ã 0) ğ)<|kq<|cR<|å<|ò<|ÿ hr<|Ó 1 Ò) (ĩ<|Am hr<|Ó 0<|Ó 1 Ò) Ă)<|ø Ļ) λx=>?_;refine aT d33 rfl (λS x hr hu=>ĕ S (ÿ hr<|Õ (ò<|Ũ (Ã 0) (Œ ī) dC)<|Ó 1 Ò)<|ø<|Nd<|λx x x=>ļ<|ÿ hr<|Õ (Ĥ (Ã 0) Ë)<|Ó 2 Ò) λx=>?_;refine Ta d34 rfl (λS x hr hu=>tQ (PW.pt<|w_or (Ϝ zN zD (å<|yJ 3 gz<|pv 3) Ë<|Ġ _)<|pQ<|dP hu (å<|ϓ ō Ś gz İ<|Ý (Ã 2) ê)<|å oq) (ø Ļ)<|MU (pv 2)<|ò<|ÿ hr<|Ó 0<|Ó 1 Ò) λx=>?_;refine Ta d35 rfl (λS x hr hu=>Qb (Ϝ uF (uE hu) (ċ (Ã 0) Ë) (å<|ŝ<|Í Ŋ<|Í Ŋ î)<|by with_unfolding_all rfl) (Nt hr<|aS 0 (pv 0)<|aS 1 (pv 1)<|aS 3 (pv 3) yI)<|Qb (dP hu (ċ (Ã 0) Ë) ğ) (Nt hr<|aS 0 (pv 0)<|aS 1 (pv 1)<|aS 3 (pv 3) yI)<|Nt hr<|aS 0 (pv 0)<|aS 1 (pv 1)<|aS 2 (pv 2)<|aS 3 (pv 3) yI) λx=>?_;refine aT d36 rfl (λS x hr hu=>Ø (rT S (e_<|ò<|Er ŕ fY mR jr jq (Ã 0)<|Ý ğ ê) ϒ Ħ<|ò<|Er ŕ fY mR jr jq (Ã 0)<|Ý ğ ê)<|ĕ S (ÿ hr<|Õ (Ĥ (Ã 1) Ë)<|Õ ī Ò)<|Wo (ub S.nd (i:=3) rfl (ac rfl)<|AV aZ) (ub S.nd (i:=4) rfl (ac rfl)<|AV aZ) Ķ rfl (Jj rfl gz<|Bm<|ò<|Ũ (Ã 1) (Œ ī) dC) (xX rfl (jd (mW S.nd (i:=5) rfl<|ac rfl) (jd (mW S.nd (i:=6) rfl<|ac rfl) xW rfl) rfl) rfl rfl) (kh<|Ŧ<|Qx hr<|aS 6 (pv 6)<|aS 5 (pv 5)<|aS 3 (pv 3)<|aS 4 (pv 4) yI) (Ø (Ŗ (cR<|å<|ò<|ÿ hr<|Ó 4 Ò) (ø Ļ) Ă)<|ĩ<|Am hr<|Õ (Ĥ (Ã 2) Ë)<|Õ (Ĥ (Ã 2) Ë)<|Ó 3<|Ó 4 Ò)<|λx x=>rfl) λx=>?_;refine stI d37 rfl (λS x hr hu=>ø<|kz (pv 0)<|ò<|ÿ hr<|Ó 1 Ò) λx=>?_;refine aT d38 rfl (λS x hr hu=>Ø (rT S (ř 0) ϒ Ħ<|Ĥ (Ã 0) Ë)<|Ø (rT S (ř 0) ϒ Ħ<|Ĥ (Ã 0) Ë)<|ļ<|Ŏ<|Í (ŝ<|Í ī<|Í ī<|Í (ϓ (Gf rfl) Gh gz xk<|Ý (Ã 1) ê) î)<|Í (ŝ<|Í (lx cr cn Ë)<|Í ī<|Í (lx cr cn<|å<|ϓ (Gg rfl) Gj gz xl<|Ý (Ã 1) ê) î)<|Í (ŝ<|Í ī<|Í ī<|Í (ϓ (Gf rfl) Gh gz xk<|Ý (Ã 2) ê) î)<|Í (ŝ<|Í ī<|Í (lx cr cn Ë)<|Í (lx cr cn<|å<|ϓ (Gg rfl) Gj gz xl<|Ý (Ã 2) ê) î) î) λx=>?_;refine aT d39 rfl (λS x hr hu=>ĕ S (Ŏ î)<|Ø (av Ķ rfl (ř 0) (ϩ S)<|ø<|Ŗ (Ϝ Gv (Eh hu) (Ã 2) (Ã 1)<|by with_unfolding_all rfl) (ø<|PS.wk (Ŧ<|cQ ώ Ϙ ϭ Ņ (pv 1)<|Í (v_var 2) î) λx x x h=>bN h) Ă)<|ļ<|jh 1) λx=>?_;refine aT d40 rfl (λS x hr hu=>ĕ S (ϱ<|v_sub (ċ (Ã 1) Ë)<|ċ (Ã 0) Ë)<|ĕ S (ϱ<|v_sub (ċ (Ã 0) Ë)<|ċ (Ã 1) Ë)<|ĩ<|ŝ<|Í (v_var 2)<|Í (v_var 3)<|Í (v_add (cz (Ã 2)<|ċ (Ã 0) Ë)<|cz (Ã 3)<|ċ (Ã 0) Ë) î) λx=>?_;refine aT W4 rfl (λS x hr hu=>ĩ<|ny cb ca (cj (cz (ċ (Ã 0) Ë)<|ċ (Ã 1) Ë)<|cz (ċ (Ã 0) Ë)<|ċ (Ã 1) Ë) (ċ (Ã 0) Ë)<|Ġ _) λx=>?_;refine aT W5 rfl (λS x hr hu=>ĕ S (Ŏ î)<|ĕ S (ÿ hr<|Ó 0 Ò)<|Ø (av Ķ rfl (ř 2) (ϩ S)<|ø<|av Ķ rfl (ř 2) (ϩ S)<|ĕ S (ÿ hr<|Ó 3<|Ó 4 Ò)<|ø<|Ŗ (PW.pt<|w_and (qP hu (Ã 3)<|Ã 4)<|kq<|cR<|å<|ϓ (qH rfl) qM gz mH<|Ý (å<|ò<|dX (ř 2) ϒ Ħ<|ò<|ÿ hr<|Ó 0<|Ó 1 Ò) ê) (ø<|PS.wk (Ŧ<|cQ ώ Ϙ ϭ Ņ (pv 1)<|Í (v_var 5) î) λx x x h=>bN h) Ă)<|ļ<|jh 1) λx=>?_;refine aT W6 rfl (λS x hr hu=>ļ<|lH (å<|ò<|ÿ hr<|Ó 0 Ò)<|å<|ò<|ÿ hr<|Ó 0 Ò) λx=>?_;refine aT d44 rfl (λS x hr hu=>ĩ<|ŝ<|Í (v_add (cz (ċ (Ã 1) Ë)<|ċ (Ã 0) Ë)<|cz (ċ (Ã 1) Ë)<|ċ (Ã 0) Ë)<|Í (v_add (cz (ċ (Ã 1) Ë)<|ċ (Ã 0) Ë)<|cz (ċ (Ã 1) Ë)<|ċ (Ã 0) Ë) î) λx=>?_;refine aT d45 rfl (λS x hr hu=>ļ<|Ŏ<|Í (ŝ<|Í (v_var 0)<|Í (v_var 1)<|Í (v_var 4) î)<|Í (ŝ<|Í (v_var 2)<|Í (v_var 1)<|Í (v_var 4) î)<|Í (ŝ<|Í (v_var 2)<|Í (v_var 3)<|Í (v_var 4) î)<|Í (ŝ<|Í (v_var 0)<|Í (v_var 3)<|Í (v_var 4) î) î) λx=>?_;refine aT d46 rfl (λS x hr hu=>ļ<|lH (å<|ò<|ÿ hr<|Ó 0<|Ó 1<|Ó 2<|Ó 3<|Õ ī Ò)<|å<|ò<|ÿ hr<|Ó 0<|Ó 1<|Ó 2<|Ó 3<|Ó 4 Ò) λx=>?_;refine stH d47 rfl (λS x hr hu=>ĕ S (ϱ<|v_mul Ë<|ċ (å<|ś<|Ã 0) Ë)<|ĕ S (ϱ<|v_mul Ë<|ċ (å<|ś<|Ã 0) Ë)<|ļ<|ÿ hr<|Õ (v_sub (Ã 1) Ë)<|Õ (v_sub (Ã 2) Ë)<|Õ (v_add (Ã 1) Ë)<|Õ (v_add (Ã 2) Ë)<|Õ (Ĥ (å<|ś<|Ã 0) Ë) Ò) λx=>?_;refine stH d48 rfl (λS x hr hu=>ĕ S (ϱ<|ś<|Ã 0)<|ĕ S (ϱ<|ŝ<|Í (Ĥ (Ã 1) Ë)<|Í (Ĥ (Ã 1) Ë) î)<|ĕ S (ϱ<|ŝ<|Í (Ĥ (Ã 1) Ë)<|Í (Ĥ (Ã 1) Ë) î)<|ļ<|Ŏ<|Í (v_add (Ã 2)<|å<|ŝ<|Í ī î)<|Í (v_add (Ã 3)<|å<|ŝ<|Í ī î)<|Í (v_add (Ã 3)<|å<|ŝ<|Í (Ĥ (Ã 1) Ë) î)<|Í (v_add (Ã 2)<|å<|ŝ<|Í (Ĥ (Ã 1) Ë) î) î) λx=>?_;refine stH d49 rfl (λS x hr hu=>ĕ S (ϱ<|ś<|Ã 0)<|ļ<|ÿ hr<|Õ (Ĥ (Ã 1) Ë)<|Õ (Ĥ (Ã 1) Ë)<|Õ (Ĥ (Ã 1) Ë)<|Õ (Ĥ (Ã 1) Ë)<|Õ (Ĥ (Ã 1) Ë) Ò) λx=>?_;refine stH d50 rfl (λS x hr hu=>ļ<|dX (e_<|ŝ<|Í ī<|Í ī<|Í ī î) ϒ Ħ<|qb zQ zR gz Cb<|Ý (å<|ò<|Ũ (å<|ś<|Ã 0) (Œ<|v_var 1)<|Œ<|v_add (Ã 1) Ë) ê) λx=>?_;refine stH W7 rfl (λS x hr hu=>ĕ S (ϱ<|ś<|Ã 0)<|ļ<|ÿ hr<|Õ (Ĥ (Ã 1) Ë)<|Õ (Ĥ (Ã 1) Ë)<|Õ (Ĥ (Ã 1) Ë)<|Õ (Ĥ (Ã 1) Ë)<|Õ (Ĥ (Ã 1) Ë) Ò) λx=>?_;refine aT W8 rfl (λS x hr hu=>ļ<|dX (e_<|ò<|Ks hr<|v_var 0) ϒ Ħ<|ò<|ÿ hr<|Ó 1<|Ó 0 Ò) λx=>?_;refine aT W9 rfl (λS x hr hu=>Ø (Ŗ (Ϝ iJ iF (Ã 1) (Ã 0)<|Ġ _) (ĩ ī) Ă)<|ĩ<|v_sub (å<|fF Bb Bd Ë<|cj (Ã 1) Ë)<|å<|fF Bb Bd Ë<|Ã 0) λx=>?_;refine aT Xa rfl (λS x hr hu=>ĕ S (ϱ ī)<|ĕ S (ϱ<|v_sub (Ã 3) Ë)<|Ø (av Ķ rfl (ř 0) (kP rfl<|ě (ϩ S)<|ě (ϩ S)<|ě (ϩ S) dB)<|ĕ S (ϱ<|v_mul (Ã 6)<|Ã 1)<|ĕ S (ϱ<|v_sub (Ã 8)<|cz (cz (Ã 7)<|Ã 1)<|Ã 2)<|ø<|Ŗ (Ϝ zN zD (Ã 9) Ë<|Ġ _) (ø<|El S<|ϱ<|ϓ (Ih rfl) IE gz xl<|Ý (Ã 5)<|Ý (nE (Ã 10)<|Ã 9) ê)<|ø<|Ŗ (Ϝ iJ iF (Ã 9) Ë<|Ġ _) (ø<|El S<|ϱ<|ϓ (Ii rfl) IF gz xk<|Ý (Ã 4)<|Ý (å<|lx cr cn<|nE (Ã 10)<|å<|lx cr cn<|Ã 9) ê)<|ø<|Ŗ (Ϝ iJ iF (Ã 10) Ë<|Ġ _) (ĩ ī) Ă)<|ļ<|ÿ hr<|Ó 4<|Ó 5 Ò) λx=>?_;refine aT d55 rfl (λS x hr hu=>ĕ S (ÿ hr<|Õ (ò<|ÿ hr<|Ó 1<|Ó 2 Ò) Ò)<|ĕ S (ϱ ī)<|Ø (av Ķ rfl (ū rfl gz<|Í (ś<|Ã 0) î) (ϩ S)<|ø<|Gk (i:=4) S.nd rfl (ac rfl)<|fF Bb Bd (å<|ò<|ÿ hr<|Ó 3<|Õ (v_mul Ë<|ċ (Ã 2) Ë)<|Ó 5<|Õ (ś<|Ã 0) Ò)<|cz (Ã 5)<|å<|ś<|Ã 0)<|ļ<|jh 4) λx=>?_;refine aT d56 rfl (λS x hr hu=>ļ<|dX (e_<|ś<|Ã 0) ϒ Ħ<|ò<|ÿ hr<|Ó 0<|Ó 2<|Ó 1 Ò) λx=>?_;refine aT d57 rfl (λS x hr hu=>Ø (Ŗ (Ϝ rk lq (Ã 1) nD<|Ġ _) (ļ<|ÿ hr<|Õ ī<|Õ (v_sub (cz (å<|ś<|Ã 0)<|å<|ś<|Ã 0) Ë) Ò) Ă)<|ĕ S (ϱ ī)<|Ø (av Ķ rfl (e_<|ò<|ÿ hr<|Ó 0<|Ó 1 Ò) (ϩ S)<|ø<|Gk (i:=2) S.nd rfl (ac rfl)<|v_var 3)<|ļ<|jh 2) λx=>?_;refine aT d58 rfl (λS x hr hu=>ĩ<|fF tJ tK (å<|ò<|ÿ hr<|Ó 0<|Õ pO Ò)<|å<|lx Mw Mv<|å<|ò<|ÿ hr<|Ó 0<|Ó 1 Ò) λx=>?_;refine aT d59 rfl (λS x hr hu=>Ø (rT S (ū rfl gz<|Í (v_mul (å<|ś<|Ã 0)<|å<|ś<|Ã 0) î) ϒ Ħ ī)<|Ø (av Ķ rfl (e_<|ś<|Ã 0) (kP rfl<|ě (ϩ S)<|ě (ϩ S)<|ě (ϩ S) dB)<|ø<|av Ķ rfl (ř 4) (ϩ S)<|ĕ S (ÿ hr<|Ó 0<|Ó 5 Ò)<|ø<|rT S (Mu rfl gz<|PP 1) (kP rfl<|ě ϒ<|ě ϒ dB) Ħ<|v_add (Ã 3)<|cz (Ã 0)<|å<|fF tJ tK (å<|fF Bc Be (Ã 1)<|Ã 2) Ë)<|ļ<|jh 1) λx=>?_;refine aT d60 rfl (λS x hr hu=>ĕ S (ÿ hr<|Õ (ò<|Ũ (Ã 0) (Œ<|v_var 1) dC) Ò)<|Ø (Ŗ (Ϝ rk lq (Ã 2) nD<|Ġ _) (ø Ļ) Ă)<|ļ<|jh 2) λx=>?_;refine stH d61 rfl (λS x hr hu=>ĩ<|oi ŕ bF bG bQ bL ğ<|Ý (cj (å<|ò<|Ŏ<|Í (ś<|Ã 0) î)<|å<|ò<|dX (e_<|ś<|Ã 0) ϒ Ħ<|qb gj gk gz fQ<|Ý (Ã 0) ê) ê) λx=>?_;refine QH d62 λx=>?_;refine QH d63 λx=>?_;refine QH d64 λx=>?_;refine QH d65 λx=>?_;refine QH d66 λx=>?_;refine aT d67 rfl (λS x hr hu=>Ø (Ŗ (Ϝ rk lq (Ã 0) nD<|Ġ _) (ĩ Ŋ) Ă)<|ĩ<|oi ŕ bF bG bQ bL ğ<|Ý (cj (å<|ò<|Ŏ<|Í Ŋ î)<|å<|ò<|dX (ř 0) ϒ Ħ<|qb gj gk gz fQ<|Ý (Ã 0) ê) ê) λx=>?_;refine aT d68 rfl (λS x hr hu=>ĕ S (Ŏ<|Í (oi ŕ bF bG bQ bL ğ<|Ý (å<|ò<|Ŏ<|Í Ŋ<|Í (qb gj gk gz fQ<|Ý (å<|ś<|Ã 0) ê)<|Í (qb gj gk gz fQ<|Ý (å<|ś<|Ã 0) ê) î) ê) î)<|Ø (PS.wk (Ŧ<|cQ ώ xA Cu vL (pv 1)<|ŧ (dX (e_<|ś<|Ã 0) ϒ Ħ<|ò<|Ks hr<|v_var 0) aZ) λx x x h=>Dg h)<|Ø (av Ķ rfl (e_<|ś<|Ã 0) (kP rfl<|ě (ϩ S)<|ě (ϩ S)<|ě (ϩ S) dB)<|Ø (PS.wk (Ŧ<|cQ ώ Ϙ ϭ Ņ (pv 1)<|Í (Ww<|tX Ŋ<|tX (Kk<|v_var 2)<|tX Ŋ<|tX (Kk<|v_var 3) M7) î) λx x x h=>bN h)<|ø<|PS.wk (Ŧ<|cQ ώ xA Cu vL (pv 1)<|ŧ (dX (ř 4) ϒ Ħ<|ò<|ÿ hr<|Ó 0 Ò) aZ) λx x x h=>Dg h)<|ĩ<|oi ŕ bF bG bQ bL ğ<|Ý (Ã 1) ê) λx=>?_;refine stP d69 rfl (λS x hr=>Np<|ò<|ÿ hr<|Ó 0 Ò) λx=>?_;refine aT d70 rfl (λS x hr hu=>ĩ<|pP cb iJ ca iF Ë (Ã 1)<|å<|ϓ ō Ś gz İ<|Ý (å<|ś<|Ã 0) ê) λx=>?_;refine aT d71 rfl (λS x hr hu=>ĩ<|Ĥ (ċ (å<|ś<|Ã 0)<|Ã 1) Ë) λx=>?_;refine aT d72 rfl (λS x hr hu=>ø<|Ŗ (PW.pt<|w_or (nA<|cR<|å<|ò<|ÿ hr<|Ó 0<|Ó 1 Ò)<|pQ<|nA<|FL cb iJ ca iF Ë (Ã 2)<|å<|ϓ ō Ś gz İ<|Ý (å<|ò<|ÿ hr<|Ó 0<|Ó 1 Ò) ê) (ø Ļ) Ă) λx=>?_;refine aT d73 rfl (λS x hr hu=>Ø (yq<|ò<|ÿ hr<|Ó 0<|Õ (Ĥ (Ã 1) Ë)<|Õ (Ĥ (Ã 1) Ë) Ò)<|ĕ S (ÿ hr<|Ó 0<|Õ (Ĥ (å<|ò<|ÿ hr<|Ó 0<|Õ (Ĥ (Ã 1) Ë) Ò)<|ċ (Ã 1) Ë) Ò)<|ĕ S (ϱ<|ś<|Ã 0)<|ĕ S (dX (ū rfl gz<|Í (v_mul (Ã 3)<|å<|ś<|Ã 0) î) ϒ Ħ<|FM (cR<|å<|fF tJ tK (å<|fF Bc Be (Ã 0)<|Ã 1) Ë) Ŋ Ŋ)<|ĩ<|oi ŕ bF bG bQ bL ğ<|Ý (å<|ò<|dX (ū rfl gz<|Í (ś<|Ã 0) î) ϒ Ħ<|oi ŕ bF bG bQ bL ğ<|Ý (å<|ò<|Ũ (Ã 0) (Œ<|v_mul (Ã 2)<|Ã 1)<|Œ<|v_add (cz (Ã 2)<|Ã 1)<|Ã 1) ê) ê) λx=>?_;refine aT d74 rfl (λS x hr hu=>ĩ<|v_and (pP cb iJ ca iF Ë (ċ (Ã 1) Ë)<|å<|ś<|Ã 0)<|iI<|pP cb iJ ca iF Ë (ċ (Ã 1) Ë)<|å<|ś<|Ã 0) λx=>?_;refine aT d75 rfl (λS x hr hu=>ø<|Ŗ (nA<|cR<|å<|ò<|ÿ hr<|Ó 0<|Ó 1 Ò) (ø Ļ) Ă) λx=>?_;refine aT d76 rfl (λS x hr hu=>ø<|Ŗ (nA<|cR<|å<|ò<|ÿ hr<|Ó 0<|Ó 1 Ò) (ø Ļ) Ă) λx=>?_;refine aT d77 rfl (λS x hr hu=>ļ<|lH (cz (ċ (Ã 0) Ë)<|Ã 1)<|ċ (Ã 0) Ë) λx=>?_;refine aT d78 rfl (λS x hr hu=>ĩ<|ŝ<|Í (v_mod (Ã 0)<|Ã 1)<|Í (wl (Ã 0)<|Ã 1) î) λx=>?_;refine aT d79 rfl (λS x hr hu=>ĕ S (ÿ hr<|Ó 1<|Õ (ś<|Ã 0) Ò)<|Ø (rT S (e_ WO) (kP rfl<|ě ϒ<|ě ϒ dB) Ħ<|ŝ<|Í (v_add (ċ (Ã 0) Ë)<|Ã 1)<|Í (v_add (ċ (Ã 0) Ë)<|Ã 2) î)<|ļ<|dX (ř 3) ϒ (yr<|cR<|å<|ò<|ÿ hr<|Ó 0<|Ó 1 Ò)<|ò<|ÿ hr<|Ó 1<|Õ (ś<|Ã 0) Ò) λx=>?_;refine stl d80 rfl (λS x x x za hr=>Ø (rT S (e_<|ò<|ÿ hr<|Ó 0<|Ó 1 Ò) ϒ (yr<|Ϝ zO CI (ċ (Ã 0)<|Ã 1) nD<|Ġ _)<|v_var 1)<|ĩ<|Jb (k:=2) ["costs"] [2] (è<|top 98) (hr.mono<|by decide) rfl rfl (by simp[lams]) za rfl rfl rfl gz (Ý (Ã 3) ê) (λx x x x x hr hu=>Ĥ (Ã 0)<|Ã 1) ⟨rfl,⟨rfl,ac rfl⟩,trivial⟩) λx=>?_;refine aT d81 rfl (λS x hr hu=>Ø (Ŗ (dP hu (Ã 1)<|Ã 2) (ĩ ī) Ă)<|ĕ S (ÿ hr<|Ó 0<|Ó 1<|Ó 3 Ò)<|ĩ<|FM (Ϝ rk lq (Ã 4) nD<|Ġ _) pO<|Ĥ (Ã 3)<|Ã 4) λx=>?_;refine aT d82 rfl (λS x hr hu=>ĕ S (ÿ hr<|Ó 0<|Ó 1 Ò)<|ĕ S (Ŏ î)<|Ø (av Ķ rfl (ū rfl gz<|Í (v_mul (å<|ś<|Ã 0)<|å<|ś<|Ã 0) î) (ϩ S)<|ĕ S (ÿ hr<|Ó 0<|Ó 6<|Ó 2<|Ó 3 Ò)<|ĕ S (ϱ<|v_sub Ë<|å<|fF tJ tK (å<|fF Bc Be (Ã 4)<|Ã 6) Ë)<|ø<|PS.wk (Ŧ<|cQ ώ Ϙ ϭ Ņ (pv 5)<|Í (FM (Ϝ rk lq (Ã 7) nD<|Ġ _) pO<|v_add (Ã 8)<|Ã 7) î) λx x x h=>bN h)<|ļ<|jh 5) λx=>?_;refine aT d83 rfl (λS x hr hu=>ĕ S (Ŏ î)<|Ø (rT S (ū rfl gz<|Í (v_mul (å<|ś<|Ã 0)<|å<|ś<|Ã 0) î) ϒ Ħ pO)<|Ø (av Ķ rfl (P4 rfl gz<|ò<|ÿ hr<|Ó 0<|Ó 1 Ò) (ϩ S)<|ĕ S (ÿ hr<|Ó 0<|Ó 5<|Ó 2<|Ó 4 Ò)<|ø<|PS.wk (Ŧ<|cQ ώ Ϙ ϭ Ņ (pv 3)<|Í (v_var 4) î) λx x x h=>bN h)<|ļ<|MS rfl rfl gz rfl gz<|Ã 3) λx=>?_;refine aT d84 rfl (λS x hr hu=>ĕ S (Ŏ<|Í (v_var 1) î)<|Ø (C3 Ķ (qP hu (ċ (Ã 4)<|å<|lx cr cn Ë)<|Ã 2)<|ø<|PS.wk (Ŧ<|cQ ώ Ϙ ϭ Ņ (pv 4)<|Í (ò<|ÿ hr<|Ó 0<|Õ (Ĥ (Ã 4)<|å<|lx cr cn Ë)<|Õ (Ĥ (Ã 3)<|å<|ϓ ō Ś gz İ<|Ý (Ã 4) ê) Ò) î) λx x x h=>bN h)<|ļ<|dX (ř 4) ϒ Ħ<|ò<|ÿ hr<|Ó 1<|Õ (ś<|Ã 0) Ò) λx=>?_;refine aT d85 rfl (λS x hr hu=>Ø (yq<|ò<|ÿ hr<|Ó 0<|Ó 2 Ò)<|Ø (yq<|ò<|ÿ hr<|Ó 0<|Ó 3 Ò)<|Ø (yq<|ò<|ÿ hr<|Ó 0<|Ó 1 Ò)<|ĕ S (ÿ hr<|Ó 2<|Õ (ś<|Ã 0) Ò)<|ĕ S (ÿ hr<|Ó 3<|Õ (ś<|Ã 0) Ò)<|ĕ S (ÿ hr<|Ó 0<|Ó 1<|Ó 5 Ò)<|Ø (Ŗ (Ϝ rk lq (ċ (ċ (Ã 6) Ë)<|Ã 4) nD<|Ġ _) (ĩ<|ŝ<|Í Ŋ<|Í (v_var 6) î) Ă)<|ĩ<|ŝ<|Í Ŋ<|Í (Ĥ (ċ (Ã 6) Ë)<|Ã 4)<|Í (ò<|ÿ hr<|Ó 0<|Ó 4<|Ó 5<|Ó 6 Ò)<|Í (v_var 6) î) λx=>?_;refine aT d86 rfl (λS x hr hu=>ĩ<|oi ŕ bF bG bQ bL ğ<|Ý (å<|ò<|dX (ř 0) ϒ Ħ<|qb gj gk gz fQ<|Ý (Ã 0) ê) ê) λx=>?_;refine aT d87 rfl (λS x hr hu=>ĕ S (ÿ hr<|Ó 0<|Õ (Ĥ (Ã 1) Ë)<|Õ (ŝ<|Í (Ĥ (Ã 1) Ë)<|Í (Ĥ (Ã 1) Ë) î)<|Õ (ŝ<|Í (Ĥ (Ã 1) Ë)<|Í (Ĥ (Ã 1) Ë) î) Ò)<|Ø (Ŗ (dP hu (ċ (Ã 2) Ë) ğ) (ĩ Ŋ) Ă)<|ĩ<|oi ŕ bF bG bQ bL ğ<|Ý (cj (å<|ò<|Ŏ<|Í (qb gj gk gz fQ<|Ý (ċ (Ã 2) Ë) ê) î)<|å<|ò<|dX (e_<|Ĥ (Ã 2) Ë) ϒ Ħ<|ò<|ÿ hr<|Ó 0 Ò) ê) λx=>?_;refine aT d88 rfl (λS x hr hu=>ĩ<|Ĥ (ċ (å<|ś<|Ã 0)<|Ã 1) Ë) λx=>?_;refine aT d89 rfl (λS x hr hu=>Ø (av Ķ rfl (ū rfl gz<|Í (ϓ ō Ś gz İ<|Ý (å<|ś<|Ã 0) ê) î) (ϩ S)<|ø<|Ŗ (dP hu (å<|ò<|ÿ hr<|Ó 0<|Ó 2 Ò)<|Ã 1) (ļ<|jh 2) Ă)<|ø Ļ) λx=>?_;refine aT d90 rfl (λS x hr hu=>Ø (Ŗ (Ϝ (Jn (nm:="ROWS") rfl) (Jm<|by assumption) (ċ (Ã 1) Ë) (å QA)<|by with_unfolding_all rfl) (ø Ļ) Ă)<|ĕ S (ϱ<|O7 (Jo (nm:="ROWS") rfl) (Nf<|by assumption) (å QA) (ċ (Ã 1) Ë)<|λx x=>rfl)<|ĕ S (Ũ (Ã 1) (Œ ī)<|Œ<|v_add Ë<|ċ (Ã 2) Ë)<|Ø (Ŗ (qP hu (å<|ϓ ō Ś gz İ<|Ý (Ã 1) ê)<|cj (cj Ë<|ċ (Ã 2) Ë)<|ċ (Ã 2) Ë) (ø Ļ) Ă)<|ĕ S (ÿ hr<|Ó 1<|Õ (v_add Ë<|ċ (Ã 2) Ë) Ò)<|ļ<|QG hr (Ã 2)<|Ó 0<|Õ (v_add (å<|ò<|dX (ř 3) ϒ Ħ<|ò<|ÿ hr<|Ó 0<|Ó 1 Ò)<|Ã 4) Ò) λx=>?_;refine aT d91 rfl (λS x hr hu=>Ø (Ŗ (Ϝ iJ iF (å<|ϓ ō Ś gz İ<|Ý (Ã 1) ê) Ë<|Ġ _) (ø Ļ) Ă)<|ĕ S (ÿ hr<|Ó 1<|Õ ī Ò)<|Ø (Ŗ (dP hu (å<|ϓ ō Ś gz İ<|Ý (å<|ś<|Ã 0) ê)<|å oq) (ø Ļ) Ă)<|ĩ<|Am hr<|Õ (ś<|Ã 0)<|Õ (ś<|Ã 0)<|Õ (v_add (å<|ś<|Ã 0)<|å<|ò<|Ŏ<|Í (ò<|ÿ hr<|Õ (Ĥ (Ã 1) Ë)<|Ó 2 Ò) î)<|Õ (ś<|Ã 0) Ò) λx=>?_;refine aT d92 rfl (λS x hr hu=>Ø (Ŗ (qP hu (å<|ϓ ō Ś gz İ<|Ý (Ã 1) ê) Ë) (ø Ļ) Ă)<|ĕ S (ϱ<|Ĥ (å<|ò<|ÿ hr<|Ó 1<|Õ ī Ò) Ë)<|Ø (Ŗ (nA<|FL cb iJ ca iF Ë (Ã 2)<|å<|ϓ ō Ś gz İ<|Ý (å<|ś<|Ã 0) ê) (ø Ļ) Ă)<|ĩ<|Am hr<|Õ (ś<|Ã 0)<|Õ (ś<|Ã 0)<|Õ (v_add (å<|ò<|Ũ (å<|ś<|Ã 0) dC<|Œ<|v_var 2)<|å<|ò<|Ũ (å<|ś<|Ã 0) (Œ<|v_add (Ã 2) Ë) dC)<|Õ (ś<|Ã 0) Ò) λx=>?_;refine stM d93 rfl (λS x hr hu=>ĕ S (Er ŕ fY mR jr jq (Ã 1)<|Ý ğ ê)<|Ø (Ŗ (dP hu (ċ (Ã 2) Ë) ğ) (Ø (kz (pv 0)<|ò<|ÿ hr<|Õ (ś<|Ã 0)<|Ó 2 Ò)<|ĩ Ŋ) Ă)<|Ø (Ŗ (dP hu (ċ (Ã 2) Ë) ğ) (Ø (kz (pv 0)<|ò<|ÿ hr<|Õ (ś<|Ã 0)<|Ó 2 Ò)<|ĩ Ŋ) Ă)<|ļ<|ÿ hr<|Õ (ś<|Ã 0)<|Ó 2 Ò) λx=>?_;refine stH d94 rfl (λS x hr hu=>ĕ S (Er ŕ fY mR jr jq (Ã 1)<|Ý ğ ê)<|Ø (Ŗ (dP hu (ċ (Ã 2) Ë) ğ) (Ø Ļ<|ĩ Ŋ) Ă)<|Ø (Ŗ (dP hu (ċ (Ã 2) Ë) ğ) (Ø Ļ<|ĩ Ŋ) Ă)<|ļ<|ÿ hr<|Õ (ś<|Ã 0)<|Ó 2 Ò) λx=>?_;refine aT d95 rfl (λS x hr hu=>ĕ S (Ŏ î)<|Ø (av Ķ rfl (ř 1) (kP rfl<|ě (ϩ S)<|ě (ϩ S)<|ě (ϩ S) dB)<|ø<|PS.wk (Ŧ<|cQ ώ Ϙ ϭ Ņ (pv 4)<|Í (oi ŕ bF bG bQ bL ğ<|Ý (å<|ò<|dX (ū rfl gz<|Í (ϓ ō Ś gz İ<|Ý (Ã 10) ê) î) ϒ Ħ<|ò<|Nx 0 hr (pv 0)<|Õ (v_add (cj (cj ğ<|Ã 1) ğ)<|å<|qb gj gk gz fQ<|Ý (Ã 2) ê) Ò) ê) î) λx x x h=>bN h)<|ĕ S (ÿ hr<|Õ (oi ŕ bF bG bQ bL ğ<|Ý (å<|ò<|Er ŕ fY mR jr jq (å<|ò<|Nx 0 hr (pv 0)<|Õ Ŋ Ò)<|Ý ğ ê) ê) Ò)<|ĕ S (ÿ hr<|Ó 5 Ò)<|Ø (rT S (ř 1) (kP rfl<|ě ϒ<|ě ϒ<|ě ϒ dB) Ħ<|Ĥ (å<|ò<|Er ŕ fY mR jr jq (å<|ò<|Nx 0 hr (pv 0)<|Õ (v_add (cj (cj ğ<|Ã 2) ğ)<|Ã 1) Ò)<|Ý ğ ê) Ë)<|ĩ<|ŝ<|Í (v_var 4)<|Í (v_var 6)<|Í (v_var 7) î) λx=>?_;refine aT d96 rfl (λS x hr hu=>ĕ S (ÿ hr<|Ó 0<|Õ ī Ò)<|ĕ S (ϱ<|v_sub (ş (ċ (Ã 3) Ë)<|cj (cz Ë<|Ã 1) Ë) Ë)<|ĕ S (ϱ<|v_sub (ş (ċ (Ã 3) Ë)<|cj (cz Ë<|Ã 2) Ë) Ë)<|ĕ S (lH (cj (Ã 4) Ë)<|ş (ċ (Ã 3) Ë) Ë)<|ĕ S (lH (cj (Ã 5) Ë)<|ş (ċ (Ã 3) Ë) Ë)<|ĕ S (lH Ë<|ş (ċ (Ã 3) Ë) Ë)<|Ø (Ŗ (dP hu (ş (ċ (Ã 3) Ë) Ë) Ë) (ø<|El S<|ϱ<|v_sub (å<|fF FV Fp Ë Ë)<|ş (ċ (Ã 3) Ë) Ë) Ă)<|Ø (Ŗ (dP hu (ş (ċ (Ã 3) Ë) Ë) Ë) (ļ<|Ŏ<|Í Ŋ<|Í (v_sub (ş (ċ (Ã 3) Ë)<|cj (Ã 1) Ë) Ë)<|Í (v_sub (ş (ċ (Ã 3) Ë)<|cj (Ã 2) Ë) Ë)<|Í (v_var 8) î) Ă)<|Ø (Ŗ (dP hu (ş (ċ (Ã 3) Ë) Ë) Ë) (ĕ S (ϱ<|Ĥ (å<|ò<|Ŏ<|Í (ŝ<|Í (v_var 6)<|Í (v_var 5) î)<|Í (ŝ<|Í (v_var 6)<|Í (v_var 7) î)<|Í (ŝ<|Í (v_var 4)<|Í (v_var 7) î)<|Í (ŝ<|Í (v_sub (Ã 4) Ë)<|Í (v_var 7) î) î)<|ş (ċ (Ã 3) Ë) Ë)<|ļ<|Ŏ<|Í Ŋ<|Í (v_var 4)<|Í (v_var 5)<|Í (Ĥ (Ã 10) Ë)<|Í (Ĥ (Ã 10) Ë)<|Í (v_var 8) î) Ă)<|Ø (Ŗ (dP hu (ş (ċ (Ã 3) Ë) Ë) Ë) (ļ<|Ŏ<|Í Ŋ<|Í (v_var 4)<|Í (v_var 5)<|Í (v_var 6)<|Í (v_var 7)<|Í (v_var 8) î) Ă)<|Ø (Ŗ (dP hu (ş (ċ (Ã 3) Ë) Ë) Ë) (ļ<|Ŏ<|Í Ŋ<|Í (v_var 4)<|Í (v_var 5)<|Í (v_var 6)<|Í (v_var 7)<|Í (v_var 8) î) Ă)<|ĕ S (ϱ<|v_mul (ş (ċ (Ã 3) Ë) Ë)<|ş (ċ (Ã 3) Ë) Ë)<|ļ<|Ŏ<|Í Ŋ<|Í (v_var 4)<|Í (v_var 5)<|Í (v_mod (ċ (Ã 3) Ë) Ë)<|Í (v_var 6)<|Í (v_add (Gx (Ã 5) Ë)<|ş (ċ (Ã 3) Ë) Ë)<|Í (v_mod (ċ (Ã 3) Ë) Ë)<|Í (v_add (Gx (Ã 4) Ë)<|ş (ċ (Ã 3) Ë) Ë)<|Í (v_var 7)<|Í (v_var 9) î) λx=>?_;refine aT d97 rfl (λS x hr hu=>ĕ S (lH (å<|ò<|Ŏ<|Í (ò<|ÿ hr<|Õ (ò<|Ŏ<|Í Ŋ<|Í (v_var 0)<|Í (v_var 1) î) Ò) î)<|å<|ò<|dX (ř 2) ϒ Ħ<|ò<|ÿ hr<|Ó 0 Ò)<|Ø (av Ķ rfl (ř 3) (kP rfl<|ě (ϩ S)<|ě (ϩ S)<|ě (ϩ S) dB)<|Ø (PS.wk (Ŧ<|cQ ώ Ϙ ϭ Ņ (pv 4)<|Í (ò<|ÿ hr<|Õ (ò<|Ŏ<|Í Ŋ<|Í (v_var 5)<|Í (v_var 6) î) Ò) î) λx x x h=>bN h)<|ø<|av Ķ rfl (ř 7) (ϩ S)<|ø<|Ŗ (Ϝ rk lq (Ã 8) nD<|Ġ _) (ø<|PS.wk (Ŧ<|cQ ώ Ϙ ϭ Ņ (pv 4)<|Í Ŋ î) λx x x h=>bN h)<|ø<|PS.wk (Ŧ<|cQ ώ Ϙ ϭ Ņ (pv 4)<|Í (ò<|ÿ hr<|Õ (v_add (å<|ò<|Ŏ<|Í Ŋ î)<|å<|ò<|vt eP eQ gz eK<|Ý (Ã 8) ê) Ò) î) λx x x h=>bN h)<|ĩ<|oi ŕ bF bG bQ bL ğ<|Ý (Ã 4) ê) λx=>?_;refine aT d98 rfl (λS x hr hu=>Ø (rT S (ř 0) ϒ (yr<|PW.pt<|w_and (Ϝ uF (uE hu) (ċ (Ã 0) Ë) (å<|ò<|Ŏ<|Í Ŋ<|Í Ŋ<|Í Ŋ î)<|by with_unfolding_all rfl)<|kq<|Ϝ iJ iF (ċ (Ã 0)<|å<|lx cr cn Ë) Ë<|Ġ _)<|v_var 0)<|Ø (Ŗ (dP hu (Ã 2)<|å<|ò<|Ŏ î) (ĩ pO) Ă)<|ĕ S (ϱ<|Ĥ (Ã 2)<|ş (Ã 1)<|å<|ϓ ō Ś gz İ<|Ý (Ã 2) ê)<|ļ<|lH (å<|ò<|Ũ (Ã 3) dC<|Œ<|lx cr cn Ë)<|å<|ò<|Ŏ<|Í (v_add (cj (ċ (Ã 3)<|å<|lx cr cn Ë) Ë)<|ş (nE (Ã 1) Ë) Ë) î) λx=>?_;refine aT d99 rfl (λS x hr hu=>Ø (av Ķ rfl (Gq rfl gz (Bm<|Ĥ (Ã 0) Ë)<|Bm<|Ĥ (Ã 1) Ë) (kP rfl<|ě (ϩ S)<|ě (ϩ S) dB)<|ø<|Ŗ (PW.pt<|w_or (qP hu (å<|ϓ ō Ś gz İ<|Ý (Ã 2) ê)<|å<|ϓ ō Ś gz İ<|Ý (Ã 3) ê)<|pQ<|cR<|å<|ϓ (LK rfl) Md gz PyProof.Rows.boot_any<|Ý (å<|ò<|dX (ū rfl gz<|Í (ϓ ō Ś gz İ<|Ý (Ã 2) ê) î) ϒ Ħ<|v_and (v_eq hu (ċ (Ã 0)<|Ã 2) ğ)<|iI<|ny nB (iY hu) (ċ (Ã 1)<|Ã 2) ğ<|Ġ _) ê) (ĩ pN) Ă)<|Ø (av Ķ rfl (Gq rfl gz (Bm<|Ĥ (Ã 0) Ë)<|Bm<|Ĥ (Ã 1) Ë) (kP rfl<|ě (ϩ S)<|ě (ϩ S) dB)<|ø<|Ŗ (Ϝ zN zD (Ã 3) (Ã 2)<|Ġ _) (ĩ pN) Ă)<|Ø (av Ķ rfl (Gq rfl gz (Bm<|Ĥ (Ã 0) Ë)<|Bm<|Ĥ (Ã 1) Ë) (kP rfl<|ě (ϩ S)<|ě (ϩ S) dB)<|ø<|Ŗ (PW.pt<|w_or (qP hu (å<|v_eq hu (Ã 2) ğ)<|å<|v_eq hu (Ã 3) ğ)<|pQ<|PW.pt<|w_and (qP hu (Ã 2) ğ)<|kq<|Ϝ zN zD (å<|qb yN yO gz xj<|Ý (Ã 3) ê) (å<|qb yN yO gz xj<|Ý (Ã 2) ê)<|Ġ _) (ĩ pN) Ă)<|ĩ pN) λx=>?_;refine aT Xb rfl (λS x hr hu=>Ø (av Ķ rfl (ū rfl gz<|Í (ϓ ō Ś gz İ<|Ý (ċ (Ã 2) Ë) ê) î) (ϩ S)<|ĕ S (ϱ<|Ĥ (ċ (Ã 0) Ë)<|Ã 3)<|ĕ S (ϱ<|Ĥ (ċ (Ã 1) Ë)<|Ã 3)<|ĕ S (ϱ<|oi ŕ bF bG bQ bL ğ<|Ý (å<|ò<|dX (ū rfl gz<|Í (ϓ ō Ś gz İ<|Ý (Ã 4) ê) î) ϒ Ħ<|FM (Ϝ uF (uE hu) ğ (å<|ò<|Ŏ<|Í (Ĥ (Ã 0)<|Ã 2)<|Í (Ĥ (Ã 1)<|Ã 2) î)<|by with_unfolding_all rfl) Ŋ<|Ĥ (Ã 0)<|Ã 2) ê)<|ø<|Ŗ (qP hu (ċ (ċ (Ã 2) Ë)<|Ã 3)<|Ã 6) (ĩ pN) Ă)<|ĩ pN) λx=>?_;refine stT Xc rfl (λS x hr hu=>ĕ S (ÿ hr<|Ó 0<|Ó 3<|Ó 4<|Ó 5 Ò)<|ĕ S (ÿ hr<|Õ (v_add (å<|ò<|Ŏ<|Í Ŋ î)<|Ã 2) Ò)<|Ø (uL (PW.pt<|Kr (oo nB (iY hu) (An 0 hr (pv 0)<|Í (v_var 7) î) ğ<|Ġ _)<|G2<|oo nB (iY hu) (An 1 hr (pv 1)<|Í (v_var 7) î) ğ<|Ġ _) (ĩ pN) Ă)<|ĕ S (ÿ hr<|Ó 0<|Ó 3<|Ó 4<|Ó 5 Ò)<|ĕ S (ÿ hr<|Ó 1<|Ó 3<|Ó 4<|Ó 5 Ò)<|Ø (uL (oo nB (iY hu) (An 1 hr (pv 1)<|Í Ŋ î) ğ<|Ġ _) (ĩ pN) Ă)<|ĩ<|v_and (ò<|ÿ hr<|Ó 6<|Ó 8 Ò)<|iI<|ò<|ÿ hr<|Ó 6<|Ó 9<|Ó 8 Ò) λx=>?_;refine stT Xd rfl (λS x hr hu=>Ø (uL (oo nB (iY hu) (An 0 hr (pv 0)<|Í (ò<|ÿ hr<|Õ (v_add (å<|ò<|Ŏ<|Í Ŋ î)<|Ã 1) Ò) î) ğ<|Ġ _) (ĩ pN) Ă)<|ĕ S (ÿ hr<|Ó 0<|Ó 3<|Ó 4<|Ó 5 Ò)<|Ø (uL (PW.pt<|Kr (oo nB (iY hu) (An 0 hr (pv 0)<|Í Ŋ î) ğ<|Ġ _)<|G2<|oo nB (iY hu) (An 0 hr (pv 0)<|Í (ò<|ÿ hr<|Õ (v_add (å<|ò<|Ŏ<|Í Ŋ î)<|Ã 2) Ò) î) ğ<|Ġ _) (ĩ pN) Ă)<|ĕ S (ÿ hr<|Ó 0<|Ó 3<|Ó 4<|Ó 5 Ò)<|ø<|Nk<|Nn (Nj FZ (AZ hu) (An 0 hr (pv 0)<|Í Ŋ î) ğ<|Ġ _)<|iI<|ò<|ÿ hr<|Ó 6<|Ó 7 Ò) λx=>?_;refine stL Xe rfl<|λS x hr hu=>ĕ S (ϱ<|ŝ<|Í (v_add Ë<|ş (å<|ò<|ÿ hr<|Ó 0<|Õ ī Ò) Ë)<|Í (v_add Ë<|ş (nE (å<|ò<|ÿ hr<|Ó 0<|Õ ī Ò) Ë) Ë) î)<|ĕ S (ÿ hr<|Ó 0<|Õ ī Ò)<|Ø (rT S (ū rfl gz<|Í (v_mod (Ã 2) Ë) î) ϒ Ħ<|ò<|ÿ hr<|Õ (v_add (å<|ò<|ÿ hr<|Ó 2<|Õ (v_add Ë<|Ã 3) Ò)<|Ã 0)<|Õ (Ĥ (Ã 1) Ë)<|Õ (Ĥ (Ã 1) Ë) Ò)<|ĕ S (ÿ hr<|Ó 0 Ò)<|ĕ S (ÿ hr<|Ó 0<|Õ ī Ò)<|ĕ S (ÿ hr<|Õ (ò<|Ŏ<|Í (v_mod (Ã 5)<|ċ (Ã 1) Ë)<|Í (v_mod (nE (Ã 5) Ë)<|ċ (Ã 1) Ë)<|Í (v_mod (nE (Ã 5) Ë)<|ċ (Ã 1) Ë)<|Í (v_mod (nE (Ã 5) Ë)<|ċ (Ã 1) Ë) î) Ò)<|QD S hr rfl (Õ (ò<|ÿ hr<|Õ (Ĥ (Ã 1) Ë)<|Õ (Ĥ (Ã 1) Ë)<|Ó 3<|Ó 4 Ò) Ò)<|QD S hr rfl (Õ (ò<|ÿ hr<|Õ (Ĥ (Ã 1) Ë)<|Õ (Ĥ (Ã 1) Ë)<|Õ (ò<|Ŏ î)<|Ó 4 Ò) Ò)<|ĕ S (ÿ hr<|Ó 7<|Ó 4<|Ó 1<|Ó 6 Ò)<|ĕ S (ϱ ī)<|Ø (av Ķ rfl (e_<|ò<|Ũ (Ã 0) (Œ ī)<|Œ ī) (ϩ S)<|ĕ S (ϱ<|ϓ yi yz gz sM<|Ý (Ã 11) ê)<|ĕ S (ÿ hr<|Õ (wl (Ã 2) Ë)<|Õ (Ĥ (Ã 1) Ë)<|Õ (Ĥ (Ã 1) Ë) Ò)<|ĕ S (ÿ hr<|Ó 3<|Õ (wl (Ã 2) Ë) Ò)<|Ø (Ŗ (PW.pt<|w_and (dP hu (ş (Ã 2) Ë) Ë)<|kq<|Ϝ zO CI (Ã 14) nD<|Ġ _) (ĕ S (ϱ<|v_var 14)<|ĕ S (ϱ<|Ĥ (å<|ò<|dX (ř 3) ϒ (yr<|dP hu (å<|ò<|Ũ (Ã 1) dC<|Œ<|lx cr cn Ë)<|å<|ò<|Ũ (Ã 0) dC<|Œ<|lx cr cn Ë)<|v_var 1) Ë)<|ø<|uL (PW.pt<|Nl (Ϝ iJ iF (ċ (Ã 15)<|å<|lx cr cn Ë) (ċ (Ã 14)<|å<|lx cr cn Ë)<|Ġ _)<|Jv<|G1<|G0<|WM 8 hr (pv 8)<|Í (v_var 15)<|Í (v_var 14)<|Í (v_var 4)<|Í (v_var 1)<|Í (v_var 6) î) (ĩ pN) Ă) Ă)<|Ø (uL (G1<|G0<|WN 7 8 hr (pv 7) (pv 8)<|Í (v_var 13)<|Í (v_var 4)<|Í (v_var 1)<|Í (v_var 6) î) (ĩ pN) Ă)<|ø<|El S<|lH (Ã 10) Ë)<|Ø (av Ķ rfl (ū rfl gz<|Í (v_var 10) î) (ϩ S)<|ø<|uL (oo nB (iY hu) (An 7 hr (pv 7)<|Í (v_add ğ<|å<|qb gj gk gz fQ<|Ý (å<|ϓ ō Ś gz İ<|Ý (Ã 3) ê) ê) î) ğ<|Ġ _) (ĩ pN) Ă)<|ĩ<|v_eq hu (å<|ò<|ÿ hr<|Ó 7<|Ó 4<|Ó 1<|Ó 6 Ò)<|Ã 9
end
@[simp high]theorem Z6C{a b:PV}:mY [a,b] 0=Α a:=rfl
@[simp high]theorem Z6D{a b:PV}:mY [a,b] 1=Α b:=rfl
@[simp high]theorem Z6E{a b c:PV}:mY [a,b,c] 0=Α a:=rfl
@[simp high]theorem Z6F{a b c:PV}:mY [a,b,c] 1=Α b:=rfl
@[simp high]theorem Z6G{a b c:PV}:mY [a,b,c] 2=Α c:=rfl
def pt(p:Hu.Pt):PV:=.tup [.int p.1,.int p.2]
def lc(l:Hu.Ln):PV:=.tup [.int l.1,.int l.2.1,.int l.2.2]
def Sm(p:Hu.Pt):Prop:=-100000000000000000<=p.1/\p.1<=100000000000000000/\ -100000000000000000<=p.2/\p.2<=100000000000000000
def JE(l:Hu.Ln):Prop:=-1000000000000000000<=l.1/\l.1<=1000000000000000000/\ -1000000000000000000<=l.2.1/\l.2.1<=1000000000000000000
def Z3n:ck (pt y) (pt x)=decide (y=x):=by obtain⟨a,b⟩:=x;obtain⟨c,d⟩:=y;unfold pt;rw[Mz,jI];simp
def Xf(x:Hu.Pt):Ų (pt x)=Δ:=by simp[pt,Ų,Ϩ]
def Z1T(x:Hu.Pt):oz (pt x)=1:=by simp[pt];rfl
def Z5C(S:List Hu.Pt):Ϩ (S.map pt)=Δ:=by
 induction S with
 |nil=>simp[Ϩ]|cons p S b=>simp[Ϩ,Xf,b]
theorem Z3o(x:Hu.Pt):∀k:List Hu.Pt,(k.map pt).any (λy=>ck y<|pt x)=decide (x∈k)
 |[]=>by simp|y::k=>by
  rw[â,ii,Z3o x k,Z3n,jI];simp;constructor
  ·rintro (e|e)
   ·exact .inl e.symm
   ·exact .inr e
  ·rintro (e|e)
   ·exact .inl e.symm
   ·exact .inr e
def Z1U(x:Hu.Pt)(k:List Hu.Pt):DN Δ (pt x) (.lst<|k.map pt)=Α (.bl<|!decide (x∈k)):=by unfold DN;simp only[Z5C,Z3o];rfl
def Xg(x y:Hu.Pt):ϕ (pt x) (pt y)=Α (.bl<|!decide (x=y)):=by unfold ϕ nu;rw[Xf,Xf,Z1T,Z1T,Z3n];rfl
def Z52(f:Sm a)(e:Sm b):dJ [.sh<|pt a,.sh<|pt b]=.ret (.sh<|lc<|Hu.Z8 a b):=by obtain⟨a1,a2,a3,a4⟩:=f;obtain⟨b1,b2,b3,b4⟩:=e;have d:Ŷ (b.2-a.2) a.1=Δ:=cy (by lia) (by lia);have c:Ŷ (a.1-b.1) a.2=Δ:=cy (by lia) (by lia);simp[dJ,kU,pt,lc,Hu.Z8,d,c]
def Z46(d:JE l)(p:Hu.Pt):nk [.sh<|lc l,.sh<|pt p]=.ret (.sh<|.bl<|Hu.hd l p):=by obtain⟨a1,a2,a3,a4⟩:=d;have c:Ŷ l.1 p.1=Δ:=cy (by lia) (by lia);have b:Ŷ l.2.1 p.2=Δ:=cy (by lia) (by lia);simp[nk,Ap,pt,lc,Hu.hd,c,b]
def Z2u(d:Sm a)(c:Sm b):JE (Hu.Z8 a b):=by obtain⟨a1,a2,a3,a4⟩:=d;obtain⟨b1,b2,b3,b4⟩:=c;simp only[JE,Hu.Z8];lia
def Sl(s:ŏ)(a:List PV):Prop:=s=.sh (.lst a)\/s=.bw a
def Sl.lend(h:Sl s ps):ϲ s=Α s:=by rcases h with rfl|rfl<;>rfl
def Sl.it(h:Sl s a){i:Nat}{ρ:ć}(e:ρ[i]?=Α s):ĸ i ρ=.ok a ρ:=by
 rcases h with rfl|rfl<;>simp[e]
def Z53{S:List Hu.Pt}(p:Sl sl (S.map pt))(q:S.length<=1000):iQ [sl]=.ret (.ow<|(Hu.Z9 S).map pt):=by
 have h:∀(a:List Hu.Pt) (k:List Hu.Pt) (s2:ŏ),k.length+a.length<=1000->∃g,Ŭ (gN 2) bT (a.map pt) [sl,.ow<|k.map pt,s2]=.ok .nx [sl,.ow<|(a.foldl (λk x=>if x∈k then k else k++[x]) k).map pt,g]:=by
  intro a
  induction a with
  |nil=>intro k s2 _;exact⟨s2,rfl⟩|cons x a m=>
   intro k s2 r;rw[Ė]at r;by_cases f:x∈k
   ·obtain⟨g,e⟩:=m k (.sh<|pt x) (by lia);have j:bT [sl,.ow<|k.map pt,.sh<|pt x]=.ok .nx [sl,.ow<|k.map pt,.sh<|pt x]:=by simp[bT,Z1U,f]
    rw[â,eI,if_pos f,Ŭ];simp[j,e]
   ·obtain⟨g,e⟩:=m (k++[x]) (.sh<|pt x) (by simp;lia);refine⟨g,?_⟩;have s:k.length<16777216:=by lia
    have j:bT [sl,.ow<|k.map pt,.sh<|pt x]=.ok .nx [sl,.ow<|(k++[x]).map pt,.sh<|pt x]:=by simp[bT,Z1U,f,s]
    rw[â,eI,if_neg f,Ŭ];simp only[F7,sA,sB,j];exact e
 obtain⟨s2,e⟩:=h S [] .no (by simpa using q);have o:=p.it (i:=0) (ρ:=[sl,.ow [],.no]) rfl;simp only[ſ]at e;simp[iQ,qo,-yA,o,e];rfl
def Z3p(x:Int)(l:List Int):v_ [.lst<|(x::l).map .int]=Α (.int<|Hu.mx (x::l)):=by show((fA<|(x::l).map .int).bind (zc max)).map PV.int=_;rw[oh];rfl
def Z3q(x:Int)(l:List Int):wa [.lst<|(x::l).map .int]=Α (.int<|Hu.mn (x::l)):=by show((fA<|(x::l).map .int).bind (zc min)).map PV.int=_;rw[oh];rfl
def Z5D{S:List Hu.Pt}(t:Sl sl (S.map pt))(u:S≠[])(hl:S.length<=1000):iP [sl]=.ret (.ow<|(Hu.box S).map lc):=by
 have e:ĝ (gN 0) Ę (Ê Þ (Â 0)<|Æ 0) (S.map pt) [.no] []=Α ((S.map (·.1)).map .int):=by
  have:=Đ (g:=gN 0) (mt:=Ę) (me:=Ê Þ (Â 0)<|Æ 0) pt (λp=>.int p.1) (λa=>∃s,a=[s]) S [.no] [] ⟨_,rfl⟩ (by simp;lia) (by
   rintro x r a ⟨s,rfl⟩;exact⟨[.sh<|pt x],[.sh<|pt x],[.sh<|pt x],by simp,by simp,by simp[pt],_,rfl⟩)
  rw[this];simp
 have d:ĝ (gN 0) Ę (Ê Þ (Â 0)<|Æ 1) (S.map pt) [.no] []=Α ((S.map (·.2)).map .int):=by
  have:=Đ (g:=gN 0) (mt:=Ę) (me:=Ê Þ (Â 0)<|Æ 1) pt (λp=>.int p.2) (λa=>∃s,a=[s]) S [.no] [] ⟨_,rfl⟩ (by simp;lia) (by
   rintro x r a ⟨s,rfl⟩;exact⟨[.sh<|pt x],[.sh<|pt x],[.sh<|pt x],by simp,by simp,by simp[pt],_,rfl⟩)
  rw[this];simp
 obtain⟨p,R,rfl⟩:=List.exists_cons_of_ne_nil u;have m:=Z3p p.1<|R.map (·.1);have l:=Z3q p.1<|R.map (·.1);have k:=Z3p p.2<|R.map (·.2);have j:=Z3q p.2<|R.map (·.2);have n:∀s1 s2,ĸ 0 [sl,s1,s2]=.ok ((p::R).map pt) [sl,s1,s2]:=λs1 s2=>t.it rfl;have b:(Hu.box (p::R)).map lc=[.tup [.int 1,.int 0,.int<|Hu.mx (p.1::R.map (·.1))],.tup [.int<|-1,.int 0,.int<|-Hu.mn (p.1::R.map (·.1))],.tup [.int 0,.int 1,.int<|Hu.mx (p.2::R.map (·.2))],.tup [.int 0,.int<|-1,.int<|-Hu.mn (p.2::R.map (·.2))]]:=rfl;rw[b];generalize (p::R).map pt=ps at n e d;rw[â]at e d;generalize (p.1::R.map (·.1)).map PV.int=us at e m l;generalize (p.2::R.map (·.2)).map PV.int=vs at d k j;simp[iP,qm,ý,-yA,-IL,-IM,n,e,d,m,l,k,j]
theorem Xh:∀l:List Bool,aX (l.map .bl)=Α l
 |[]=>rfl|x::l=>congrArg (Option.map (x::·)) (Xh l)
def Xi(l:List Bool):rS [.lst<|l.map .bl]=Α (.bl<|l.all id):=by show(aX<|l.map .bl).map (λbs=>PV.bl<|bs.all id)=_;rw[Xh];rfl
def Tn(S:List Hu.Pt):(Hu.Z9 S).length<=S.length:=by
 have:∀(a k:List Hu.Pt),(a.foldl (λk x=>if x∈k then k else k++[x]) k).length<=k.length+a.length:=by
  intro a
  induction a with
  |nil=>intro k;simp|cons x a d=>
   intro k;rw[eI];refine ţ (d _) ?_;split
   ·simp
   ·simp;lia
 have h:=this S [];rw[sC,Nat.zero_add]at h;exact h
def Z3r{S:List Hu.Pt}(i:∀p∈S,Sm p)(hl:S.length<=1000)(q:a∈S)(o:b∈S)(n s5:ŏ)(L:List Hu.Ln)(w:L.length<16777216):
 aF [n,.ow<|L.map lc,.sh<|.lst<|(Hu.Z9 S).map pt,.sh<|pt a,.sh<|pt b,s5]=.ok .nx [n,.ow<|(L++(if a≠b/\(Hu.Z9 S).all (Hu.hd<|Hu.Z8 a b)then[Hu.Z8 a b]else[])).map lc,.sh<|.lst<|(Hu.Z9 S).map pt,.sh<|pt a,.sh<|pt b,.sh<|lc<|Hu.Z8 a b]:=by
 have k:=Z2u (i a q)<|i b o;have m:ĝ (gN 1) Ę (Ñ<|ß nk<|Ì 0<|Ì 1 Ö) ((Hu.Z9 S).map pt) [.sh<|lc<|Hu.Z8 a b,.no] []=Α (((Hu.Z9 S).map (Hu.hd<|Hu.Z8 a b)).map .bl):=by
  have f:(Hu.Z9 S).length<=16777216:=by have:=Tn S;lia
  have:=Đ (g:=gN 1) (mt:=Ę) (me:=Ñ<|ß nk<|Ì 0<|Ì 1 Ö) pt (λp=>.bl<|Hu.hd (Hu.Z8 a b) p) (λc=>∃s,c=[.sh<|lc<|Hu.Z8 a b,s]) (Hu.Z9 S) [.sh<|lc<|Hu.Z8 a b,.no] [] ⟨_,rfl⟩ (by simpa using f) (by
   rintro x hx c ⟨s,rfl⟩;exact⟨[.sh<|lc<|Hu.Z8 a b,.sh<|pt x],[.sh<|lc<|Hu.Z8 a b,.sh<|pt x],[.sh<|lc<|Hu.Z8 a b,.sh<|pt x],by simp,by simp,by simp[Z46 k],_,rfl⟩)
  rw[this];simp
 have h:=Xi<|(Hu.Z9 S).map (Hu.hd<|Hu.Z8 a b);have l:=Z52 (i a q)<|i b o;have y:((Hu.Z9 S).map (Hu.hd<|Hu.Z8 a b)).all id=(Hu.Z9 S).all (Hu.hd<|Hu.Z8 a b):=by simp
 rw[y]at h;generalize ((Hu.Z9 S).map (Hu.hd<|Hu.Z8 a b)).map PV.bl=bs at m h;by_cases r:a=b
 ·subst r;simp[aF,l,Xg]
 ·by_cases j:(Hu.Z9 S).all (Hu.hd<|Hu.Z8 a b)=Δ
  ·rw[j]at h;simp[aF,l,Xg,r,m,h,j,w]
  ·rw[Bool.not_eq_true]at j;simp[aF,l,Xg,m,h,j,]
def Z47{S:List Hu.Pt}(u:∀p∈S,Sm p)(r:S.length<=1000)(t:a∈S)(j:ŏ):∀(xs:List Hu.Pt) (L:List Hu.Ln) (s4 s5:ŏ),(∀x∈xs,x∈S)->L.length+xs.length<16777216->
 ∃l k,Ŭ (gN 4) aF (xs.map pt) [j,.ow<|L.map lc,.sh<|.lst<|(Hu.Z9 S).map pt,.sh<|pt a,s4,s5]=.ok .nx [j,.ow<|(L++xs.filterMap λb=>if a≠b/\(Hu.Z9 S).all (Hu.hd<|Hu.Z8 a b)then Α (Hu.Z8 a b)else Β).map lc,.sh<|.lst<|(Hu.Z9 S).map pt,.sh<|pt a,l,k]:=by
 intro xs
 induction xs with
 |nil=>intro L s4 s5 _ _;exact⟨s4,s5,by simp[Ŭ]⟩|cons b xs q=>
  intro L s4 s5 m v;rw[Ė]at v;have s:=Z3r u r t (m b<|by simp) j s5 L (by lia);obtain⟨l,k,e⟩:=q (L++(if a≠b/\(Hu.Z9 S).all (Hu.hd<|Hu.Z8 a b)then[Hu.Z8 a b]else[])) (.sh<|pt b) (.sh<|lc<|Hu.Z8 a b) (λx h=>m x<|ð _ h) (by
   split
   ·simp;lia
   ·simp;lia)
  refine⟨l,k,?_⟩;rw[â,Ŭ];simp only[F7,sA,sB,s,Ĳ.bM];rw[e,sj];by_cases i:a≠b/\(Hu.Z9 S).all (Hu.hd<|Hu.Z8 a b)=Δ
  ·rw[if_pos i,if_pos i];simp only[my,c_,ϊ]
  ·rw[if_neg i,if_neg i];simp only[cZ]
def Z0y{a b:Type}(f:a->Option b)(l:List a):(l.filterMap f).length<=l.length:=List.length_filterMap_le ..
def Z48{S:List Hu.Pt}(s:∀p∈S,Sm p)(q:S.length<=1000)(e:ŏ):∀(xs:List Hu.Pt) (L:List Hu.Ln) (s3 s4 s5:ŏ),(∀x∈xs,x∈S)->L.length+xs.length*1000<10000000->
 ∃g j i,Ŭ (gN 3) eV (xs.map pt) [e,.ow<|L.map lc,.sh<|.lst<|(Hu.Z9 S).map pt,s3,s4,s5]=.ok .nx [e,.ow<|(L++xs.flatMap λa=>(Hu.Z9 S).filterMap λb=>if a≠b/\(Hu.Z9 S).all (Hu.hd<|Hu.Z8 a b)then Α (Hu.Z8 a b)else Β).map lc,.sh<|.lst<|(Hu.Z9 S).map pt,g,j,i]:=by
 intro xs
 induction xs with
 |nil=>intro L s3 s4 s5 _ _;exact⟨s3,s4,s5,by simp[Ŭ]⟩|cons a xs o=>
  intro L s3 s4 s5 k t;rw[Ė]at t;have ho:=Tn S;obtain⟨m,l,v⟩:=Z47 s q (k a<|by simp) e (Hu.Z9 S) L s4 s5 (λx h=>Hu.Zw.mp h) (by lia);have hf:=Z0y (λb=>if a≠b/\(Hu.Z9 S).all (Hu.hd<|Hu.Z8 a b)=Δ then Α (Hu.Z8 a b)else Β)<|Hu.Z9 S;obtain⟨g,j,i,u⟩:=o (L++(Hu.Z9 S).filterMap λb=>if a≠b/\(Hu.Z9 S).all (Hu.hd<|Hu.Z8 a b)=Δ then Α (Hu.Z8 a b)else Β) (.sh<|pt a) m l (λx h=>k x<|ð _ h) (by rw[ŭ];lia);refine⟨g,j,i,?_⟩;have r:eV [e,.ow<|L.map lc,.sh<|.lst<|(Hu.Z9 S).map pt,.sh<|pt a,s4,s5]=.ok .nx [e,.ow<|(L++(Hu.Z9 S).filterMap λb=>if a≠b/\(Hu.Z9 S).all (Hu.hd<|Hu.Z8 a b)=Δ then Α (Hu.Z8 a b)else Β).map lc,.sh<|.lst<|(Hu.Z9 S).map pt,.sh<|pt a,m,l]:=by exact v
  rw[â,Ŭ];simp only[F7,sA,sB,r,Ĳ.bM];rw[u,mB,my]
def Z49{S:List Hu.Pt}(d:Sl sl (S.map pt))(m:∀p∈S,Sm p)(f:S.length<=1000):gx [sl]=.ret (.ow<|(Hu.Kt S).map lc):=by have g:=Z53 d f;have ho:=Tn S;obtain⟨s3,s4,s5,e⟩:=Z48 m f sl (Hu.Z9 S) [] .no .no .no (λx h=>Hu.Zw.mp h) (by simp;lia);have l:[]++((Hu.Z9 S).flatMap λa=>(Hu.Z9 S).filterMap λb=>if a≠b/\(Hu.Z9 S).all (Hu.hd<|Hu.Z8 a b)=Δ then Α (Hu.Z8 a b)else Β)=Hu.Kt S:=rfl;rw[l]at e;simp only[ſ]at e;simp[gx,nM,d.lend,g,e]
def Z3s(S:List Hu.Pt)(hl:S.length<=1000):(Hu.Kt S).length<=1000000:=by
 have ho:=Tn S;have:∀(a:List Hu.Pt) (f:Hu.Pt->List Hu.Ln),(∀x,(f x).length<=1000)->(a.flatMap f).length<=a.length*1000:=by
  intro a f d
  induction a with
  |nil=>simp|cons x a ih=>rw[mB,ŭ,Ė];have:=d x;lia
 refine ţ (this (Hu.Z9 S) _ λx=>ţ (Z0y _ _)<|by lia) (by lia)
def Z4a{S:List Hu.Pt}(b:Sl sl (S.map pt))(d:∀p∈S,Sm p)(h:S≠[])(c:S.length<=1000):eW [sl]=.ret (.ow<|(Hu.ZM S).map lc):=by
 have g:=Z5D b h c;have f:=Z49 b d c;have e:é (.lst<|(Hu.box S).map lc) (.lst<|(Hu.Kt S).map lc)=Α (.ow<|(Hu.ZM S).map lc):=by rw[l_ (by have:=Z3s S c;simp[Hu.box];lia),<-š];rfl
 simp[eW,lO,b.lend,g,f,e]
def Z5E{S:List Hu.Pt}(h:l∈Hu.ZM S)(f:∀p∈S,Sm p):JE l:=by
 rcases Ŵ.mp h with h|h
 ·unfold Hu.box at h;simp only[ù,jM,or_false]at h;rcases h with e|e|e|e<;>subst e<;>simp only[JE]<;>lia
 ·obtain⟨a,i,b,g,_,_,rfl⟩:=Hu.ZT.mp h;exact Z2u (f a i)<|f b g
def Z2T(n:Nat):lB 0 n 1=(ú n).map λ(i:Nat)=>PV.int (i:Int):=by unfold lB;simp
def ZI{n:Nat}(h:n<=1000):aR [.int (n:Int)]=Α ((ú n).map λ(i:Nat)=>PV.int (i:Int)):=by
 have a:ul n=Δ:=by unfold ul;lia
 unfold aR;simp[a,Z2T]
def To(s:ŏ)(a:List PV):Prop:=s=.sh (.lst a)\/s=.bw a
def nv(x:Int):Bool:=decide<|-1000000000<=x/\x<=1000000000
def zg(x:Int):Bool:=decide<|1<=x/\x<=1000000000
def JF(x:Int):Bool:=decide<|0<=x/\x<=1000000000
def Zx(h:nv x=Δ):bi [.sh<|.int x]=.ret (.sh<|.bl Δ):=by simp[nv]at h;simp[bi,rD,h]
def Z1w(h:zg x=Δ):fc [.sh<|.int x]=.ret (.sh<|.bl Δ):=by simp[zg]at h;simp[fc,qj,h]
def ZF:List Int->Bool
 |[p,q,h]=>nv p&&nv q&&zg h|_=>Ε
def Zr:List Int->Bool
 |[x,y,u,v,h]=>nv x&&nv y&&nv u&&nv v&&zg h|_=>Ε
def Zp:List Int->Bool
 |[x,y,u,v,h]=>Zr [x,y,u,v,h]&&!(decide (x=u)&&decide (y=v))|_=>Ε
def Zt:List Int->Bool
 |[x,y,u,v,h]=>Zr [x,y,u,v,h]&&decide (x<u)&&decide (y<v)|_=>Ε
def Zy:List Int->Bool
 |[a,b,c,d,e,f,g,h,i]=>nv a&&nv b&&JF c&&(nv d&&nv e&&JF f)&&(nv g&&nv h&&JF i)|_=>Ε
def QL(h:ZF xs=Δ):∃a b c,xs=[a,b,c]:=by rcases xs with _|⟨a,_|⟨b,_|⟨c,_|_⟩⟩⟩<;>first|exact⟨_,_,_,rfl⟩|cases h
def QM(h:Zp xs=Δ):∃a b c d e,xs=[a,b,c,d,e]:=by rcases xs with _|⟨a,_|⟨b,_|⟨c,_|⟨d,_|⟨e,_|_⟩⟩⟩⟩⟩<;>first|exact⟨_,_,_,_,_,rfl⟩|cases h
def Ny(h:Zt xs=Δ):∃a b c d e,xs=[a,b,c,d,e]:=by rcases xs with _|⟨a,_|⟨b,_|⟨c,_|⟨d,_|⟨e,_|_⟩⟩⟩⟩⟩<;>first|exact⟨_,_,_,_,_,rfl⟩|cases h
def Tp(h:Zy xs=Δ):∃a b c d e f g i j,xs=[a,b,c,d,e,f,g,i,j]:=by rcases xs with _|⟨a,_|⟨b,_|⟨c,_|⟨d,_|⟨e,_|⟨f,_|⟨g,_|⟨i,_|⟨j,_|_⟩⟩⟩⟩⟩⟩⟩⟩⟩<;>first|exact⟨_,_,_,_,_,_,_,_,_,rfl⟩|cases h
section
variable{xs:List Int}{sl:ŏ}(hs:To sl (xs.map .int))
include hs
def Z6h(h:To sl ps):ϲ sl=Α sl:=by rcases h with rfl|rfl<;>rfl
def Z1G(h:ZF xs=Δ):gu [sl]=.ret (.sh<|.bl Δ):=by obtain⟨a,b,c,rfl⟩:=QL h;simp only[ZF,þ]at h;rcases hs with rfl|rfl<;>simp[gu,nJ,Zx h.1.1,Zx h.1.2,Z1w h.2]
def Z2v(h:Zr xs=Δ):bj [sl]=.ret (.sh<|.bl Δ):=by
 obtain⟨a,b,c,d,e,rfl⟩:∃a b c d e,xs=[a,b,c,d,e]:=by rcases xs with _|⟨a,_|⟨b,_|⟨c,_|⟨d,_|⟨e,_|_⟩⟩⟩⟩⟩<;>first|exact⟨_,_,_,_,_,rfl⟩|cases h
 simp only[Zr,þ]at h;obtain⟨⟨⟨⟨m,l⟩,k⟩,j⟩,i⟩:=h;have f:cx ([.int a,.int b,.int c,.int d,.int e]:List PV) Β (Α 4)=[.int a,.int b,.int c,.int d]:=rfl;have g:rS [.lst [.bl Δ,.bl Δ,.bl Δ,.bl Δ]]=Α (.bl Δ):=rfl;rcases hs with rfl|rfl<;>simp[bj,kT,Zx m,Zx l,Zx k,Zx j,Z1w i,f,ĝ,g]
def Z4b(h:Zp xs=Δ):eS [sl]=.ret (.sh<|.bl Δ):=by
 obtain⟨a,b,c,d,e,rfl⟩:=QM h;simp only[Zp,þ]at h;have f:=Z2v hs h.1;have j:cx ([.int a,.int b,.int c,.int d,.int e]:List PV) Β (Α 2)=[.int a,.int b]:=rfl;have i:cx ([.int a,.int b,.int c,.int d,.int e]:List PV) (Α 2) (Α 4)=[.int c,.int d]:=rfl;have g:ϕ (.lst [.int a,.int b]) (.lst [.int c,.int d])=Α (.bl Δ):=by
  have q:ck (.lst [.int a,.int b]) (.lst [.int c,.int d])=Ε:=by have:=h.2;simp[ck,hV]at this⊢;lia
  unfold ϕ nu;rw[q];simp[Ų,Ϩ,oz,jj]
 rcases hs with rfl|rfl<;>simp only[â,ſ]at f<;>simp[eS,lM,f,j,i,g]
def Z2w(h:Zt xs=Δ):Ř [sl]=.ret (.sh<|.bl Δ):=by obtain⟨a,b,c,d,e,rfl⟩:=Ny h;simp only[Zt,þ]at h;have f:=Z2v hs h.1.1;rcases hs with rfl|rfl<;>simp only[â,ſ]at f<;>simp[Ř,dI,f,h.1.2,h.2]
def Z4c(h:Zy xs=Δ):eU [sl]=.ret (.sh<|.bl Δ):=by
 have j:∀{a b c:Int},(nv a=Δ/\nv b=Δ)/\JF c=Δ->aU [.sh<|.lst [.int a,.int b,.int c]]=.ret (.sh<|.bl Δ):=λh=>by have:=h.2;simp[JF]at this;simp[aU,gM,Zx h.1.1,Zx h.1.2,this]
 obtain⟨a,b,c,d,e,f,g,p,i,rfl⟩:=Tp h;simp only[Zy,þ]at h;have o:cx ([.int a,.int b,.int c,.int d,.int e,.int f,.int g,.int p,.int i]:List PV) (Α 0) (Α 3)=[.int a,.int b,.int c]:=rfl;have n:cx ([.int a,.int b,.int c,.int d,.int e,.int f,.int g,.int p,.int i]:List PV) (Α 3) (Α 6)=[.int d,.int e,.int f]:=rfl;have m:cx ([.int a,.int b,.int c,.int d,.int e,.int f,.int g,.int p,.int i]:List PV) (Α 6) (Α 9)=[.int g,.int p,.int i]:=rfl;have l:rS [.lst [.bl Δ,.bl Δ,.bl Δ]]=Α (.bl Δ):=rfl;rcases hs with rfl|rfl<;>simp[eU,lN,ý,ĝ,o,n,m,j h.1.1,j h.1.2,j h.2,l]
end
def Ze(w:Str):String:=if w="post"then "Post"else if w="fence"then "Fence"else if w="sail"then "Sail"else if w="cloth"then "Cloth"else "House"
def Zc(C:String)(w:Str)(xs:List Int):PV:=.ins C ["word","numbers"] [.str w,.lst<|xs.map .int]
def Z1(w:Str)(xs:List Int):Bool:=if w="post"then ZF xs else if w="fence"then Zp xs else if w="sail"then Zt xs else if w="cloth"then Zy xs else if w="house"then Zt xs else Ε
def ZB(h:Z1 w xs=Δ):(w="post"/\ZF xs=Δ)\/(w="fence"/\Zp xs=Δ)\/(w="sail"/\Zt xs=Δ)\/(w="cloth"/\Zy xs=Δ)\/(w="house"/\Zt xs=Δ):=by
 unfold Z1 at h
 repeat' split at h
 all_goals simp_all
def wn:((È "word")=(È "numbers"))=False:=eq_false (by decide+kernel)
def QN(b:(["Thing","Post","Fence","Sail","Cloth","House"]:List String).contains C=Δ)(w:Str){xs:List Int}(a:To sl (xs.map .int)):fG 3 3 C ľ [.sh<|.str w,sl]=.ok ["word","numbers"] [.str w,.lst<|xs.map .int]:=by rcases a with rfl|rfl<;>simp[ľ,putN,vq,b,wn,-List.contains_eq_mem,-wS]
def s1:ė (È "post")=Δ:=by decide+kernel
def s2:ė (È "fence")=Δ:=by decide+kernel
def s3:ė (È "sail")=Δ:=by decide+kernel
def s4:ė (È "cloth")=Δ:=by decide+kernel
def s5:ė (È "house")=Δ:=by decide+kernel
def d12:(È "post"=È "fence")=False:=eq_false (by decide+kernel)
def d13:(È "post"=È "sail")=False:=eq_false (by decide+kernel)
def d14:(È "post"=È "cloth")=False:=eq_false (by decide+kernel)
def d15:(È "post"=È "house")=False:=eq_false (by decide+kernel)
def W0:(È "fence"=È "post")=False:=eq_false (by decide+kernel)
def d23:(È "fence"=È "sail")=False:=eq_false (by decide+kernel)
def d24:(È "fence"=È "cloth")=False:=eq_false (by decide+kernel)
def d25:(È "fence"=È "house")=False:=eq_false (by decide+kernel)
def S0:(È "sail"=È "post")=False:=eq_false (by decide+kernel)
def W3:(È "sail"=È "fence")=False:=eq_false (by decide+kernel)
def d34:(È "sail"=È "cloth")=False:=eq_false (by decide+kernel)
def d35:(È "sail"=È "house")=False:=eq_false (by decide+kernel)
def W4:(È "cloth"=È "post")=False:=eq_false (by decide+kernel)
def W5:(È "cloth"=È "fence")=False:=eq_false (by decide+kernel)
def W6:(È "cloth"=È "sail")=False:=eq_false (by decide+kernel)
def d45:(È "cloth"=È "house")=False:=eq_false (by decide+kernel)
def W7:(È "house"=È "post")=False:=eq_false (by decide+kernel)
def W8:(È "house"=È "fence")=False:=eq_false (by decide+kernel)
def W9:(È "house"=È "sail")=False:=eq_false (by decide+kernel)
def Xa:(È "house"=È "cloth")=False:=eq_false (by decide+kernel)
def cO:Ze "post"="Post"/\Ze "fence"="Fence"/\Ze "sail"="Sail"/\Ze "cloth"="Cloth"/\Ze "house"="House":=by decide+kernel
def Z1W(c:Z1 w xs=Δ)(a:To sl (xs.map .int)):Ϥ [.sh<|.str w,sl]=.ret (.sh<|Zc (Ze w) w xs):=by
 have b:=Z6h a a;rcases ZB c with⟨rfl,h⟩|⟨rfl,h⟩|⟨rfl,h⟩|⟨rfl,h⟩|⟨rfl,h⟩
 ·have i:yS [.sh<|.str "post",sl]=_:=QN (by decide) _ a;simp[Ϥ,cU,fH,ŗ,s1,b,Z1G a h,i,cO,Zc]
 ·have i:uR [.sh<|.str "fence",sl]=_:=QN (by decide) _ a;simp[Ϥ,cU,fH,ŗ,s1,s2,W0,b,Z4b a h,i,cO,Zc]
 ·have i:yU [.sh<|.str "sail",sl]=_:=QN (by decide) _ a;simp[Ϥ,cU,fH,ŗ,s1,s2,s3,S0,W3,b,Z2w a h,i,cO,Zc]
 ·have i:uS [.sh<|.str "cloth",sl]=_:=QN (by decide) _ a;simp[Ϥ,cU,fH,ŗ,s1,s2,s3,s4,W4,W5,W6,b,Z4c a h,i,cO,Zc]
 ·have i:uT [.sh<|.str "house",sl]=_:=QN (by decide) _ a;simp[Ϥ,cU,fH,ŗ,s1,s2,s3,s4,s5,W7,W8,W9,Xa,b,Z2w a h,i,cO,Zc]
abbrev P3:=Int×Int×Int
def c3(p:P3):PV:=.tup [.int p.1,.int p.2.1,.int p.2.2]
def Zv(x y u v z:Int):List P3:=[(x,y,z),(u,y,z),(u,v,z),(x,v,z)]
def ZV(x y u v h:Int):List P3:=Zv x y u v 0++Zv x y u v h
def Z6(C:String)(xs:List Int):List P3:=
 if C="Post"then(match xs with
  |[p,q,h]=>ZV (2*p-1) (2*q-1) (2*p+1) (2*q+1) h|_=>[])
 else if C="Fence"then(match xs with
  |[x,y,u,v,h]=>[(x,y,0),(u,v,0),(u,v,h),(x,y,h)]|_=>[])
 else if C="Sail"then(match xs with
  |[x,y,u,v,h]=>Zv x y u v h|_=>[])
 else if C="Cloth"then(match xs with
  |[a,b,c,d,e,f,g,h,i]=>[(a,b,c),(d,e,f),(g,h,i)]|_=>[])
 else(match xs with
  |[x,y,u,v,h]=>ZV x y u v h|_=>[])
def Zz(w:Str)(xs:List Int):List P3:=Z6 (Ze w) xs
def Og(c:(["Thing","Post","Fence","Sail","Cloth","House"]:List String).contains C=Δ)(w:Str)(xs:List Int):ħ ["Thing","Post","Fence","Sail","Cloth","House"] (È "numbers") (Zc C w xs)=Α (.lst<|xs.map .int):=by
 unfold ħ Zc;dsimp only;rw[if_pos c];have:(È "numbers"==È "word")=Ε:=by decide+kernel
 show eG _ [(_,_),(_,_)]=_;rw[Š,this];simp
def Z1X(x y u v z:Int):ϗ [.sh<|.int x,.sh<|.int y,.sh<|.int u,.sh<|.int v,.sh<|.int z]=.ret (.ow<|(Zv x y u v z).map c3):=by simp[jv,Zv,c3];rfl
def Z1Y(x y u v h:Int):az [.sh<|.int x,.sh<|.int y,.sh<|.int u,.sh<|.int v,.sh<|.int h]=.ret (.ow<|(ZV x y u v h).map c3):=by simp[jw,Z1X,ZV,Zv,l_];rfl
section
variable{xs:List Int}(w:Str)
def Z5F(h:ZF xs=Δ):bo [.sh<|Zc "Post" w xs]=.ret (.ow<|(Z6 "Post" xs).map c3):=by obtain⟨p,q,z,rfl⟩:=QL h;unfold Z6;simp[Og (C:="Post") (by decide),Z1Y];rfl
def Z54(h:Zp xs=Δ):aA [.sh<|Zc "Fence" w xs]=.ret (.ow<|(Z6 "Fence" xs).map c3):=by obtain⟨x,y,u,v,z,rfl⟩:=QM h;unfold Z6;simp[Og (C:="Fence") (by decide),c3];rfl
def Z5G(h:Zt xs=Δ):bp [.sh<|Zc "Sail" w xs]=.ret (.ow<|(Z6 "Sail" xs).map c3):=by obtain⟨x,y,u,v,z,rfl⟩:=Ny h;unfold Z6;simp[Og (C:="Sail") (by decide),Z1X];rfl
def Z55(h:Zt xs=Δ):aC [.sh<|Zc "House" w xs]=.ret (.ow<|(Z6 "House" xs).map c3):=by obtain⟨x,y,u,v,z,rfl⟩:=Ny h;unfold Z6;simp[Og (C:="House") (by decide),Z1Y];rfl
def Z56(h:Zy xs=Δ):aB [.sh<|Zc "Cloth" w xs]=.ret (.ow<|(Z6 "Cloth" xs).map c3):=by obtain⟨a,b,c,d,e,f,g,i,j,rfl⟩:=Tp h;unfold Z6;simp[aB,jz,Og (C:="Cloth") (by decide),ĝ];exact⟨rfl,rfl,rfl⟩
end
def vD(r p:P3):Hu.Pt:=(r.2.2*p.1+r.1*p.2.2,r.2.2*p.2.1+r.2.1*p.2.2)
def RB(r:P3):Prop:=-1000000<=r.1/\r.1<=1000000/\ -1000000<=r.2.1/\r.2.1<=1000000/\ -1000000<=r.2.2/\r.2.2<=1000000
def PB(p:P3):Prop:=-10000000000<=p.1/\p.1<=10000000000/\ -10000000000<=p.2.1/\p.2.1<=10000000000/\ -10000000000<=p.2.2/\p.2.2<=10000000000
def Z57(e:RB r)(p:P3):qU [.sh<|c3 p,.sh<|c3 r]=.ret (.sh<|pt<|vD r p):=by obtain⟨a1,a2,a3,a4,a5,a6⟩:=e;have d:Ŷ r.2.2 p.1=Δ:=cy (by lia) (by lia);have c:Ŷ r.2.2 p.2.1=Δ:=cy (by lia) (by lia);have b:Ŷ r.1 p.2.2=Δ:=cy (by lia) (by lia);have a:Ŷ r.2.1 p.2.2=Δ:=cy (by lia) (by lia);simp[qU,DG,pt,c3,vD,d,c,b,a]
def QO(h1: -A<=x)(h2:x<=A)(h3: -B<=y)(h4:y<=B): -(A*B)<=x*y/\x*y<=A*B:=by
 have b:0<=A:=by lia
 have a:0<=B:=by lia
 have e:(x*y).natAbs<=A.natAbs*B.natAbs:=by rw[Int.natAbs_mul];exact fN (by lia) (by lia)
 have e2:=Int.natAbs_mul A B;lia
def Z5H(e:RB r)(f:PB p):Sm (vD r p):=by obtain⟨n,m,l,k,d,c⟩:=e;obtain⟨j,i,h,g,b,a⟩:=f;have q1:=QO d c j i;have q2:=QO d c h g;have q3:=QO n m b a;have q4:=QO l k b a;simp only[Sm,vD];lia
noncomputable abbrev tbC:List (String×MF):=[("Post",bo),("Fence",aA),("Sail",bp),("Cloth",aB),("House",aC)]
def Z3t(i:Z1 w xs=Δ)(e:mo ρ=.ok (Zc (Ze w) w xs) ρ1):nC (È "corners") tbC mo Ö ρ=.ok (.ow<|(Zz w xs).map c3) ρ1:=by
 have f:(["word","numbers"]:List Str).contains (È "corners")=Ε:=by decide+kernel
 suffices ∃d,eG (Ze w) tbC=Α d/\d [.sh<|Zc (Ze w) w xs]=.ret (.ow<|(Z6 (Ze w) xs).map c3) by
  obtain⟨d,g,j⟩:=this;unfold Zz nC;rw[e];unfold Zc at*;dsimp only[Ĳ.bind];rw[g];dsimp only;rw[if_neg (by decide)];simp only[Ö];rw[j]
 obtain⟨n,m,c3,l,k⟩:=cO;rcases ZB i with⟨rfl,h⟩|⟨rfl,h⟩|⟨rfl,h⟩|⟨rfl,h⟩|⟨rfl,h⟩
 ·rw[n];exact⟨_,rfl,Z5F _ h⟩
 ·rw[m];exact⟨_,rfl,Z54 _ h⟩
 ·rw[c3];exact⟨_,rfl,Z5G _ h⟩
 ·rw[l];exact⟨_,rfl,Z56 _ h⟩
 ·rw[k];exact⟨_,rfl,Z55 _ h⟩
def Z2U(d:RB r){L:List P3}(hl:L.length<=100)(s1:ŏ):ĝ (gN 1) Ę (Ñ<|ß qU<|Ì 1<|Ì 0 Ö) (L.map c3) [.sh<|c3 r,s1] []=Α ((L.map<|vD r).map pt):=by
 have:=Đ (g:=gN 1) (mt:=Ę) (me:=Ñ<|ß qU<|Ì 1<|Ì 0 Ö) c3 (λp=>pt<|vD r p) (λa=>∃s,a=[.sh<|c3 r,s]) L [.sh<|c3 r,s1] [] ⟨_,rfl⟩ (by simp;lia) (by
  rintro p hp a ⟨s,rfl⟩;have e:=Z57 d p;generalize c3 r=R,c3 p=Q at*;exact⟨[R|> .sh,.sh Q],[.sh R,.sh Q],[.sh R,.sh Q],by simp,by simp,by simp[e],_,rfl⟩)
 rw[this];simp
def Z4d(d:Z1 w xs=Δ)(c:(Zz w xs).length<=100)(b:RB r):bq [.sh<|Zc (Ze w) w xs,.sh<|c3 r]=.ret (.ow<|((Zz w xs).map (vD r)).map pt):=by have f:=Z3t d (mo:=í 0) (ρ:=[.sh<|Zc (Ze w) w xs,.sh<|c3 r]) (ρ1:=[.sh<|Zc (Ze w) w xs,.sh<|c3 r]) (by simp);have e:=Z2U b c;simp[bq,kY,f,e,-IN]
def Oh(s:Hu.Pt):P3:=(2*s.1,2*s.2,0)
def bd(x:Int):Prop:=-10000000000<=x/\x<=10000000000
def YU:bd 0:=⟨by decide,by decide⟩
def G6(a:bd x)(b:bd y)(c:bd z):PB (x,y,z):=⟨a.1,a.2,b.1,b.2,c.1,c.2⟩
def Xj(a:bd x)(b:bd y)(c:bd u)(d:bd v)(e:bd z):∀p∈Zv x y u v z,PB p:=by simp[Zv,G6 a b e,G6 c b e,G6 c d e,G6 a d e]
def blB(a:bd x)(b:bd y)(c:bd u)(d:bd v)(e:bd z):∀p∈ZV x y u v z,PB p:=λp h=>(Ŵ.mp h).elim (Xj a b c d YU p) (Xj a b c d e p)
def Z1Z(A:Z1 w xs=Δ):(Zz w xs).length<=8/\Zz w xs≠[]/\∀p∈Zz w xs,PB p:=by
 have k:∀{x},nv x=Δ->bd x:=λh=>by simp[nv]at h;exact⟨by lia,by lia⟩
 have v:∀{x},JF x=Δ->bd x:=λh=>by simp[JF]at h;exact⟨by lia,by lia⟩
 have u:∀{x},zg x=Δ->bd x:=λh=>by simp[zg]at h;exact⟨by lia,by lia⟩
 have z:ZF xs=Δ->(Z6 "Post" xs).length<=8/\Z6 "Post" xs≠[]/\∀p∈Z6 "Post" xs,PB p:=λh=>by obtain⟨a,b,c,rfl⟩:=QL h;simp only[ZF,nv,þ,decide_eq_true_eq]at h;exact⟨by simp[Z6,ZV,Zv],by simp[Z6,ZV,Zv],by dsimp only[Z6,if_true];exact blB ⟨by lia,by lia⟩ ⟨by lia,by lia⟩ ⟨by omega,by omega⟩ ⟨by lia,by omega⟩<|u h.2⟩
 have B:Zp xs=Δ->(Z6 "Fence" xs).length<=8/\Z6 "Fence" xs≠[]/\∀p∈Z6 "Fence" xs,PB p:=λh=>by obtain⟨a,b,c,d,e,rfl⟩:=QM h;simp only[Zp,Zr,þ]at h;refine BL λZ=>?_;obtain⟨⟨⟨⟨⟨s,r⟩,q⟩,o⟩,n⟩,-⟩:=h;refine Z ?_;exact⟨by simp[Z6],by simp[Z6],by simp[Z6];exact⟨G6 (k s) (k r) YU,G6 (k q) (k o) YU,G6 (k q) (k o)<|u n,G6 (k s) (k r)<|u n⟩⟩
 have y:Zt xs=Δ->(∀C,C="Sail" \/C="House" ->(Z6 C xs).length<=8/\Z6 C xs≠[]/\∀p∈Z6 C xs,PB p):=λh C E=>by
  obtain⟨a,b,c,d,e,rfl⟩:=Ny h;simp only[Zt,Zr,þ]at h;obtain⟨⟨⟨⟨⟨⟨s,r⟩,q⟩,o⟩,n⟩,-⟩,-⟩:=h;rcases E with rfl|rfl
  ·exact⟨by simp[Z6,Zv],by simp[Z6,Zv],by simp[Z6];simpa using Xj (k s) (k r) (k q) (k o) (u n)⟩
  ·exact⟨by simp[Z6,ZV,Zv],by simp[Z6,ZV,Zv],by simp[Z6];simpa using blB (k s) (k r) (k q) (k o) (u n)⟩
 have D:Zy xs=Δ->(Z6 "Cloth" xs).length<=8/\Z6 "Cloth" xs≠[]/\∀p∈Z6 "Cloth" xs,PB p:=λh=>by obtain⟨a,b,c,d,e,f,g,i,j,rfl⟩:=Tp h;simp only[Zy,þ]at h;refine BL λZ=>?_;obtain⟨⟨⟨⟨s,r⟩,q⟩,⟨o,n⟩,J⟩,⟨I,H⟩,G⟩:=h;refine Z ?_;exact⟨by simp[Z6],by simp[Z6],by simp[Z6];exact⟨G6 (k s) (k r)<|v q,G6 (k o) (k n)<|v J,G6 (k I) (k H)<|v G⟩⟩
 unfold Zz;obtain⟨O,N,c3,L,K⟩:=cO;rcases ZB A with⟨rfl,h⟩|⟨rfl,h⟩|⟨rfl,h⟩|⟨rfl,h⟩|⟨rfl,h⟩
 ·rw[O];exact z h
 ·rw[N];exact B h
 ·rw[c3];exact y h _<|.inl rfl
 ·rw[L];exact D h
 ·rw[K];exact y h _<|.inr rfl
def Hul(S:List Hu.Pt)(p:Hu.Pt):Prop:=∀l m n:Int,(∀s∈S,l*s.1+m*s.2<=n)->l*p.1+m*p.2<=n
theorem Z2x(S:List Hu.Pt)(l m n W:Int):∀(z:List (Int×Nat)),(∀a∈z,0<=a.1*W/\l*(Hu.at_ S a.2).1+m*(Hu.at_ S a.2).2<=n)->W*(l*(z.map λa=>a.1*(Hu.at_ S a.2).1).sum+m*(z.map λa=>a.1*(Hu.at_ S a.2).2).sum)<=W*(z.map (·.1)).sum*n
 |[],_=>by simp|a::z,h=>by
  have ih:=Z2x S l m n W z λb i=>h b<|ð _ i;obtain⟨k,j⟩:=h a (by simp);rw[â,sD,â,sD,â,sD];have:=si j k;
  lia
def Z58{S:List Hu.Pt}(r:S≠[]):Hu.part S p=Β↔Hul S p:=by
 constructor
 ·intro h l m n j;obtain⟨g1,x,v,g4,u,t,s⟩:=Hu.Z3m r h;generalize (Hu.QK S p).1=w,(Hu.QK S p).2=q at*;have:=Z2x S l m n w.sum (w.zip q) (λa g=>by
   obtain⟨A,z⟩:=oK g;exact⟨v _ A,j _<|Hu.Tf<|u _ z⟩)
  rw[t,s,List.map_fst_zip<|by lia]at this;generalize w.sum=W at*;have y:W*(l*(W*p.1)+m*(W*p.2))=W*W*(l*p.1+m*p.2):=by grind
  rw[y]at this;have i:0<W*W:=by
   rcases Int.lt_or_gt_of_ne x with h|h
   ·exact Int.mul_pos_of_neg_of_neg h h
   ·exact wM h h
  exact Int.le_of_mul_le_mul_left this i
 ·intro h;cases e:Hu.part S p with
  |none=>rfl|some l=>obtain⟨o,k⟩:=Hu.Z3j e;have:=h l.1 l.2.1 l.2.2 (λs f=>by simpa[Hu.hd]using Hu.Z2R o f);simp[Hu.hd]at k;lia
def Tq(w:Str)(xs:List Int)(s:Hu.Pt)(r:P3):Bool:=(Hu.part ((Zz w xs).map (vD r))<|vD r<|Oh s).isNone
def Z2y(a:Z1 w xs=Δ)(s:Hu.Pt)(r:P3):Tq w xs s r=Δ↔Hul ((Zz w xs).map (vD r)) (vD r<|Oh s):=by rw[<-Z58 (by simpa using(Z1Z a).2.1)];unfold Tq;rw[B8]
def Xk(b:Nat):ai (b:Int)= -(b:Int)-1:=rfl
def Z3u(a b:Nat):pf a b=((a|||b:Nat):Int):=by
 unfold pf dn;rw[Xk,Xk];have d:decide (0<= -(a:Int)-1)=Ε:=by lia
 have c:decide (0<= -(b:Int)-1)=Ε:=by lia
 rw[d,c];have f:(ai<|-a-1).toNat=a:=by unfold ai;lia
 have e:(ai<|-b-1).toNat=b:=by unfold ai;lia
 simp only[f,e];unfold ai;lia
def Z4e(a b:Nat):dn a (ai (b:Int))=((a-(a&&&b):Nat):Int):=by
 unfold dn;rw[Xk];have d:decide (0<=(a:Int))=Δ:=by simp
 have c:decide (0<= -(b:Int)-1)=Ε:=by lia
 rw[d,c];have e:(ai<|-b-1).toNat=b:=by unfold ai;lia
 simp only[Int.toNat_natCast];have:=@Nat.and_le_left a b;lia
def Z4f:∀(a b:Nat),a-(a&&&b)=a^^^(a&&&b):=by
 intro a
 induction a using Nat.strongRecOn with
 |_ a i=>
  intro b;by_cases h:a=0
  ·subst h;simp
  ·have hd:=i (a/2) (by lia)<|b/2;have e1:(a&&&b)/2=a/2&&&b/2:=by rw[Nat.and_div_two]
   have f:=by have:=@Nat.and_mod_two_pow a b 1;simpa using this
   have e3:(a^^^(a&&&b))/2=a/2^^^(a/2&&&b/2):=by rw[Nat.xor_div_two,Nat.and_div_two]
   have g:(a^^^(a&&&b))%2=(a%2)^^^((a%2)&&&(b%2)):=by have:=@Nat.xor_mod_two_pow a (a&&&b) 1;rw[this,f]
   have j:=@Nat.and_le_left a b;generalize (a&&&b)=m at*;generalize a^^^m=x at*;have e:a%2=0\/a%2=1:=by lia
   have d:b%2=0\/b%2=1:=by lia
   rcases e with e|e<;>rcases d with d|d<;>rw[e,d]at f g<;>simp at f g<;>lia
def Z21(a b k:Nat):(a-(a&&&b)).testBit k=(a.testBit k&&!b.testBit k):=by rw[Z4f,Nat.testBit_xor,Nat.testBit_and];cases a.testBit k<;>cases b.testBit k<;>rfl
def Z59(a k:Nat):(a:Int)/2^k=((a>>>k:Nat):Int):=by rw[Nat.shiftRight_eq_div_pow];simp
def Xl(a k:Nat):(a:Int)/2^k%2=if a.testBit k then 1 else 0:=by
 rw[Z59];have:(a>>>k)%2=if a.testBit k then 1 else 0:=by
  rw[Nat.testBit];have:(a>>>k)%2=0\/(a>>>k)%2=1:=by lia
  rcases this with e|e<;>simp[e]
 by_cases q:a.testBit k=Δ
 ·rw[if_pos q]at this⊢;lia
 ·rw[if_neg q]at this⊢;lia
def Z4R(a:Int):dn a 1=a%2:=PyProof.Rows.bitAnd_m1 a
def Z4g(f l k:Nat)(h:f<=l):(2^(l+1)-2^f).testBit k=(decide (f<=k)&&decide (k<=l)):=by
 have e:2^(l+1)-2^f=(2^(l+1-f)-1)*2^f:=by rw[Nat.sub_mul,<-Nat.pow_add,xf];congr 2;lia
 rw[e,B5,Nat.testBit_two_pow_sub_one];by_cases c:f<=k
 ·simp[c];by_cases b:k<=l
  ·simp[b];lia
  ·simp[b];lia
 ·simp[c]
def Z2V(h:∀k,n<=k->a.testBit k=Ε):a<2^n:=Nat.lt_pow_two_of_testBit a h
def Z5I{k:Nat}(h:k<=1000000):um 1 (k:Int)=Δ:=by unfold um;simp;lia
def Z2z{f l:Int}{w:Nat}(e:0<=f)(hl:l<w)(hw:w<=1000):∃B:Nat,cW [.sh<|.int f,.sh<|.int l]=.ret (.sh<|.int B)/\∀k:Nat,B.testBit k=(decide (f<=k)&&decide ((k:Int)<=l)):=by
 by_cases h:l<f
 ·refine⟨0,by simp[cW,kE,h],λk=>?_⟩;by_cases i:f<=k
  ·have g:¬k<=l:=by omega
   simp[g]
  ·simp[i]
 ·obtain⟨F,rfl⟩:=oI e;obtain⟨L,rfl⟩:=oI (by omega:0<=l);have c:=Z5I (k:=L+1) (by omega);have m:=Z5I (k:=F) (by omega);have d:2^F<=2^(L+1):=sG (by omega) (by omega);refine⟨2^(L+1)-2^F,?_,λk=>?_⟩
  ·have t1:=by omega
   simp only[wN,Int.cast_ofNat_Int]at c;have j:=h;simp[cW,kE,j,c,m];rw[Int.natCast_sub d];simp
  ·rw[Z4g F L k<|by omega];simp
def inR(L:List Hu.Ln)(u q k:Int):Prop:=∀l∈L,l.1*(u*k)+l.2.1*(u*q)<=l.2.2
def Z2A{a b k:Int}(c:0<b):k<=a.fdiv b↔k*b<=a:=by rw[oG _<|Int.le_of_lt c];exact BM c
def Ew(s0:ŏ)(u q:Int)(w:Nat)(f la:Int)(r:ŏ×ŏ×ŏ×ŏ×ŏ):ć:=[s0,.sh<|.int u,.sh<|.int q,.sh<|.int w,.sh<|.int f,.sh<|.int la,r.1,r.2.1,r.2.2.1,r.2.2.2.1,r.2.2.2.2]
def Hw(l:Hu.Ln)(s9 Hs:ŏ):ŏ×ŏ×ŏ×ŏ×ŏ:=(.sh<|.int l.1,.sh<|.int l.2.1,.sh<|.int l.2.2,s9,Hs)
def Z4h{w:Nat}(hu:0<u)(NX:u<=10000000)(hq:0<=q)(EC:q<=1000)(t:ŏ)(i:JE l){f la:Int}(h1:0<=f)(v:la<w)(s9 Hs:ŏ):
 (∃f' Hx r,ϟ (Ew t u q w f la<|Hw l s9 Hs)=.ok .nx (Ew t u q w f' Hx r)/\0<=f'/\Hx<w/\∀k:Int,(f'<=k/\k<=Hx)↔(f<=k/\k<=la/\l.1*(u*k)+l.2.1*(u*q)<=l.2.2))\/
 (∃c,ϟ (Ew t u q w f la<|Hw l s9 Hs)=.ok (.rt<|.sh<|.int 0) c/\∀k:Int,¬l.1*(u*k)+l.2.1*(u*q)<=l.2.2):=by
 have o:Ŷ l.1 u=Δ:=cy (by have:=i.1;omega) (by have:=i.2.1;omega);have m:Ŷ l.2.1 u=Δ:=cy (by have:=i.2.2.1;omega) (by have:=i.2.2.2;omega);have j:Ŷ (l.2.1*u) q=Δ:=KL (by omega) (by omega);have bs:=QO i.1 i.2.1 (show -10000000<=u by omega) NX;have JL:∀k:Int,l.1*(u*k)+l.2.1*(u*q)<=l.2.2↔k*(l.1*u)<=l.2.2-l.2.1*u*q:=λk=>by rw[<-Int.mul_assoc,Int.mul_comm<|l.1*u,<-Int.mul_assoc l.2.1];omega
 generalize fJ:l.1*u=e,s:l.2.2-l.2.1*u*q=h at*;simp only[JL];have dv:∀z,e=z\/e= -z->0<z->pU h z=Δ:=λz h1 v=>F8 (by omega) (ţ (yD (n:=200) (by omega)<|by omega)<|by decide);by_cases p:0<e
 ·refine .inl ⟨f,min la<|h.fdiv e,Hw l (.sh<|.int e)<|.sh<|.int h,?_,h1,by omega,λk=>?_⟩
  ·simp[Ew,Hw,ϟ,o,m,j,fJ,s,p,dv e (.inl rfl) p];split<;>omega
  ·have:=Z2A (a:=h) (k:=k) p;omega
 ·by_cases c2:e<0
  ·refine .inl ⟨max f<|-(h.fdiv<|-e),la,Hw l (.sh<|.int e)<|.sh<|.int h,?_,by omega,v,λk=>?_⟩
   ·simp[Ew,Hw,ϟ,o,m,j,fJ,s,p,c2,dv (-e) (.inr<|by omega)<|by omega];split<;>omega
   ·have:=Z2A (a:=h) (b:=-e) (k:=-k) (by omega);rw[se]at this;omega
  ·have c0:e=0:=by omega
   subst c0;by_cases c3:h<0
   ·exact .inr ⟨_,by simp[Ew,Hw,ϟ,o,m,j,fJ,s,c3];rfl,λk=>by omega⟩
   ·exact .inl ⟨f,la,Hw l (.sh<|.int 0)<|.sh<|.int h,by simp[Ew,Hw,ϟ,o,m,j,fJ,s,c3],h1,v,λk=>by omega⟩
def Z4i{w:Nat}(J:0<u)(O:u<=10000000)(K:0<=q)(Q:q<=1000)(m:ŏ)(v:∀l∈L,JE l){f la:Int}(r:ŏ×ŏ×ŏ×ŏ×ŏ)(z:0<=f)(y:la<w):
 (∃n o p,Ŭ (gT 3<|ë (gN 6)<|ë (gN 7)<|ë (gN 8) Ş) ϟ (L.map lc) (Ew m u q w f la r)=.ok .nx (Ew m u q w n o p)/\0<=n/\o<w/\∀k:Int,(n<=k/\k<=o)↔(f<=k/\k<=la/\inR L u q k))\/
 (∃d,Ŭ (gT 3<|ë (gN 6)<|ë (gN 7)<|ë (gN 8) Ş) ϟ (L.map lc) (Ew m u q w f la r)=.ok (.rt<|.sh<|.int 0) d/\∀k:Int,¬inR L u q k):=by
 induction L generalizing f la r with
 |nil=>exact .inl ⟨f,la,r,rfl,z,y,λk=>by unfold inR;simp[]⟩
 |cons l L G=>
  have H:∀k,inR (l::L) u q k↔l.1*(u*k)+l.2.1*(u*q)<=l.2.2/\inR L u q k:=λk=>BZ;have N:gT 3 (ë (gN 6)<|ë (gN 7)<|ë (gN 8) Ş) (lc l) (Ew m u q w f la r)=Α (Ew m u q w f la<|Hw l r.2.2.2.1 r.2.2.2.2):=rfl;rw[â,Ŭ,N];simp only[H];rcases Z4h J O K Q m (v l ŀ) z y r.2.2.2.1 r.2.2.2.2 with⟨f1,E,B,e,a,b,c⟩|⟨d,e,c⟩
  ·rw[e];rcases G (λx I=>v x<|ð _ I) B a b with⟨n,o,p,t,s,D,C⟩|⟨d,t,s⟩
   ·exact .inl ⟨n,o,p,t,s,D,λk=>by rw[C,<-and_assoc,c];simp only[and_assoc]⟩
   ·exact .inr ⟨d,t,λk h=>s k h.2⟩
  ·rw[e];exact .inr ⟨d,rfl,λk h=>c k h.1⟩
def Z5J{w:Nat}(r:0<u)(y:u<=10000000)(s:0<=q)(z:q<=1000)(p:w<=1000)(t:∀l∈L,JE l)(j:Sl sl (L.map lc)):
 ∃B:Nat,gO [sl,.sh<|.int u,.sh<|.int q,.sh<|.int w]=.ret (.sh<|.int B)/\∀k:Nat,B.testBit k=Δ↔(k<w/\inR L u q k):=by
 rcases Z4i (w:=w) (f:=0) (la:=w-1) r y s z sl t (.no,.no,.no,.no,.no) (by lia) (by lia)with⟨f',Hx,r',g,i,o,n⟩|⟨d,g,i⟩<;>simp only[Ew]at g
 ·obtain⟨B,x,v⟩:=Z2z i o p;refine⟨B,by rcases j with rfl|rfl<;>simp[gO,lP,g,x],λk=>?_⟩;rw[v,þ,decide_eq_true_eq,decide_eq_true_eq,n k];constructor
  ·rintro ⟨a,b,c⟩;exact⟨by lia,c⟩
  ·rintro ⟨a,b⟩;exact⟨by lia,by lia,b⟩
 ·refine⟨0,by rcases j with rfl|rfl<;>simp[gO,lP,g],λk=>?_⟩;simp;exact λe=>i k
abbrev Th:=Str×List Int
def fk(t:Th):PV:=Zc (Ze t.1) t.1 t.2
def aq:Option P3->PV
 |none=>.non|some r=>c3 r
abbrev Dy:=Str×Int×List (Option P3)
def Ϸ(d:Dy):PV:=.tup [.str d.1,.int d.2.1,.lst<|d.2.2.map aq]
def Z0(w h:Int)(T:List Th)(D:List Dy):PV:=.ins "Yard" ["width","height","things","days"] [.int w,.int h,.lst<|T.map fk,.lst<|D.map Ϸ]
def ywh:(È "width"=È "height")=False:=eq_false (by decide+kernel)
def ywt:(È "width"=È "things")=False:=eq_false (by decide+kernel)
def ywd:(È "width"=È "days")=False:=eq_false (by decide+kernel)
def yht:(È "height"=È "things")=False:=eq_false (by decide+kernel)
def yhd:(È "height"=È "days")=False:=eq_false (by decide+kernel)
def ytd:(È "things"=È "days")=False:=eq_false (by decide+kernel)
def DI(w h:Int)(T:List Th)(D:List Dy):ħ ["Yard"] (È "width") (Z0 w h T D)=Α (.int w):=by unfold ħ Z0;simp
def G7(w h:Int)(T:List Th)(D:List Dy):ħ ["Yard"] (È "height") (Z0 w h T D)=Α (.int h):=by
 have:(È "height"==È "width")=Ε:=by decide+kernel
 unfold ħ Z0;simp[Š,this]
def Ts(w h:Int)(T:List Th)(D:List Dy):ħ ["Yard"] (È "things") (Z0 w h T D)=Α (.lst<|T.map fk):=by
 have c:(È "things"==È "width")=Ε:=by decide+kernel
 have b:(È "things"==È "height")=Ε:=by decide+kernel
 unfold ħ Z0;simp[Š,c,b]
def JG(w h:Int)(T:List Th)(D:List Dy):ħ ["Yard"] (È "days") (Z0 w h T D)=Α (.lst<|D.map Ϸ):=by
 have d:(È "days"==È "width")=Ε:=by decide+kernel
 have c:(È "days"==È "height")=Ε:=by decide+kernel
 have b:(È "days"==È "things")=Ε:=by decide+kernel
 unfold ħ Z0;simp[Š,d,c,b]
def Z3v(D:List Dy)(hD:D.length<=100000)(f s1 s2:ŏ):ĝ (gT 3<|ë (gN 0)<|ë (gN 1)<|ë (gN 2) Ş) Ę (Ϧ<|É (í 0)<|É (í 1)<|É (Ñ<|uk jo<|É (Â 2) á) á) (D.map Ϸ) [f,s1,s2] []=Α (D.map Ϸ):=by
 have h:=Đ (g:=gT 3<|ë (gN 0)<|ë (gN 1)<|ë (gN 2) Ş) (mt:=Ę) (me:=Ϧ<|É (í 0)<|É (í 1)<|É (Ñ<|uk jo<|É (Â 2) á) á) Ϸ Ϸ (λe=>∃a b c,e=[a,b,c]) D [f,s1,s2] [] ⟨_,_,_,rfl⟩ (by simp;lia) (by
  rintro d _ e ⟨a,b,c,rfl⟩;refine⟨[.sh<|.str d.1,.sh<|.int d.2.1,.sh<|.lst<|d.2.2.map aq],[.sh<|.str d.1,.sh<|.int d.2.1,.sh<|.lst<|d.2.2.map aq],[.sh<|.str d.1,.sh<|.int d.2.1,.sh<|.lst<|d.2.2.map aq],by simp[Ϸ],rfl,by simp[Ϸ],_,_,_,rfl⟩)
 simpa using h
def Z2B(w h:Int){T:List Th}{D:List Dy}(hT:T.length<=100000)(a:D.length<=100000){s3 s4:ŏ}(d:Sl s3 (T.map fk))(b:Sl s4 (D.map Ϸ)):gp [.sh<|.int w,.sh<|.int h,s3,s4]=.ok ["width","height","things","days"] [.int w,.int h,.lst<|T.map fk,.lst<|D.map Ϸ]:=by have c:=Z3v D a .no .no .no;rcases d with rfl|rfl<;>rcases b with rfl|rfl<;>simp[gp,eB,kQ,IR.of,ý,putN,vq,ywh,ywt,ywd,yht,yhd,ytd,c,Qa,Jf]
def Z5K(c:0<w):(q*w<=k/\k-q*w<w)↔k/w=q:=by
 constructor
 ·rintro ⟨a,b⟩;exact Nat.div_eq_of_lt_le a (by lia)
 ·rintro rfl;have h1:=Nat.div_mul_le_self k w;have h2:=Nat.mod_lt k c;have h3:=B6 (x:=k) (k:=w);lia
def Z5L{k q w:Nat}(h:k/w=q):k-q*w=k%w:=by subst h;exact(B6).symm
def Z4S(a:0<w):k/w<h↔k<w*h:=by rw[Nat.div_lt_iff_lt_mul a,xg]
def Nz(w k:Nat):Hu.Pt:=(((k%w:Nat):Int),((k/w:Nat):Int))
def Z5a{S:List Hu.Pt}:inR (Hu.ZM S) (2*r.2.2) q p↔(Hu.part S<|vD r<|Oh (p,q)).isNone=Δ:=by
 have e:vD r (Oh (p,q))=(2*r.2.2*p,2*r.2.2*q):=by unfold vD Oh;simp only[xi];constructor<;>grind
 rw[e];unfold Hu.part inR Hu.hd;simp
theorem Xm{c:Type}(y:c):∀(xs b:List c),y∈xs.foldl (λb x=>x::b) b↔(y∈xs\/y∈b)
 |[],b=>by simp|x::xs,b=>by rw[eI,Xm y xs (x::b)];grind
def Kv(t:Th)(s:Hu.Pt)(r:P3):Bool:=Tq t.1 t.2 s r
def Z3w{w h:Nat}(A:0<w)(z:w<=60)(hh:h<=1000)(T:List Th)(Ds:List Dy)(C:Z1 t.1 t.2=Δ)(s:RB r)(hz:0<r.2.2):
 ∃D:Nat,gC [.sh<|Z0 w h T Ds,.sh<|fk t,.sh<|c3 r]=.ret (.sh<|.int D)/\∀k,D.testBit k=(decide (k<w*h)&&Kv t (Nz w k) r):=by
 obtain⟨g1,g2,g3⟩:=Z1Z C;have hc:=Z4d C (by lia) s;have G:∀p∈(Zz t.1 t.2).map (vD r),Sm p:=by intro p hp;obtain⟨q,o,rfl⟩:=Ĉ.mp hp;exact Z5H s<|g3 q o
 have hl:=Z4a (sl:=.sh<|.lst<|((Zz t.1 t.2).map (vD r)).map pt) (.inl rfl) G (by simpa using g2) (by simp;lia);have Uo:∀l∈Hu.ZM ((Zz t.1 t.2).map (vD r)),JE l:=λl h=>Z5E h G;have O:=DI w h T Ds;have yh:=G7 w h T Ds;have hv:(2:Int)*r.2.2<=10000000:=by have:=s.2.2.2.2.2;lia
 generalize hX:Hu.ZM ((Zz t.1 t.2).map (vD r))=X,hY:Z0 w h T Ds=Y at*;have Us:Þ (c3 r) (.int 2)=Α (.int r.2.2):=by simp[c3]
 obtain⟨i,H,D,s5,rfl,y⟩:=bR (g:=gN 5) (mb:=kF) (λ(q:Nat)=>PV.int q) (λ(b:List Nat) (x:Nat)=>x::b) (λb f=>∃(D:Nat) (s5:ŏ),f=[.sh Y,.sh<|fk t,.sh<|c3 r,.ow<|X.map lc,.sh<|.int D,s5]/\∀k,D.testBit k=Δ↔(k/w∈b/\Kv t (Nz w k) r=Δ)) (ú h) (by
  rintro q o b f ⟨D,s5,rfl,y⟩;have o:=aN.mp o;obtain⟨B,b1,I⟩:=Z5J (u:=2*r.2.2) (q:=q) (w:=w) (by lia) hv (by lia) (by lia) (by lia) Uo (sl:=.bw<|X.map lc)<|.inr rfl;have hB:B<2^w:=Z2V λk v=>by
   have:=I k;cases e:B.testBit k with
   |false=>rfl|true=>have:=(this.mp e).1;lia
  have hB2:B<2^60:=Ţ hB (sG (by lia) z);have hqw:q*w<=1000*60:=fN (by lia) z;have so:um (B:Int) ((q:Int)*(w:Int))=Δ:=by
   have:((q:Int)*(w:Int))=((q*w:Nat):Int):=by simp
   rw[this];unfold um;simp;lia
  have mo:Ŷ (q:Int) (w:Int)=Δ:=cy (by lia) (by lia);have tn:((q:Int)*(w:Int)).toNat=q*w:=by
   have:((q:Int)*(w:Int))=((q*w:Nat):Int):=by simp
   rw[this];rfl
  obtain⟨Z,E⟩:∃Z:Nat,Z=D|||B*2^(q*w):=⟨_,rfl⟩
  have oe:pf (D:Int) ((B:Int)*2^(q*w))=(Z:Int):=by
   have ee:(B:Int)*2^(q*w)=((B*2^(q*w):Nat):Int):=by simp
   rw[ee,Z3u,E]
  have m2:Ŷ 2 r.2.2=Δ:=cy (by lia) (by lia);generalize c3 r=R at*;have st:kF [.sh Y,.sh<|fk t,.sh R,.ow<|X.map lc,.sh<|.int D,.sh<|.int q]=.ok .nx [.sh Y,.sh<|fk t,.sh R,.ow<|X.map lc,.sh<|.int Z,.sh<|.int q]:=by simp[kF,Us,O,b1,mo,so,tn,oe]
  refine⟨_,_,rfl,st,_,_,rfl,λk=>?_⟩;rw[E,Nat.testBit_or,oE,y,B5,þ,decide_eq_true_eq,I,ù,<-hX,Z5a];have n:∀(j:k/w=q),((Hu.part ((Zz t.1 t.2).map (vD r))<|vD r<|Oh (((k-q*w:Nat):Int),(q:Int))).isNone=Δ↔Kv t (Nz w k) r=Δ):=by intro v;unfold Kv Tq Nz;rw[Z5L v,v]
  have d:=Z5K (k:=k) (q:=q) A;constructor
  ·rintro (⟨a,b⟩|⟨a,b,c⟩)
   ·exact⟨.inr a,b⟩
   ·have:=d.mp ⟨a,b⟩;exact⟨.inl this,(n this).mp c⟩
  ·rintro ⟨a|a,b⟩
   ·have:=d.mpr a;exact .inr ⟨this.1,this.2,(n a).mpr b⟩
   ·exact .inl ⟨a,b⟩) [] [.sh Y,.sh<|fk t,.sh<|c3 r,.ow<|X.map lc,.sh<|.int ((0:Nat):Int),.no] ⟨0,.no,rfl,by simp⟩
 refine⟨D,?_,λk=>?_⟩
 ·have rr:=ZI hh;have AF:bq [.sh<|fk t,.sh<|c3 r]=.ret (.ow<|((Zz t.1 t.2).map (vD r)).map pt):=hc;simp[gC,uU,ý,AF,hl,yh,rr,-Ĺ]at H⊢;simp[H]
 ·have:=y k;rw[Xm,aN,Z4S A]at this;rw[jI,this,þ,decide_eq_true_eq];simp
def ZG:Nat->(Nat->Bool)->Nat
 |0,_=>0|n+1,p=>ZG n p+if p n then 2^n else 0
theorem Xn(p:Nat->Bool):∀n,ZG n p<2^n
 |0=>by simp;rfl|n+1=>by have:=Xn p n;unfold ZG;split<;>omega
theorem ZA(p:Nat->Bool):∀n k,(ZG n p).testBit k=(decide (k<n)&&p k)
 |0,k=>by dsimp only[ZG];simp[]|n+1,k=>by
  have c:=Xn p n;unfold ZG;by_cases h:k<n
  ·have b:=ZA p n k;have d:k<n+1:=by lia
   split
   ·rw[wZ,Nat.testBit_two_pow_add_gt h,b];simp[h,d]
   ·rw[Nat.add_zero,b];simp[h,d]
  ·by_cases g:k=n
   ·subst g;split
    ·rename_i q;rw[wZ,Nat.testBit_two_pow_add_eq,xh c];simp[q]
    ·rename_i q;rw[Nat.add_zero,xh c];simp[q]
   ·have f:¬k<n+1:=by lia
    have:ZG n p+(if p n=Δ then 2^n else 0)<2^k:=by refine Ţ (Xn p<|n+1) (sG (by lia)<|by lia)
    rw[xh this];simp[f]
def Tt(h:∀k,D.testBit k=(decide (k<n)&&p k)):D=ZG n p:=Nat.eq_of_testBit_eq λk=>by rw[h,ZA]
def QP(w h:Nat)(r:P3)(t:Th):Nat:=ZG (w*h) λk=>Kv t (Nz w k) r
def nR(w:Nat)(T:List Th):Option P3->Nat->Bool
 |none,_=>Δ|some r,k=>T.any λt=>Kv t (Nz w k) r
def nS(w h:Nat)(T:List Th)(o:Option P3):Nat:=ZG (w*h)<|nR w T o
def ER(o:Option P3):Prop:=match o with|none=>True|some r=>RB r/\0<r.2.2
def Z2W{w h:Nat}(c:0<w)(a:w<=60)(e:h<=1000)(T:List Th)(Ds:List Dy)(f:Z1 t.1 t.2=Δ)(d:RB r)(b:0<r.2.2):
 gC [.sh<|Z0 w h T Ds,.sh<|fk t,.sh<|c3 r]=.ret (.sh<|.int<|QP w h r t):=by
 obtain⟨D,i,g⟩:=Z3w c a e T Ds f d b;rw[i,Tt g];rfl
def Z4j{w h:Nat}(hw:0<w)(qD:w<=60)(hh:h<=1000){T:List Th}(hT:T.length<=1000)(Ds:List Dy)(hg:∀t∈T,Z1 t.1 t.2=Δ){r:P3}(hr:RB r)(hz:0<r.2.2):
 aV [.sh<|Z0 w h T Ds,.sh<|c3 r]=.ret (.ow<|T.map λt=>.int<|QP w h r t):=by
 have yt:=Ts w h T Ds;have hc:=Đ (g:=gN 2) (mt:=Ę) (me:=Ñ<|ß gC<|Ì 0<|Ì 2<|Ì 1 Ö) fk (λt=>.int<|QP w h r t) (λa=>∃s,a=[.sh<|Z0 w h T Ds,.sh<|c3 r,s]) T [.sh<|Z0 w h T Ds,.sh<|c3 r,.no] [] ⟨_,rfl⟩ (by simp;lia) (by
  rintro t ht a ⟨s,rfl⟩;have e:=Z2W hw qD hh T Ds (hg t ht) hr hz;refine⟨_,_,_,rfl,rfl,by simp[e];rfl,_,rfl⟩)
 simp[aV,gP,yt];simp[hc]
def Tu{w h:Nat}(hw:0<w)(qD:w<=60)(hh:h<=1000)(As:w*h<=1000){T:List Th}(hT:T.length<=1000)(Ds:List Dy)(hg:∀t∈T,Z1 t.1 t.2=Δ){o:Option P3}(ho:ER o):
 ja [.sh<|Z0 w h T Ds,.sh<|aq o]=.ret (.sh<|.int<|nS w h T o):=by
 have yw:=DI w h T Ds;have yh:=G7 w h T Ds;have mo:Ŷ (w:Int) (h:Int)=Δ:=cy (by lia) (by lia);cases o with
 |none=>
  obtain⟨B,b1,b2⟩:=Z2z (f:=0) (l:=(w:Int)*h-1) (w:=w*h) (by lia) (by rw[ib];lia) As;have:B=nS w h T Β:=Tt λk=>by rw[b2];simp[nR];omega
  subst this;simp[ja,yW,ý,aq,yw,yh,mo,b1,tM]
 |some r=>
  have hd:=Z4j hw qD hh hT Ds hg ho.1 ho.2;obtain⟨c,e1,D,s3,rfl,hD⟩:=bR (g:=gN 3) (mb:=yV) (λ(t:Th)=>PV.int<|QP w h r t) (λ(b:List Th) (x:Th)=>x::b) (λb a=>∃(D:Nat) (s3:ŏ),a=[.sh<|Z0 w h T Ds,.sh<|c3 r,.sh<|.int D,s3]/\∀k,D.testBit k=Δ↔(k<w*h/\∃t∈b,Kv t (Nz w k) r=Δ)) T (by
   rintro t ht b a ⟨D,s3,rfl,hD⟩;refine⟨_,_,rfl,by simp[yV,Z3u];exact⟨rfl,rfl⟩,_,_,rfl,λk=>?_⟩;rw[Nat.testBit_or,oE,hD,QP,ZA,þ,decide_eq_true_eq];grind) [] [.sh<|Z0 w h T Ds,.sh<|c3 r,.sh<|.int ((0:Nat):Int),.no] ⟨0,.no,rfl,by simp⟩
  have:D=nS w h T (Α r):=Tt λk=>by have:=hD k;rw[jI,this];simp only[Xm,nR,jM,or_false,þ,decide_eq_true_eq,List.any_eq_true]
  subst this;have hn:rQ (c3 r) .non=Α (.bl Ε):=by simp[c3,tM]
  generalize Z0 w h T Ds=Y at*;show ja [.sh Y,.sh<|c3 r]=_;simp at e1;simp[ja,yW,ý,hd,hn,e1]
structure Kw(w h:Nat)(T:List Th):Prop where
 w0:0<w
 w1:w<=60
 h1:h<=1000
 wh:w*h<=1000
 tl:T.length<=1000
 tg:∀t∈T,Z1 t.1 t.2=Δ
def Xo{w h:Nat}{i:Nat}(c:i<D.length):eD [.sh<|Z0 w h T D,.sh<|.int i]=.ret (.sh<|.lst<|D[i].2.2.map aq):=by
 have a:=JG w h T D;have b:(D.map Ϸ)[i]?=Α (Ϸ D[i]):=by simp[c]
 simp[eD,rE,a,b];simp[Ϸ]
def G8(w h:Nat)(T:List Th)(o:Option P3):Nat:=ZG (w*h) λk=>!nR w T o k
def Z6i(lg:Nat)(d:Dy):Prop:=(1<=d.2.1/\d.2.1<=1000000000)/\d.2.2.length<=lg/\∀o∈d.2.2,ER o
def Z5M(Y:Kw w h T)(Ds:List Dy)(c:ER o):nn [.sh<|Z0 w h T Ds,.sh<|aq o]=.ret (.sh<|.int<|G8 w h T o):=by
 have f:=Tu Y.w0 Y.w1 Y.h1 Y.wh Y.tl Ds Y.tg c;have g:ja [.sh<|Z0 w h T Ds,.sh .non]=.ret (.sh<|.int<|nS w h T Β):=Tu Y.w0 Y.w1 Y.h1 Y.wh Y.tl Ds Y.tg (o:=Β) trivial;have e:dn (nS w h T Β:Int) (ai (nS w h T o:Int))=((G8 w h T o:Nat):Int):=by rw[Z4e];congr 1;refine Tt λk=>?_;rw[Z21,nS,nS,ZA,ZA];by_cases d:k<w*h<;>simp[d,nR]
 have i:fv (.int<|nS w h T Β) (.int<|ai (nS w h T o:Int))=Α (.int<|G8 w h T o):=by rw[<-e];rfl
 simp[nn,uV,f,g,i]
def zh(n:Nat)(H:Nat->Int):List PV:=(ú n).map λk=>.int<|H k
theorem Z22(H:Nat->Int):∀(n a:Nat),ci a ((fM a n).map λk=>PV.int<|H k)=(fM a n).map λ(k:Nat)=>PV.tup [.int k,.int<|H k]
 |0,a=>rfl|n+1,a=>by rw[oQ,â,â];show _::ci (a+1) _=_;rw[Z22 H n<|a+1]
def Z5b(n:Nat)(H:Nat->Int):ci 0 (zh n H)=(ú n).map λ(k:Nat)=>PV.tup [.int k,.int<|H k]:=by unfold zh;rw[B_];exact Z22 H n 0
def fJ(w:Nat)(T:List Th)(t:Int)(o:Option P3)(H:Nat->Int):Nat->Int:=λk=>H k+t*(if nR w T o k then 0 else 1)
def Z2C(A k:Nat):fv (.int<|(A:Int)/2^k) (.int 1)=Α (.int<|if A.testBit k then 1 else 0):=by show Α (PV.int<|dn (A/2^k) 1)=_;rw[Z4R,Xl]
def Z6j(t:Int)(ht: -1000000000000<=t/\t<=1000000000000)(o:Option P3)(H:Nat->Int)(hn:w*h<=1000)(s2 s3:ŏ):
 ĝ (gT 2<|ë (gN 2)<|ë (gN 3) Ş) Ę (Ñ<|ô é (Â 3)<|Ê Ĝ (Â 0)<|Ê fv (Ê pX (Â 1)<|Â 2)<|Æ 1) (ci 0<|zh (w*h) H) [.sh<|.int t,.sh<|.int<|G8 w h T o,s2,s3] []=Α (zh (w*h)<|fJ w T t o H):=by
 rw[Z5b];have l:=Đ (g:=gT 2<|ë (gN 2)<|ë (gN 3) Ş) (mt:=Ę) (me:=Ñ<|ô é (Â 3)<|Ê Ĝ (Â 0)<|Ê fv (Ê pX (Â 1)<|Â 2)<|Æ 1) (λ(k:Nat)=>PV.tup [.int k,.int<|H k]) (λk=>.int<|fJ w T t o H k) (λc=>∃a b,c=[.sh<|.int t,.sh<|.int<|G8 w h T o,a,b]) (ú<|w*h) [.sh<|.int t,.sh<|.int<|G8 w h T o,s2,s3] [] ⟨_,_,rfl⟩ (by simp;lia) (by
  rintro k e c ⟨a,b,rfl⟩;have e:=aN.mp e;have d:=Z2C (G8 w h T o) k;have m:(G8 w h T o).testBit k=!nR w T o k:=by rw[G8,ZA];simp[e]
  rw[m]at d;have j:pV (G8 w h T o:Int) k=Δ:=by unfold pV;simp
  cases hd:nR w T o k<;>rw[hd]at d<;>simp at d<;>simp[j,d,fJ,hd])
 simpa[zh]using l
def Z5N(w:Nat)(T:List Th)(d:Dy)(H:Nat->Int):Nat->Int:=d.2.2.foldl (λH o=>fJ w T d.2.1 o H) H
def BI(w:Nat)(T:List Th)(D:List Dy)(H:Nat->Int):Nat->Int:=D.foldl (λH d=>Z5N w T d H) H
def Z5c(Y:Kw w h T)(Ds:List Dy)(b: -1000000000000<=t/\t<=1000000000000)(c:ER o)(H:Nat->Int)(s2 s4 a:ŏ):
 uW [.sh<|Z0 w h T Ds,.ow<|zh (w*h) H,s2,.sh<|.int t,s4,.sh<|aq o,a]=.ok .nx [.sh<|Z0 w h T Ds,.ow<|zh (w*h)<|fJ w T t o H,s2,.sh<|.int t,s4,.sh<|aq o,.sh<|.int<|G8 w h T o]:=by
 have e:=Z5M Y Ds c;have d:=Z6j (T:=T) t b o H Y.wh .no .no;unfold uW;simp[e,d]
def Z4k(Y:Kw w h T)(z:∀d∈D,Z6i lg d):qr [.sh<|Z0 w h T D]=.ret (.ow<|zh (w*h)<|BI w T D λi=>0):=by
 have r:=DI w h T D;have s:=G7 w h T D;have t:=JG w h T D;have x:Ŷ w h=Δ:=cy (by lia) (by have:=Y.w1;lia);have l:=ZI Y.wh;rw[ib]at l;have m:=Đ (g:=gN 0) (mt:=Ę) (me:=Æ 0) (λ(k:Nat)=>PV.int k) (λk=>PV.int<|(λi=>0) k) (λb=>∃a,b=[a]) (ú<|w*h) [.no] [] ⟨_,rfl⟩ (by have:=Y.wh;simp;lia) (by
  rintro k hk b ⟨a,rfl⟩;exact⟨_,_,_,rfl,rfl,rfl,_,rfl⟩)
 obtain⟨c,A,s2,s3,s4,s5,f,rfl⟩:=bR (g:=gT 3<|ë (gN 2)<|ë (gN 3)<|ë (gN 4) Ş) (mb:=uX) Ϸ (λH d=>Z5N w T d H) (λH b=>∃s2 s3 s4 s5 f,b=[.sh<|Z0 w h T D,.ow<|zh (w*h) H,s2,s3,s4,s5,f]) D (by
  rintro d hd H b ⟨s2,s3,s4,s5,f,rfl⟩;obtain⟨dt,_,B⟩:=z d hd;obtain⟨e,v,FT,u,rfl⟩:=bR (g:=gN 5) aq (λH o=>fJ w T d.2.1 o H) (λH b=>∃s5 f,b=[.sh<|Z0 w h T D,.ow<|zh (w*h) H,.sh<|.str d.1,.sh<|.int d.2.1,.sh<|.lst<|d.2.2.map aq,s5,f]) d.2.2 (by
   rintro o y H b ⟨s5,f,rfl⟩;exact⟨_,_,rfl,Z5c Y D (by lia) (B o y) H _ _ _,_,_,rfl⟩) H [.sh<|Z0 w h T D,.ow<|zh (w*h) H,.sh<|.str d.1,.sh<|.int d.2.1,.sh<|.lst<|d.2.2.map aq,s5,f] ⟨_,_,rfl⟩
  refine⟨[.sh<|Z0 w h T D,.ow<|zh (w*h) H,.sh<|.str d.1,.sh<|.int d.2.1,.sh<|.lst<|d.2.2.map aq,s5,f],_,by dsimp[Ϸ],by simp[uX,v];exact⟨rfl,rfl,rfl,rfl,rfl,rfl⟩,_,_,_,_,_,rfl⟩) (λi=>0) [.sh<|Z0 w h T D,.ow<|zh (w*h) λi=>0,.no,.no,.no,.no,.no] ⟨_,_,_,_,_,rfl⟩
 change ĝ _ _ _ _ _ _=Α (zh (w*h) λi=>0)at m;unfold BI;simp[qr,Aq,r,s,t,x,l,m,A]
def nT(n:Int):List Nat:=(È<|ϙ n).cps.toList
def Z3x(n:Int):È (ϙ n)=S (nT n):=iA (by simp[nT])
def Xp(m:Nat):nT (m:Int)=(bC 10 m).map cY:=PySem.W.KIN.signs_num m
def Z3y(m:Nat)(h:0<m):nT (-(m:Int))=45::(bC 10 m).map cY:=by obtain⟨k,rfl⟩:∃k,m=k+1:=⟨m-1,by lia⟩;unfold nT;rw[PyProof.Rows.signs_ofString];show("-"++Nat.repr (k+1)).toList.map cY=_;rw[String.toList_append,Nat.toList_repr];rfl
def Xq(h:c∈(bC 10 m).map cY):48<=c/\c<=57:=by obtain⟨ch,b,e⟩:=Ĉ.mp h;have r:=PyProof.Rows.digit_range (Nat.isDigit_of_mem_toDigits (by decide) (by decide) b);rw[<-e];exact r
def Xr:∀(m:Nat),0<m->∃c r,(bC 10 m).map cY=c::r/\c≠48:=by
 intro m
 induction m using Nat.strongRecOn with
 |_ m b=>
  intro i;by_cases h:m<10
  ·rw[Nat.toDigits_of_lt_base h];exact⟨_,[],rfl,by
    have:∀d:Nat,d<10->0<d->(Nat.digitChar d).toNat≠48:=by decide
    exact this m h i⟩
  ·have f:m%10<10:=Nat.mod_lt m (by decide);have t:bC 10 (m/10)++bC 10 (m%10)=bC 10 (10*(m/10)+m%10):=Nat.toDigits_append_toDigits (by decide) (by lia) f;rw[Nat.div_add_mod]at t;obtain⟨c,r,e,g⟩:=b (m/10) (by lia) (by lia);rw[<-t,š,e];exact⟨c,_,rfl,g⟩
def QR(h:m<10^10):1<=((bC 10 m).map cY).length/\((bC 10 m).map cY).length<=10:=by
 have d:=PySem.W.KT.len_num (n:=m) (by lia) (by lia);have e:(È<|ϙ (m:Int)).length=(nT m).length:=by simp[nT,f_]
 rw[e,Xp]at d;refine⟨?_,d⟩;by_cases f:m=0
 ·subst f;decide
 ·obtain⟨c,r,e,_⟩:=Xr m (by lia);rw[e];simp
def Xs(h1: -10000000000<n)(h2:n<10000000000):∃(b:Bool) (ds:List Nat),nT n=(if b then[45]else[])++ds/\(∀c∈ds,48<=c/\c<=57)/\1<=ds.length/\ds.length<=10/\(nT n=[48]\/∃c r,ds=c::r/\c≠48):=by
 rcases Int.lt_or_le n 0with h|h
 ·obtain⟨m,rfl⟩:∃m:Nat,n= -m:=⟨(-n).toNat,by lia⟩;obtain⟨f,e⟩:=QR (m:=m) (by lia);exact⟨Δ,_,Z3y m (by lia),λc g=>Xq g,f,e,.inr<|Xr m<|by lia⟩
 ·obtain⟨m,rfl⟩:=oI h;obtain⟨f,e⟩:=QR (m:=m) (by lia);refine⟨Ε,_,Xp m,λc g=>Xq g,f,e,?_⟩;by_cases k:m=0
  ·left
   subst k;rfl
  ·exact .inr (Xr m<|by lia)
def Tv(g: -10000000000<n)(f:n<10000000000):∀c∈nT n,c=45\/(48<=c/\c<=57):=by
 obtain⟨b,ds,e,hd,_⟩:=Xs g f;rw[e];intro c a;rcases Ŵ.mp a with a|a
 ·cases b
  ·cases a
  ·left;simpa using a
 ·exact .inr<|hd c a
def QS{n:Int}(h1: -10000000000<n)(h2:n<10000000000):1<=(nT n).length/\(nT n).length<=11:=by obtain⟨b,ds,e,_,l1,l2,_⟩:=Xs h1 h2;rw[e];cases b<;>simp<;>lia
def Z3z(h1: -10000000000<n)(h2:n<10000000000):mN (S<|nT n)=Α n:=by
 have b:∀m:Nat,PySem.NumText.AllDigits ((bC 10 m).map cY):=λm c j=>Xq j;have g:∀m:Nat,m<10^10->(bC 10 m).map cY≠[]:=λm i e=>by have:=(QR i).1;rw[e]at this;cases this
 rcases Int.lt_or_le n 0with h|h
 ·obtain⟨m,rfl⟩:∃m:Nat,n= -m:=⟨(-n).toNat,by lia⟩;have f:=(QR (m:=m)<|by lia).2;rw[Z3y m<|by lia];have:=PySem.intText_neg rfl (b m) (g m<|by lia) (by show(45::(bC 10 m).map cY).toArray.size<=4300;simp at f⊢;lia);rw[this,CA]
 ·obtain⟨m,rfl⟩:=oI h;have f:=(QR (m:=m)<|by lia).2;rw[Xp m];have:=PySem.intText_digits (b m) (g m<|by lia) (by show((bC 10 m).map cY).toArray.size<=4300;simp at f⊢;lia);rw[this];rw[CA]
def sV(l:List Nat):PV:=.str<|S l
def DJ(l:List Nat):Prop:=∀c∈l,c<1000
def DJ.ok(h:DJ l):ė (S l)=Δ:=by
 unfold ė;rw[Array.all_eq_true];intro i b;have c:=by simpa using b
 have:=h l[i] (ŵ c);simp;lia
def Zf(l:List Nat):(S l).length=l.length:=by simp[f_]
def Z5O(h:l.length<=1000000):bP [.str<|S l]=Α (.int l.length):=by
 have b:(S l).length<=16777216:=by rw[Zf];lia
 show(if(S l).length<=16777216then Α (PV.int (S l).length)else Β)=_;rw[if_pos b,Zf]
def Z2D(hl:l.length<=100000)(sg:Str)(k:Int):aj [.sh<|sV l,.sh<|.str sg,.sh<|.int k]=.ret (.sh<|.bl<|decide (1<=(l.length:Int))&&decide ((l.length:Int)<=k)&&l.all λc=>decide<|c∈sg.cps.toList):=by
 have j:ĝ (gN 1) Ę (Ê AB (Â 1)<|Â 0) (l.map λc=>PV.str ⟨#[c]⟩) [.sh<|.str sg,.no] []=Α ((l.map λc=>decide<|c∈sg.cps.toList).map .bl):=by
  have:=Đ (g:=gN 1) (mt:=Ę) (me:=Ê AB (Â 1)<|Â 0) (λc=>PV.str ⟨#[c]⟩) (λc=>PV.bl<|decide<|c∈sg.cps.toList) (λa=>∃s,a=[.sh<|.str sg,s]) l [.sh<|.str sg,.no] [] ⟨_,rfl⟩ (by simp;lia) (by
   rintro x hx a ⟨s,rfl⟩;exact⟨[.sh<|.str sg,.sh<|.str ⟨#[x]⟩],_,[.sh<|.str sg,.sh<|.str ⟨#[x]⟩],by simp,rfl,by simp,_,rfl⟩)
  rw[this];simp
 have i:=Xi<|l.map λc=>decide<|c∈sg.cps.toList;generalize (l.map λc=>decide<|c∈sg.cps.toList).map PV.bl=bs at j i;have e:=Z5O (l:=l) (by lia);unfold sV;by_cases f:1<=(l.length:Int)
 ·by_cases h:l.length<=k
  ·simp[aj,eR,ý,e,f,h,j,i]
  ·simp[aj,eR,ý,e,f,h]
 ·simp[aj,eR,e,f]
def Z1x(l:List Nat)(c:Nat){y:Str}(hy:y=S [c]):pZ (.str<|S l) [.str y]=Α (.bl<|decide<|l.take 1=[c]):=by rw[hy];rfl
def c45:È "-"=S [45]:=by decide+kernel
def c48:È "0"=S [48]:=by decide+kernel
def QT{α:Type}(xs:List α)(k:Nat)(hk:k<=xs.length):cx xs (Α (k:Int)) Β=xs.drop k:=by unfold cx;rw[HT.mX,HT.Fc,sI hk];exact BP (by simp)
def Z3A{l:List Nat}{s:Str}(e:s.cps.toList=fM a n)(h:∀c∈l,a<=c/\c<a+n):(l.all λc=>decide<|c∈s.cps.toList)=Δ:=by rw[fL,e];exact λc f=>decide_eq_true<|List.mem_range'_1.mpr<|h c f
def Z5d(h1: -10000000000<n)(h2:n<10000000000):Ϟ [.sh<|sV<|nT n]=.ret (.sh<|.bl Δ):=by
 obtain⟨b,ds,e,hd,l1,l2,h0⟩:=Xs h1 h2;have g:=Z2D (l:=ds) (by lia) "0123456789" 10;have al:=Z3A (l:=ds) (s:="0123456789") (a:=48) (n:=10) (by decide+kernel) λc i=>by have:=hd c i;lia
 rw[al]at g;have YV:1<=(ds.length:Int):=by lia
 have Xt:(ds.length:Int)<=10:=by lia
 simp only[YV,Xt,decide_true,Bool.and_self]at g;have pl:DJ (nT n):=λc i=>by rcases Tv h1 h2 c i with h|h<;>lia
 have h0s:ė (È "0")=Δ:=by decide+kernel
 have m:=Z1x (nT n) 45 c45;have o:=Z1x ds 48 c48;have Tw:ķ (.str<|S<|nT n) (.str<|È "0")=Α (.bl<|decide<|S (nT n)=È "0"):=ŗ pl.ok h0s;have nl:=QS h1 h2;have hz:(S<|nT n).length<=16777216:=by rw[Zf];lia
 have tm:nT n=[48]->decide (S (nT n)=È "0")=Δ:=λh=>by rw[h];decide+kernel
 unfold sV at g⊢;cases b with
 |true=>
  have j:nT n=45::ds:=e;have t1:decide ((nT n).take 1=[45])=Δ:=by rw[j];simp
  rw[t1]at m;have sl:R9 (.str<|S<|nT n) (Α 1) Β=Α (.sh<|.str<|S ds):=by show(if(S<|nT n).length<=16777216then Α (RV.sh<|.str<|S<|cx (S<|nT n).cps.toList (Α 1) Β)else Β)=_;rw[if_pos hz,j];have:cx (45::ds) (Α 1) Β=ds:=QT (45::ds) 1 (by simp);show Α (RV.sh<|.str<|S<|cx (45::ds) (Α 1) Β)=_;rw[this]
  have hh:∃c r,ds=c::r/\c≠48:=by
   rcases h0 with h|h
   ·rw[j]at h;cases h
   ·exact h
  obtain⟨c,r,ec,i⟩:=hh;have t2:decide (ds.take 1=[48])=Ε:=by rw[ec];simpa using i
  rw[t2]at o;generalize decide (S (nT n)=È "0")=qq at*;cases qq<;>simp[Ϟ,gn,m,o,sl,g,Tw]
 |false=>
  have j:nT n=ds:=e;have t1:decide ((nT n).take 1=[45])=Ε:=by
   rw[j];cases k:ds with
   |nil=>rw[k]at l1;cases l1|cons a r=>have:=hd a (by rw[k];simp);simp;lia
  rw[t1]at m;rw[<-j]at g o;rcases h0 with h|⟨c,r,ec,i⟩
  ·rw[tm h]at Tw;simp[Ϟ,gn,m,g,Tw]
  ·have t2:decide ((nT n).take 1=[48])=Ε:=by rw[j,ec];simpa using i
   rw[t2]at o;generalize decide (S (nT n)=È "0")=qq at*;cases qq<;>simp[Ϟ,gn,m,o,g,Tw]
def Nb(n:Int):Prop:=-10000000000<n/\n<10000000000
def ź(n:Int):PV:=sV<|nT n
def Z2E{ns:List Int}(c:∀n∈ns,Nb n)(hl:ns.length<=1000)(l:Sl sl (ns.map ź)):dG [sl]=.ret (.ow<|ns.map .int):=by
 have p:ĝ (gN 0) Ę (Ñ<|ß Ϟ<|Ì 0 Ö) (ns.map ź) [.no] []=Α ((ns.map λy=>Δ).map .bl):=by
  have:=Đ (g:=gN 0) (mt:=Ę) (me:=Ñ<|ß Ϟ<|Ì 0 Ö) ź (λy=>PV.bl Δ) (λρ=>∃s,ρ=[s]) ns [.no] [] ⟨_,rfl⟩ (by simp;lia) (by
   rintro x b ρ ⟨s,rfl⟩;have e:=Z5d (c x b).1 (c x b).2;change Ϟ [.sh<|ź x]=_ at e;exact⟨[.sh<|ź x],_,[.sh<|ź x],by simp,rfl,by simp[e],_,rfl⟩)
  rw[this];simp[rZ]
 have o:ĝ (gN 0) Ę (a_ kR<|É (Â 0) á) (ns.map ź) [.no] []=Α (ns.map .int):=by
  have:=Đ (g:=gN 0) (mt:=Ę) (me:=a_ kR<|É (Â 0) á) ź PV.int (λρ=>∃s,ρ=[s]) ns [.no] [] ⟨_,rfl⟩ (by simp;lia) (by
   rintro x b ρ ⟨s,rfl⟩;have m:=Z3z (c x b).1 (c x b).2;have e2:=QS (c x b).1 (c x b).2;have e:kR [ź x]=Α (.int x):=by show(if(S<|nT x).length<=640then(mN<|S<|nT x).map PV.int else Β)=_;rw[if_pos (by rw[Zf];lia),m];rfl
   exact⟨[.sh<|ź x],_,[.sh<|ź x],by simp,rfl,by simp[e],_,rfl⟩)
  rw[this];simp
 have c3:=Xi<|ns.map λy=>Δ;have it:=l.it (i:=0) (ρ:=[sl]) rfl;generalize (ns.map λy=>Δ).map PV.bl=bs,ns.map ź=X at*;simp[dG,nH,-yA,it,p,o,c3]
def Tx{ns:List Int}(b:∀n∈ns,Nb n)(c:ns.length<=1000)(a:Sl sl (ns.map ź))(k:Int):ak [sl,.sh<|.int k]=.ret (.ow<|ns.map .int):=by have e:=Z2E b c a;simp[ak,nI,a.lend,e,tM]
def Tz{a:Type}(x:a)(xs:List a):cx (x::xs) (Α 1) Β=xs:=QT (x::xs) 1 (by simp)
def Z2F(e:ė a=Δ)(d:ė b=Δ):ϕ (.str a) (.str b)=Α (.bl<|!decide (a=b)):=by
 have h:ck (.str a) (.str b)=decide (a=b):=by rfl
 unfold ϕ nu;rw[show Ų (.str a)=Δ by exact e,show Ų (.str b)=Δ by exact d,h];rfl
def Z4T:ė (È "yard")=Δ:=by decide+kernel
def TC:ė (È "ray")=Δ:=by decide+kernel
def Z5P:ė (È "night")=Δ:=by decide+kernel
def TD:ė (È "day")=Δ:=by decide+kernel
def Z5e(a:1<=w/\w<=20)(b:1<=h/\h<=20):iM [.sh<|.lst [.str "yard",ź w,ź h],.sh<|.int 0]=.ret (.sh<|.lst [.int w,.int h]):=by have e:=Tx (ns:=[w,h]) (λn g=>by simp at g;unfold Nb;lia) (by simp) (.inl rfl) 0;have f:=Z2F Z4T Z4T;have c:=Tz (PV.str "yard") [ź w,ź h];simp only[â,ſ]at e;simp[iM,qg,f,c,e,ĝ,a.1,a.2,b.1,b.2,aX];rfl
def Z3B(f:Z1 w ns=Δ)(hw:ė w=Δ)(b:∀n∈ns,Nb n)(d:ns.length<=1000)(k:Int)(a:Sl sl (.str w::ns.map ź)):gv [sl,.sh<|.int k]=.ret (.sh<|Zc (Ze w) w ns):=by have e:=Tx b d (.inl rfl) k;have t:=Z1W f<|.inr rfl;have c:=Tz (PV.str w)<|ns.map ź;rcases a with rfl|rfl<;>simp[gv,nK,c,e,t]
def Z3C(h1:1<=l.length)(h2:l.length<=8)(f:∀c∈l,97<=c/\c<=122):nj [.sh<|sV l]=.ret (.sh<|.bl Δ):=by
 have d:=Z2D (l:=l) (by lia) "abcdefghijklmnopqrstuvwxyz" 8;have g:=Z3A (s:="abcdefghijklmnopqrstuvwxyz") (a:=97) (n:=26) (by decide+kernel) λc h=>by have:=f c h;lia
 rw[g]at d;have i:1<=(l.length:Int):=by lia
 have j:(l.length:Int)<=8:=by lia
 simp only[i,j]at d;simp[nj,uQ,d]
def Nm(l:List Nat):Prop:=1<=l.length/\l.length<=8/\∀c∈l,97<=c/\c<=122
def Nm.pln(h:Nm l):DJ l:=λc b=>by have:=h.2.2 c b;lia
def Z5f(a:Nm l)(h:1<=t)(g:t<=1000000000)(k:Int)(d:Sl sl [.str "day",sV l,ź t]):kC [sl,.sh<|.int k]=.ret (.ot [sV l,.int t] [] []):=by have e:=Tx (ns:=[t]) (λn f=>by simp at f;unfold Nb;lia) (by simp) (.inl rfl) k;have i:=Z3C a.1 a.2.1 a.2.2;have c:cx [PV.str "day",sV l,ź t] (Α 2) Β=[ź t]:=QT [PV.str "day",sV l,ź t] 2 (by simp);simp only[â,ſ]at e;rcases d with rfl|rfl<;>simp[kC,rz,i,c,e,h,g]
def QU:Option P3->List PV
 |none=>[.str "night"]|some r=>[.str "ray",ź r.1,ź r.2.1,ź r.2.2]
def QV(r:P3):Prop:=-1000000<=r.1/\r.1<=1000000/\ -1000000<=r.2.1/\r.2.1<=1000000/\1<=r.2.2/\r.2.2<=1000000
def ZE:Option P3->Prop
 |none=>True|some r=>QV r
def Z4l(h:QV r):qh [.sh<|c3 r]=.ret (.sh<|.bl Δ):=by
 obtain⟨h1,h2,h3,h4,b,a⟩:=h;have d:(if r.1<0then -r.1 else r.1)<=1000000:=by split<;>lia
 have c:(if r.2.1<0then -r.2.1 else r.2.1)<=1000000:=by split<;>lia
 simp[qh,wy,c3,d,c,b,a]
def dRN:(È "ray"=È "night")=False:=eq_false (by decide+kernel)
def Xu(h:Nb n):Ų (ź n)=Δ:=by
 have b:DJ (nT n):=λc d=>by rcases Tv h.1 h.2 c d with h|h<;>lia
 exact b.ok
def Z1c(l:List Nat):oz (sV l)=0:=by unfold sV oz;rfl
def Z4m(j:ė a=Δ)(i:¬a=È "night")(h:Ϩ ws=Δ)(hd:jj ws=0):ķ (.lst (.str a::ws)) (.lst [.str "night"])=Α (.bl Ε):=by
 have n:ck (.lst (.str a::ws)) (.lst [.str<|È "night"])=Ε:=by
  unfold ck hV;have:ck (.str a) (.str<|È "night")=Ε:=by unfold ck;simpa using i
  rw[this];rfl
 have m:Ų (.lst (.str a::ws))=Δ:=by unfold Ų Ϩ;rw[show Ų (.str a)=Δ by exact j,h];rfl
 have l:Ų (.lst [.str<|È "night"])=Δ:=by decide+kernel
 have k:oz (.lst (.str a::ws))=1:=by unfold oz jj;rw[hd];rfl
 unfold ķ nu;rw[n,m,l,k];rfl
def Z4n(l:ZE o)(k:Int)(b:Sl sl (QU o)):fb [sl,.sh<|.int k]=.ret (.sh<|aq o):=by
 cases o with
 |none=>
  have d:Ų (.lst [.str<|È "night"])=Δ:=by decide+kernel
  have e:ķ (.lst [.str "night"]) (.lst [.str "night"])=Α (.bl Δ):=by unfold ķ nu;rw[lG _ d,d];rfl
  change Sl sl [.str "night"]at b;rcases b with rfl|rfl<;>simp[fb,kB,e,aq]
 |some r=>
  obtain⟨u,t,d,s,q,p⟩:=l;have e:=Tx (ns:=[r.1,r.2.1,r.2.2]) (λn m=>by simp at m;unfold Nb;lia) (by simp) (.inl rfl) k;have i:=Z4l ⟨u,t,d,s,q,p⟩;have c:=Tz (PV.str "ray") [ź r.1,ź r.2.1,ź r.2.2];have j:=Z2F TC TC;simp only[â,ſ]at e;have v:ķ (.lst [.str "ray",ź r.1,ź r.2.1,ź r.2.2]) (.lst [.str "night"])=Α (.bl Ε):=by
   refine Z4m TC (by rw[dRN];exact id) ?_ ?_
   ·have y:=Xu (n:=r.1) ⟨by lia,by lia⟩;have x:=Xu (n:=r.2.1) ⟨by lia,by lia⟩;have w:=Xu (n:=r.2.2) ⟨by lia,by lia⟩;unfold Ϩ Ϩ Ϩ Ϩ;rw[y,x,w];rfl
   ·unfold ź jj jj jj jj;rfl
  change Sl sl [.str "ray",ź r.1,ź r.2.1,ź r.2.2]at b;unfold c3 at i;rcases b with rfl|rfl<;>simp[fb,kB,v,j,c,e,i,aq,c3]
@[simp]theorem Z6A{D:List (List PV×List PV)}:ϲ (.dw D)=Α (.dw D):=rfl
abbrev Dz:=List Nat×Int×List (Option P3)
def dD(d:Dz):List PV×List PV:=([sV d.1,.int d.2.1],d.2.2.map aq)
def zV(d:Dz):Dy:=(S d.1,d.2.1,d.2.2)
def TF(D:List Dz):Bool:=match D.getLast? with
 |some d=>decide<|d.2.2.length=0|none=>Ε
set_option tactic.hygienic true in
def Z24(a:∀d,D.getLast?=Α d->d.2.2.length≠0):TF D=Ε:=by
 unfold TF;split
 ·rename_i d e;simpa using a d e
 ·rfl
def Z25:Ÿ [.dw<|D.map dD]=.ret (.sh<|.bl<|TF D):=by
 unfold TF;cases e:D.getLast? with
 |none=>have:=List.getLast?_eq_none_iff.mp e;subst this;simp;rfl|some d=>
  have h:0<(D.map dD).length:=by
   have:D≠[]:=λz=>by rw[z]at e;cases e
   have:=wV.mpr this;simp;omega
  have f:(D.map dD).getLast?=Α (dD d):=by rw[List.getLast?_map,e];rfl
  have g:(dD d).1.length=2:=rfl;have i:(dD d).2.length=d.2.2.length:=by simp[dD]
  generalize D.map dD=DD at*;by_cases c:d.2.2.length=0
  ·have:(dD d).2=[]:=oO.mp (by lia);simp[Ÿ,dH,h,f,g,this,c]
  ·have:¬(dD d).2=[]:=λz=>c (by rw[<-i,z];rfl);simp[Ÿ,dH,f,g,this,c]
def Z4o{D:List Dz}(hd:D.getLast?=Α d)(hl:d.2.2.length<24)(f:ZE o)(k:Int)(a:Sl sl (QU o)):iN [sl,.sh<|.int k,.dw<|D.map dD]=.ok (.l 2<|aq o):=by
 have e:=Z4n f k a;have c:¬D.map dD=[]:=by
  have:D≠[]:=λz=>by rw[z]at hd;cases hd
  simpa using this
 have g:(D.map dD).getLast?=Α (dD d):=by rw[List.getLast?_map,hd];rfl
 have j:(dD d).1.length=2:=rfl;have h3:(dD d).2.length=d.2.2.length:=by simp[dD]
 have i:¬((dD d).2.length:Int)=24:=by lia
 have h:(dD d).2.length<16777216:=by lia
 generalize D.map dD=DD,dD d=dd at*;simp[iN,qi,gK,c,g,j,i,h,Ae,a.lend,e,WR.ix]
def Z4p(D:List Dz)(h:D.length<=1000):ĝ (gD 0 1 2) Ę (í 0) (D.map dD) [.no,.no,.no] []=Α (D.map λd=>sV d.1):=by
 have g:∀(D:List Dz) e (a b c:ŏ),e.length+D.length<=1000->ĝ (gD 0 1 2) Ę (í 0) (D.map dD) [a,b,c] e=Α (e++D.map λd=>sV d.1):=by
  intro D
  induction D with
  |nil=>intro e a b c _;simp[ĝ]|cons d D i=>
   intro e a b c h;rw[Ė]at h;have j:e.length<16777216:=by lia
   have:=i (e++[sV d.1]) (.sh<|sV d.1) (.sh<|.int d.2.1) (.bw<|d.2.2.map aq) (by simp;lia);rw[â,ĝ];simp -iota[gD,j];simpa[dD]using this
 simpa using g D [] .no .no .no (by simpa using h)
def Z5Q:S a=S b↔a=b:=by
 constructor
 ·intro h;have:=congrArg (λs=>s.cps.toList) h;simpa using this
 ·intro h;rw[h]
def Z2r(n:DJ l){D:List Dz}(c:∀d∈D,DJ d.1)(h:l∉D.map (·.1)):DN Ε (sV l) (.lst<|D.map λd=>sV d.1)=Α (.bl Ε):=by
 have q:Ų (sV l)=Δ:=by exact n.ok
 have p:∀D:List Dz,(∀d∈D,DJ d.1)->Ϩ (D.map λd=>sV d.1)=Δ:=by
  intro D
  induction D with
  |nil=>intro _;rfl|cons d D j=>
   intro c;rw[â,Ϩ,j λx m=>c x<|ð _ m];have:Ų (sV d.1)=Δ:=by exact(c d<|by simp).ok
   rw[this];rfl
 have o:((D.map λd=>sV d.1).any λy=>ck y<|sV l)=Ε:=by rw[List.any_eq_false];intro y k;obtain⟨d,hd,rfl⟩:=Ĉ.mp k;intro z;exact h<|Ĉ.mpr ⟨d,hd,Z5Q.mp<|of_decide_eq_true z⟩
 unfold DN;dsimp only;rw[q,p D c,Z1c,o];rfl
def Z5g{D:List Dz}(o:∀d,D.getLast?=Α d->d.2.2.length≠0)(hD:D.length<12)(i:∀d∈D,DJ d.1)(e:Nm l)(j:l∉D.map (·.1))(n:1<=t)(m:t<=1000000000)(k:Int)(c:Sl sl [.str "day",sV l,ź t]):kD [sl,.sh<|.int k,.dw<|D.map dD]=.ok (.d 2 [sV l,.int t]):=by
 have b:=Z25 (D:=D);rw[Z24 o]at b;have g:=Z5f e n m k c;have p:=Z4p D (by lia);have h:=Z2r e.pln i j;have a:¬((D.map dD).length:Int)=12:=by simp;lia
 have q:(D.map dD).length<16777216:=by simp;lia
 generalize D.map dD=DD,D.map (λd=>sV d.1)=NN,sV l=L at*;simp[kD,rC,gK,b,a,c.lend,g,Ģ,qQ,p,h,Ac,q,WR.ix]
def Z3D(hT:T.length<40)(g:Z1 w ns=Δ)(d:ė w=Δ)(e:∀n∈ns,Nb n)(f:ns.length<=1000)(k:Int)(c:Sl sl (.str w::ns.map ź)):gw [sl,.sh<|.int k,.bw T,.dw []]=.ok (.t 2<|fk (w,ns)):=by
 have b:=Z3B g d e f k c;have a:¬(T.length:Int)=40:=by lia
 have h:T.length<16777216:=by lia
 change _=FR.ret (.sh<|fk (w,ns))at b;simp[gw,nL,gK,a,c.lend,b,Ab,h,WR.ix]
def QW(h:Z1 w xs=Δ):xs.length<=90/\∀n∈xs,-1000000000<=n/\n<=1000000000:=by
 rcases ZB h with⟨-,h⟩|⟨-,h⟩|⟨-,h⟩|⟨-,h⟩|⟨-,h⟩
 ·obtain⟨a,b,c,rfl⟩:=QL h;simp[ZF,nv,zg]at h⊢;omega
 ·obtain⟨a,b,c,d,e,rfl⟩:=QM h;simp[Zp,Zr,nv,zg]at h⊢;omega
 ·obtain⟨a,b,c,d,e,rfl⟩:=Ny h;simp[Zt,Zr,nv,zg]at h⊢;omega
 ·obtain⟨a,b,c,d,e,f,g,i,j,rfl⟩:=Tp h;simp[Zy,nv,JF]at h⊢;omega
 ·obtain⟨a,b,c,d,e,rfl⟩:=Ny h;simp[Zt,Zr,nv,zg]at h⊢;omega
inductive Rw where
 |th (t:Th)|dy (l:List Nat) (t:Int)|tn (o:Option P3)
def Hy:Rw->List PV
 |.th t=>.str t.1::t.2.map ź|.dy l t=>[.str "day",sV l,ź t]|.tn o=>QU o
def ZC(h:Z1 w ns=Δ):(∀n∈ns,Nb n)/\ns.length<=100:=⟨λn b=>by have:=(QW h).2 n b;unfold Nb;lia,by have:=(QW h).1;lia⟩
def TJ(h:Z1 w xs=Δ):ė w=Δ:=by rcases ZB h with⟨rfl,-⟩|⟨rfl,-⟩|⟨rfl,-⟩|⟨rfl,-⟩|⟨rfl,-⟩<;>decide+kernel
def TK(g:ė a=Δ):DN Ε (.str a) (.tup [.str "ray",.str "night"])=Α (.bl<|decide (È "ray"=a)||decide (È "night"=a)):=by
 have i:Ų (.str a)=Δ:=by exact g
 have h:Ϩ [.str<|È "ray",.str<|È "night"]=Δ:=by decide+kernel
 unfold DN;dsimp only;rw[i,h];have e:∀b:Str,ck (.str b) (.str a)=decide (b=a):=λb=>by rfl
 rw[ii,ii,List.any_nil,e,e,wK];rfl
def dWD(h:Z1 w xs=Δ):¬È "ray"=w/\¬È "night"=w/\¬w=È "day":=by
 rcases ZB h with⟨rfl,-⟩|⟨rfl,-⟩|⟨rfl,-⟩|⟨rfl,-⟩|⟨rfl,-⟩<;>decide+kernel
def Z4q{D:List Dz}(hd:D.getLast?=Α d)(c:d.2.2.length<24)(b:ZE o)(k:Int):į [.sh<|.lst<|QU o,.sh<|.int k,.bw T,.dw<|D.map dD]=.ok (.l 3<|aq o):=by
 have e:=Z4o hd c b k<|.inl rfl;have i:∃a r,QU o=.str a::r/\DN Ε (.str a) (.tup [.str "ray",.str "night"])=Α (.bl Δ):=by
  cases o with
  |none=>exact⟨_,_,rfl,by rw[TK Z5P];simp⟩|some r=>exact⟨_,_,rfl,by rw[TK TC];simp⟩
 obtain⟨a,r,g,f⟩:=i;rw[g]at e⊢;simp[į,iO,gK,f,ϴ,lJ,e];rfl
def Z5h{D:List Dz}(h0:∀d,D.getLast?=Α d->d.2.2.length≠0)(hD:D.length<12)(hp:∀d∈D,DJ d.1)(hm:Nm l)(hn:l∉D.map (·.1))(h1:1<=t)(h2:t<=1000000000)(k:Int):į [.sh<|.lst [.str "day",sV l,ź t],.sh<|.int k,.bw T,.dw<|D.map dD]=.ok (.d 3 [sV l,.int t]):=by
 have e:=Z5g h0 hD hp hm hn h1 h2 k<|.inl rfl;have i:DN Ε (.str<|È "day") (.tup [.str "ray",.str "night"])=Α (.bl Ε):=by rw[TK TD,show decide (È "ray"=È "day")=Ε by decide+kernel,show decide (È "night"=È "day")=Ε by decide+kernel];rfl
 have q:=ŗ TD TD;simp[į,iO,gK,i,q,ϴ,lJ,e];rfl
def Z3E(b:T.length<40)(a:Z1 t.1 t.2=Δ)(k:Int):į [.sh<|.lst (.str t.1::t.2.map ź),.sh<|.int k,.bw T,.dw []]=.ok (.t 2<|fk t):=by have e:=Z3D b a (TJ a) (ZC a).1 (by have:=(ZC a).2;lia) k (.inl rfl);obtain⟨f,d,c⟩:=dWD a;have i:=TK<|TJ a;have q:=ŗ (TJ a) TD;simp only[f,d]at i;simp only[c]at q;simp[į,iO,gK,i,q,ϴ,lJ,e];rfl
abbrev zi:=ky 5 6 3 4<|ϴ į [6,5,3,4]
def Z6k(h:į [.sh<|.lst ws,.sh<|.int k,.bw T,.dw D]=.ok (.t 2 p))(d:List PV)(c s1 s2 a b:ŏ):
 zi (.tup [.int k,.lst ws]::d) [c,s1,s2,.no,.no,a,b] T D=zi d [c,s1,s2,.no,.no,.sh<|.int k,.sh<|.lst ws] (T++[p]) D:=by
 unfold zi;rw[ky];have e:ϴ į [6,5,3,4] (cA 3 4 T D<|(([c,s1,s2,.no,.no,a,b]:ć).set 5 (.sh<|.int k)).set 6 (.sh<|.lst ws))=.ok (.t 3 p) (cA 3 4 T D<|(([c,s1,s2,.no,.no,a,b]:ć).set 5 (.sh<|.int k)).set 6 (.sh<|.lst ws)):=by simp[ϴ,cA,lJ,rm,h,WR.ix,rW,WR.to]
 rw[e];rfl
def Z6l{D:DL}(h:į [.sh<|.lst ws,.sh<|.int k,.bw T,.dw D]=.ok (.d 3 p))(d:List PV)(c s1 s2 a b:ŏ):
 zi (.tup [.int k,.lst ws]::d) [c,s1,s2,.no,.no,a,b] T D=zi d [c,s1,s2,.no,.no,.sh<|.int k,.sh<|.lst ws] T (D++[(p,[])]):=by
 unfold zi;rw[ky];have e:ϴ į [6,5,3,4] (cA 3 4 T D<|(([c,s1,s2,.no,.no,a,b]:ć).set 5 (.sh<|.int k)).set 6 (.sh<|.lst ws))=.ok (.d 4 p) (cA 3 4 T D<|(([c,s1,s2,.no,.no,a,b]:ć).set 5 (.sh<|.int k)).set 6 (.sh<|.lst ws)):=by simp[ϴ,cA,lJ,rm,h,WR.ix,rW,WR.to]
 rw[e];rfl
def Z6m(h:į [.sh<|.lst ws,.sh<|.int k,.bw T,.dw D]=.ok (.l 3 p))(hd:D.getLast?=Α d)(f:List PV)(c s1 s2 a b:ŏ):
 zi (.tup [.int k,.lst ws]::f) [c,s1,s2,.no,.no,a,b] T D=zi f [c,s1,s2,.no,.no,.sh<|.int k,.sh<|.lst ws] T (D.dropLast++[(d.1,d.2++[p])]):=by
 unfold zi;rw[ky];have e:ϴ į [6,5,3,4] (cA 3 4 T D<|(([c,s1,s2,.no,.no,a,b]:ć).set 5 (.sh<|.int k)).set 6 (.sh<|.lst ws))=.ok (.l 4 p) (cA 3 4 T D<|(([c,s1,s2,.no,.no,a,b]:ć).set 5 (.sh<|.int k)).set 6 (.sh<|.lst ws)):=by simp[ϴ,cA,lJ,rm,h,WR.ix,rW,WR.to]
 rw[e];have g:Ah 3 4 (.l 4 p) T D=Α (T,D.dropLast++[(d.1,d.2++[p])]):=by unfold Ah;simp[hd]
 dsimp only;rw[g];rfl
def AD(r:Rw):PV:=.lst<|Hy r
def Z5i:∀(c:List Th) (d:List PV) (k:Nat) (rest:List PV) (f s1 s2 a b:ŏ),(∀t∈c,Z1 t.1 t.2=Δ)->d.length+c.length<=40->
 ∃h g,zi (ci k<|c.map (λt=>AD<|.th t)++rest) [f,s1,s2,.no,.no,a,b] d []=zi (ci (k+c.length) rest) [f,s1,s2,.no,.no,h,g] (d++c.map fk) []:=by
 intro c
 induction c with
 |nil=>intro d k rest f s1 s2 a b _ _;exact⟨a,b,by simp⟩|cons t c m=>intro d k rest f s1 s2 a b i o;rw[Ė]at o;have r:=Z3E (T:=d) (by lia) (i t<|by simp) k;obtain⟨h,g,e⟩:=m (d++[fk t]) (k+1) rest f s1 s2 (.sh<|.int k) (.sh<|AD<|.th t) (λx n=>i x<|ð _ n) (by simp;lia);refine⟨h,g,?_⟩;show zi (.tup [.int k,.lst<|Hy<|.th t]::ci (k+1) _) _ _ _=_;rw[Z6k<|show į [.sh<|.lst<|Hy<|.th t,.sh<|.int k,.bw d,.dw []]=_ from r];refine e.trans ?_;rw[Ė,show k+1+c.length=k+(c.length+1) by lia];simp
def Z5j:∀(c:List (Option P3)) (T:List PV) (D:List Dz) (d:Dz) (k:Nat) (rest:List PV) (f s1 s2 a b:ŏ),(∀o∈c,ZE o)->d.2.2.length+c.length<=24->
 ∃h g,zi (ci k<|c.map (λo=>AD<|.tn o)++rest) [f,s1,s2,.no,.no,a,b] T ((D++[d]).map dD)=zi (ci (k+c.length) rest) [f,s1,s2,.no,.no,h,g] T ((D++[(d.1,d.2.1,d.2.2++c)]).map dD):=by
 intro c
 induction c with
 |nil=>intro T D d k rest f s1 s2 a b _ _;exact⟨a,b,by simp⟩|cons o c m=>
  intro T D d k rest f s1 s2 a b i p;rw[Ė]at p;have r:=Z4q (T:=T) (D:=D++[d]) (d:=d) (by simp) (by lia) (i o<|by simp) k;obtain⟨h,g,e⟩:=m T D (d.1,d.2.1,d.2.2++[o]) (k+1) rest f s1 s2 (.sh<|.int k) (.sh<|AD<|.tn o) (λx n=>i x<|ð _ n) (by simp;lia);refine⟨h,g,?_⟩;show zi (.tup [.int k,.lst<|Hy<|.tn o]::ci (k+1) _) _ _ _=_;rw[Z6m (d:=dD d) (show į [.sh<|.lst<|Hy<|.tn o,.sh<|.int k,.bw T,.dw<|(D++[d]).map dD]=_ from r) (by simp)];have q:((D++[d]).map dD).dropLast++[((dD d).1,(dD d).2++[aq o])]=(D++[(d.1,d.2.1,d.2.2++[o])]).map dD:=by simp[dD]
  rw[q];refine e.trans ?_;rw[Ė,show k+1+c.length=k+(c.length+1) by lia];simp
def Zq(d:Dz):Prop:=Nm d.1/\1<=d.2.1/\d.2.1<=1000000000/\1<=d.2.2.length/\d.2.2.length<=24/\∀o∈d.2.2,ZE o
def Ha(d:Dz):List PV:=AD (.dy d.1 d.2.1)::d.2.2.map λo=>AD<|.tn o
def Z5k:∀(ds:List Dz) (T:List PV) (D:List Dz) (k:Nat) (c s1 s2 a b:ŏ),(∀d∈D++ds,Zq d)->((D++ds).map (·.1)).Nodup->D.length+ds.length<=12->
 ∃p n,zi (ci k<|ds.flatMap Ha) [c,s1,s2,.no,.no,a,b] T (D.map dD)=.ok (T,(D++ds).map dD) [c,s1,s2,.no,.no,p,n]:=by
 intro ds
 induction ds with
 |nil=>intro T D k c s1 s2 a b _ _ _;exact⟨a,b,by simp[ky];rfl⟩|cons d ds s=>
  intro T D k c s1 s2 a b e i t;rw[Ė]at t;obtain⟨B,A,y,g4,w,v⟩:=e d (by simp);have h:d.1∉D.map (·.1):=by rw[š,â,wU]at i;intro z;exact i.2.2 _ z _ (by simp) rfl
  have u:∀x,D.getLast?=Α x->x.2.2.length≠0:=λx g=>by have:=(e x<|jJ _<|B0 g).2.2.2.1;lia
  have r:=Z5h (T:=T) u (by lia) (λx g=>(e x<|jJ _ g).1.pln) B h A y (k:Int);show ∃p n,zi (.tup [.int k,.lst<|Hy<|.dy d.1 d.2.1]::ci (k+1) (d.2.2.map (λo=>AD<|.tn o)++ds.flatMap Ha)) _ _ _=_;rw[Z6l<|show į [.sh<|.lst<|Hy<|.dy d.1 d.2.1,.sh<|.int k,.bw T,.dw<|D.map dD]=_ from r];have C:D.map dD++[([sV d.1,.int d.2.1],[])]=(D++[(d.1,d.2.1,[])]).map dD:=by rw[š];rfl
  rw[C];obtain⟨J,H,E⟩:=Z5j d.2.2 T D (d.1,d.2.1,[]) (k+1) (ds.flatMap Ha) c s1 s2 (.sh<|.int k) (.sh<|.lst<|Hy<|.dy d.1 d.2.1) v (by simpa using w)
  rw[E];have j:D++[d]++ds=D++d::ds:=by simp
  obtain⟨I,G,m⟩:=s T (D++[d]) (k+1+d.2.2.length) c s1 s2 J H (by rw[j];exact e) (by rw[j];exact i) (by simp;lia);rw[j]at m;exact⟨I,G,m⟩
def Z6n(D:List Dz)(h:D.length<=1000)(hd:∀d∈D,d.2.2.length<=1000):ĝ (gD 0 1 2) Ę (Ϧ<|É (í 0)<|É (í 1)<|É (Ñ<|uk jo<|É (Â 2) á) á) (D.map dD) [.no,.no,.no] []=Α ((D.map zV).map Ϸ):=by
 have g:∀(D:List Dz) f (a b c:ŏ),f.length+D.length<=1000->(∀d∈D,d.2.2.length<=1000)->ĝ (gD 0 1 2) Ę (Ϧ<|É (í 0)<|É (í 1)<|É (Ñ<|uk jo<|É (Â 2) á) á) (D.map dD) [a,b,c] f=Α (f++(D.map zV).map Ϸ):=by
  intro D
  induction D with
  |nil=>intro f a b c _ _;simp[ĝ]|cons d D j=>
   intro f a b c h hd;rw[Ė]at h;have l:f.length<16777216:=by lia
   have:=j (f++[Ϸ<|zV d]) (.sh<|sV d.1) (.sh<|.int d.2.1) (.bw<|d.2.2.map aq) (by simp;lia)<|λx k=>hd x<|ð _ k;have e:dD d=([sV d.1,.int d.2.1],d.2.2.map aq):=rfl;have m:Ϸ (zV d)=.tup [sV d.1,.int d.2.1,.lst<|d.2.2.map aq]:=rfl;rw[â,ĝ,â,â,e];rw[m]at this⊢;simp[gD,l];simpa using this
 simpa using g D [] .no .no .no (by simpa using h) hd
def Z5l(w h:Int){T:List Th}{D:List Dz}(hT:T.length<=100000)(a:D.length<=1000)(hd:∀d∈D,d.2.2.length<=1000):gp [.sh<|.int w,.sh<|.int h,.bw<|T.map fk,.dw<|D.map dD]=.ok ["width","height","things","days"] [.int w,.int h,.lst<|T.map fk,.lst<|(D.map zV).map Ϸ]:=by have c:=Z6n D a hd;simp[gp,eB,putN,vq,ywh,ywt,ywd,yht,yhd,ytd,c,Qa,Jf,qQ]
def wC(s:String):List Nat:=(È s).cps.toList
def Oi(s:Str):S s.cps.toList=s:=iA (by simp)
def aJ:Rw->List (List Nat)
 |.th t=>t.1.cps.toList::t.2.map nT|.dy l t=>[wC "day",l,nT t]|.tn Β=>[wC "night"]|.tn (Α r)=>[wC "ray",nT r.1,nT r.2.1,nT r.2.2]
theorem Xw:∀r:Rw,(aJ r).map sV=Hy r
 |.th t=>by unfold aJ Hy sV;rw[â,Oi,Ĺ];rfl|.dy l t=>rfl|.tn Β=>rfl|.tn (Α r)=>rfl
def ZD(T:List Th)(D:List Dz):List Rw:=T.map .th++D.flatMap λd=>.dy d.1 d.2.1::d.2.2.map .tn
def Z2(ws:List (List Nat)):List Nat:=ĉ [32] ws
def yT(w h:Int):List (List Nat):=[wC "yard",nT w,nT h]
def qA(w h:Int)(T:List Th)(D:List Dz):List (List Nat):=Z2 (yT w h)::(ZD T D).map λr=>Z2<|aJ r
def yY(w h:Int)(T:List Th)(D:List Dz):List Nat:=ĉ [10] (qA w h T D)
def Wd(l:List Nat):Prop:=l.length<=11/\∀c∈l,33<=c/\c<256/\c≠59
def Zk(h:Nb n):Wd (nT n):=⟨(QS h.1 h.2).2,λc b=>by rcases Tv h.1 h.2 c b with h|h<;>lia⟩
def Nm.wd(h:Nm l):Wd l:=⟨by have:=h.2.1;lia,λc b=>by have:=h.2.2 c b;lia⟩
def Oj(h:((wC s).length<=11/\(wC s).all (λc=>decide<|33<=c/\c<256/\c≠59)=Δ)):Wd (wC s):=⟨h.1,λc d=>of_decide_eq_true<|fL.mp h.2 c d⟩
def Z5m(h:Z1 w xs=Δ):Wd w.cps.toList:=by rcases ZB h with⟨rfl,-⟩|⟨rfl,-⟩|⟨rfl,-⟩|⟨rfl,-⟩|⟨rfl,-⟩<;>exact Oj (by decide+kernel)
def TL:Rw->Prop
 |.th t=>Z1 t.1 t.2=Δ|.dy l t=>Nm l/\1<=t/\t<=1000000000|.tn o=>ZE o
theorem NA:∀{r:Rw},TL r->(∀x∈aJ r,Wd x)/\aJ r≠[]/\(aJ r).length<=101
 |.th t,h=>by
   have d:=h;refine⟨λx b=>?_,by simp[aJ],?_⟩
   ·rcases ù.mp b with rfl|b
    ·exact Z5m d
    ·obtain⟨n,f,rfl⟩:=Ĉ.mp b;exact Zk<|(ZC d).1 n f
   ·have:=(ZC d).2;simp[aJ];omega
 |.dy l t,h=>by
   obtain⟨e,i,g⟩:=h;refine⟨λx b=>?_,by simp[aJ],by simp[aJ]⟩;have:=by simpa[aJ]using b
   rcases this with rfl|rfl|rfl
   ·exact Oj (by decide+kernel)
   ·exact e.wd
   ·exact Zk ⟨by lia,by lia⟩
 |.tn Β,_=>by
   refine⟨λx b=>?_,by simp[aJ],by simp[aJ]⟩;have:=by simpa[aJ]using b
   subst this;exact Oj (by decide+kernel)
 |.tn (Α r),h=>by
   obtain⟨e,i,g,h4,h5,h6⟩:=h;refine⟨λx b=>?_,by simp[aJ],by simp[aJ]⟩;have:=by simpa[aJ]using b
   rcases this with rfl|rfl|rfl|rfl
   ·exact Oj (by decide+kernel)
   ·exact Zk ⟨by lia,by lia⟩
   ·exact Zk ⟨by lia,by lia⟩
   ·exact Zk ⟨by lia,by lia⟩
theorem TM:∀(ys:List (List Nat)) {x:Nat},x∈ĉ [c] ys->x=c\/∃y∈ys,x∈y
 |[],_,h=>by cases h|[y],_,h=>.inr ⟨y,by simp,h⟩|y::z::r,x,h=>by
  have f:=h;rcases Ŵ.mp f with b|b
  ·rcases Ŵ.mp b with a|a
   ·exact .inr ⟨y,by simp,a⟩
   ·exact .inl (by simpa using a)
  ·rcases TM (z::r) b with e|⟨q,d,e⟩
   ·exact .inl e
   ·exact .inr ⟨q,ð _ d,e⟩
theorem Xx:∀(ys:List (List Nat)) (B:Nat),(∀y∈ys,y.length<=B)->(ĉ s ys).length<=ys.length*(B+s.length)
 |[],B,_=>by simp;rfl|[y],B,h=>by have:=h y (by simp);show y.length<=_;simp;lia|y::z::r,B,h=>by have h1:=h y (by simp);have ih:=Xx (s:=s) (z::r) B λq b=>h q<|ð _ b;show(y++s++ĉ s (z::r)).length<=_;rw[ŭ,ŭ,Ė,oT,xf];lia
def ZJ(ys:List (List Nat))(B:Nat)(h:∀y∈ys,y.length<=B):(ĉ [c] ys).length<=ys.length*(B+1):=Xx ys B h
def Xy{ws:List (List Nat)}(h:∀x∈ws,Wd x){c:Nat}(hc:autoParam (c=10\/c=59) Ι):c∉Z2 ws:=λz=>by
 rcases TM ws z with e|⟨y,b,e⟩
 ·lia
 ·have:=(h y b).2 c e;lia
def QX(h:∀x∈ws,Wd x)(hl:ws.length<=101):(Z2 ws).length<=1212:=by have:=ZJ (c:=32) ws 11 λy b=>(h y b).1;unfold Z2;lia
def QY(hw:1<=w/\w<=20)(hh:1<=h/\h<=20):(∀x∈yT w h,Wd x)/\yT w h≠[]/\(yT w h).length<=101:=by
 refine⟨λx c=>?_,by simp[yT],by simp[yT]⟩;have:=by simpa[yT]using c
 rcases this with rfl|rfl|rfl
 ·exact Oj (by decide+kernel)
 ·exact Zk ⟨by lia,by lia⟩
 ·exact Zk ⟨by lia,by lia⟩
def Z5n{W:List (List<|List Nat)}(hl:W.length<=1000)(h:∀ws∈W,(∀x∈ws,Wd x)/\ws.length<=101):(ĉ [10] (W.map Z2)).length<=1213000:=by
 have:=ZJ (c:=10) (W.map Z2) 1212 λy d=>by obtain⟨ws,a,rfl⟩:=Ĉ.mp d;exact QX (h ws a).1 (h ws a).2
 rw[ģ]at this;lia
def TN{c:Nat}{cs:List Nat}{y:Str}(hy:y=S (c::cs)){ys:List (List Nat)}(hl:(ĉ (c::cs) ys).length<=16000000)(h0:ys≠[])(hn:∀y∈ys,c∉y)(hc:autoParam (¬c∈cs) Ι)(hk:autoParam (∀q∈c::cs,q<256) Ι):ϖ (sV<|ĉ (c::cs) ys) [.str y]=Α (.ow<|ys.map sV):=by subst hy;show(if((S (c::cs)).length==0)=Ε/\(S<|ĉ (c::cs) ys).length+2<=16777216then Α (RV.ow<|(PySem.Txt.split (S<|ĉ (c::cs) ys)<|S (c::cs)).map .str)else Β)=_;rw[if_pos ⟨rfl,by rw[Zf];lia⟩,Sp.uC hc hk h0 hn,Ĺ];rfl
def c10:È "\n"=S [10]:=by decide+kernel
def NB:È " "=S [32]:=by decide+kernel
def QZ{ws:List (List Nat)}(h:∀x∈ws,Wd x)(h0:ws≠[])(hl:ws.length<=101):ϖ (sV<|Z2 ws) [.str " "]=Α (.ow<|ws.map sV):=
 TN NB (by have:=QX h hl;unfold Z2 at this;lia) h0 λy hy z=>by have:=(h y hy).2 32 z;lia
def Z3F{W:List (List<|List Nat)}(hl:W.length<=1000)(h:∀ws∈W,(∀x∈ws,Wd x)/\ws≠[]/\ws.length<=101):ĝ (gN 0) Ę (Ñ<|uD ϖ (Â 0)<|É (mC<|.str " ") á) ((W.map Z2).map sV) [.no] []=Α (W.map λws=>.lst<|ws.map sV):=by
 have:=Đ (g:=gN 0) (mt:=Ę) (me:=Ñ<|uD ϖ (Â 0)<|É (mC<|.str " ") á) (λws=>sV<|Z2 ws) (λws=>PV.lst<|ws.map sV) (λa=>∃s,a=[s]) W [.no] [] ⟨_,rfl⟩ (by simp;lia) (by
  rintro ws d a ⟨s,rfl⟩;obtain⟨j,i,f⟩:=h ws d;have e:=QZ j i f;unfold sV at e⊢;simp[e])
 simpa[rZ]using this
def Xz(e:∀t∈T,Z1 t.1 t.2=Δ)(f:∀d∈D,Zq d):∀r∈ZD T D,TL r:=by
 intro r a;rcases Ŵ.mp a with a|a
 ·obtain⟨t,b,rfl⟩:=Ĉ.mp a;exact e t b
 ·obtain⟨d,hd,a⟩:=sy.mp a;obtain⟨j,i,h,_,_,g⟩:=f d hd;rcases ù.mp a with rfl|a
  ·exact⟨j,i,h⟩
  ·obtain⟨o,c,rfl⟩:=Ĉ.mp a;exact g o c
def Z27(hT:T.length<=40)(f:∀d∈D,Zq d)(hl:D.length<=12):(ZD T D).length<=400:=by
 have:∀D:List Dz,(∀d∈D,Zq d)->(D.flatMap λd=>Rw.dy d.1 d.2.1::d.2.2.map Rw.tn).length<=D.length*25:=by
  intro D
  induction D with
  |nil=>intro _;simp|cons d D c=>intro h;have h1:=c λx e=>h x<|ð _ e;have h2:=(h d<|by simp).2.2.2.2.1;rw[mB,ŭ,Ė,Ė,ģ];lia
 have:=this D f;unfold ZD;rw[ŭ,ģ];lia
def Z5R(T:List Th)(D:List Dz):((ZD T D).map λr=>PV.lst<|(aJ r).map sV)=T.map (λt=>AD<|.th t)++D.flatMap Ha:=by
 have e:∀r,PV.lst ((aJ r).map sV)=AD r:=λr=>by unfold AD;rw[Xw]
 unfold ZD;rw[su λr x=>e r,š,Ĺ,List.map_flatMap];congr 1;have:(λd:Dz=>List.map (λr=>AD r) (Rw.dy d.1 d.2.1::d.2.2.map Rw.tn))=Ha:=funext λd=>by rw[â,Ĺ];rfl
 rw[this]
def XA{w h:Int}(hw:1<=w/\w<=20)(hh:1<=h/\h<=20){T:List Th}(hT:∀t∈T,Z1 t.1 t.2=Δ)(BC:T.length<=40){D:List Dz}(hD:∀d∈D,Zq d)(BD:D.length<=12)(hn:(D.map (·.1)).Nodup):cV [.sh<|sV<|yY w h T D]=.ret (.sh<|Z0 w h T<|D.map zV):=by
 obtain⟨y1,y2,y3⟩:=QY hw hh;have hW:∀ws∈yT w h::(ZD T D).map aJ,(∀x∈ws,Wd x)/\ws≠[]/\ws.length<=101:=λws hws=>by
  rcases ù.mp hws with rfl|hws
  ·exact⟨y1,y2,y3⟩
  ·obtain⟨r,hr,rfl⟩:=Ĉ.mp hws;exact NA<|Xz hT hD r hr
 have hWl:(yT w h::(ZD T D).map aJ).length<=1000:=by have:=Z27 BC hD BD;simp;lia
 have eT:yY w h T D=ĉ [10] ((yT w h::(ZD T D).map aJ).map Z2):=by unfold yY qA;rw[â,Ĺ];rfl
 have sp:=TN c10 (ys:=(yT w h::(ZD T D).map aJ).map Z2) (by have:=Z5n hWl λws hws=>⟨(hW ws hws).1,(hW ws hws).2.2⟩;lia) (by simp) (λy hy=>by obtain⟨ws,hw,rfl⟩:=Ĉ.mp hy;exact Xy (hW ws hw).1);rw[<-eT]at sp;have rc:=Z3F hWl hW;have er:((yT w h::(ZD T D).map aJ).map λws=>PV.lst<|ws.map sV)=PV.lst [.str "yard",ź w,ź h]::(T.map (λt=>AD<|.th t)++D.flatMap Ha):=by rw[â,Ĺ,<-Z5R];rfl
 rw[er]at rc;have sz:=Z5e hw hh;have ct:=Tz (PV.lst [.str "yard",ź w,ź h])<|T.map (λt=>AD<|.th t)++D.flatMap Ha;obtain⟨a1,b1,e1⟩:=Z5i T [] 1 (D.flatMap Ha) (.sh<|sV<|yY w h T D) (.ow (PV.lst [.str "yard",ź w,ź h]::(T.map (λt=>AD<|.th t)++D.flatMap Ha))) (.sh<|.lst [.int w,.int h]) .no .no hT (by simpa using BC);obtain⟨a2,b2,e2⟩:=Z5k D ([]++T.map fk) [] (1+T.length) (.sh<|sV<|yY w h T D) (.ow (PV.lst [.str "yard",ź w,ź h]::(T.map (λt=>AD<|.th t)++D.flatMap Ha))) (.sh<|.lst [.int w,.int h]) a1 b1 (by simpa using hD) (by simpa using hn) (by simpa using BD);rw[ſ]at e2;have lp:=e1.trans e2;rw[ϊ,ϊ]at lp;have lk:=Z25 (D:=D);rw[Z24 λd e=>by have:=(hD d<|B0 e).2.2.2.1;lia]at lk;have yd:=Z5l w h (T:=T) (D:=D) (by lia) (by lia) λd hd=>by have:=(hD d hd).2.2.2.2.1;lia
 have eq:Z0 w h T (D.map zV)=.ins "Yard" ["width","height","things","days"] [.int w,.int h,.lst<|T.map fk,.lst<|(D.map zV).map Ϸ]:=rfl;rw[eq];generalize (D.map zV).map Ϸ=DY,D.map dD=DD,T.map fk=TH,T.map (λt=>AD<|.th t)++D.flatMap Ha=RR,((yT w h::(ZD T D).map aJ).map Z2).map sV=LN,PV.lst [.str "yard",ź w,ź h]=YR,yY w h T D=TX at*;unfold sV at sp lp⊢;generalize S TX=X at*;unfold zi at lp;have pl1:dQ (.sh<|.str X)=Δ:=rfl;simp[cV,qk,ý,sp,rc,sz];have em:Bv (Ef<|Ñ<|pY (Â 1) (mP<|Æ 1) jm) [.sh<|.str X,.ow (YR::RR),.sh<|.lst [.int w,.int h],.no,.no,.no,.no]=.ok (ci 1 RR) [.sh<|.str X,.ow (YR::RR),.sh<|.lst [.int w,.int h],.no,.no,.no,.no]:=by simp[Ef,ct]
 have tl:(ä (au (dU<|Ñ<|ß Ÿ<|Ì 4 Ö) dA cL)<|Ā<|ņ<|fH "Yard" gp (Ü (Ê Þ (Â 2)<|Æ 0)<|Ü (Ê Þ (Â 2)<|Æ 1)<|Ì 3<|Ì 4 Ö)) (cA 3 4 TH DD [.sh<|.str X,.ow (YR::RR),.sh<|.lst [.int w,.int h],.no,.no,a2,b2])=.ok (.rt<|.sh<|.ins "Yard" ["width","height","things","days"] [.int w,.int h,.lst TH,.lst DY]) (cA 3 4 TH DD [.sh<|.str X,.ow (YR::RR),.sh<|.lst [.int w,.int h],.no,.no,a2,b2]):=by simp[cA,rm,lk,yd]
 have pa:([.sh<|.str X,.ow (YR::RR),.sh<|.lst [.int w,.int h],.no,.no,.no,.no]:ć).all dQ=Δ:=rfl;unfold S2;rw[if_pos ⟨pa,by simp,by simp⟩];simp only[sA,sB,em];rw[if_pos pa,lp];simp only[Ĳ.bM,tl];rfl
theorem XB:∀ys:List (List Nat),oA (ys.map sV)=Α ys
 |[]=>rfl|y::ys=>by show(oA<|ys.map sV).map ((S y).cps.toList::·)=_;rw[XB ys];rfl
theorem XC:∀(ys:List (List Nat)) (B:Nat),(∀y∈ys,y.length<=B)->(ys.map aa).sum<=ys.length*B
 |[],_,_=>by simp|y::ys,B,h=>by have h1:=h y (by simp);have ih:=XC ys B λq b=>h q<|ð _ b;rw[â,sD,Ė,oT];lia
def ZW(d:y=S [c])(h:∀x∈ys,x.length<=B)(e:ys.length*(B+1)<=16000000):ax (.str y) [.lst<|ys.map sV]=Α (sV<|ĉ [c] ys):=by rw[d];show((oA<|ys.map sV).bind λys=>if(ys.map aa).sum+ys.length*(S [c]).length<=16777216then Α (PV.str<|S<|ĉ (S [c]).cps.toList ys)else Β)=_;rw[XB];have h1:=XC ys B h;have f:(S [c]).length=1:=rfl;show(if(ys.map aa).sum+ys.length*(S [c]).length<=16777216then Α (PV.str<|S<|ĉ [c] ys)else Β)=_;rw[f,if_pos (by lia)];rfl
def TQ(h:∀x∈ws,Wd x)(c:ws.length<=101):ax (.str " ") [.lst<|ws.map sV]=Α (sV<|Z2 ws):=
 ZW NB (λx b=>(h x b).1) (by omega)
def Z3G(h:Nb n):n.natAbs.log2<1920:=by
 have:n.natAbs<2^1920:=by
  have c:n.natAbs<2^34:=by unfold Nb at h;lia
  exact Ţ c (sG (by lia)<|by lia)
 by_cases b:n.natAbs=0
 ·rw[b];decide
 ·exact(Nat.log2_lt b).mpr this
def Zh(h:Nb n):ba [.int n]=Α (ź n):=by show(if n.natAbs.log2<1920then Α (PV.str<|È<|ϙ n)else Β)=_;rw[if_pos<|Z3G h,Z3x];rfl
def XD{ns:List Int}(d:∀n∈ns,Nb n)(hl:ns.length<=1000):ĝ (gN 0) Ę (a_ ba<|É (Â 0) á) (ns.map .int) [.no] []=Α (ns.map ź):=by
 have:=Đ (g:=gN 0) (mt:=Ę) (me:=a_ ba<|É (Â 0) á) PV.int ź (λa=>∃s,a=[s]) ns [.no] [] ⟨_,rfl⟩ (by simp;lia) (by
  rintro x c a ⟨s,rfl⟩;have e:=Zh<|d x c;exact⟨[.sh<|.int x],_,[.sh<|.int x],by simp,rfl,by simp[e],_,rfl⟩)
 simpa using this
def AE(d:Dz):List (List Nat):=Z2 (aJ<|.dy d.1 d.2.1)::d.2.2.map λo=>Z2<|aJ<|.tn o
def Z2G(h:Zq d):(AE d).length<=25:=by have:=h.2.2.2.2.1;simp[AE];omega
def Z3H(w h:Int)(T:List Th)(D:List Dz):qA w h T D=Z2 (yT w h)::(T.map (λt=>Z2<|aJ<|.th t)++D.flatMap AE):=by
 unfold qA ZD;rw[š,Ĺ,List.map_flatMap];have:(λd:Dz=>List.map (λr=>Z2<|aJ r) (Rw.dy d.1 d.2.1::d.2.2.map Rw.tn))=AE:=funext λd=>by rw[â,Ĺ];rfl
 rw[this];rfl
def XE{w h:Int}{T:List Th}{D:List Dz}(BC:T.length<=40)(hD:∀d∈D,Zq d)(BD:D.length<=12):(qA w h T D).length<=401:=by have:=Z27 BC hD BD;simp[qA];omega
def XF{w h:Int}(hw:1<=w/\w<=20)(hh:1<=h/\h<=20){T:List Th}(hT:∀t∈T,Z1 t.1 t.2=Δ){D:List Dz}(hD:∀d∈D,Zq d):∀x∈qA w h T D,x.length<=1212:=λx hx=>by
 rcases ù.mp hx with rfl|hx
 ·obtain⟨y1,y2,y3⟩:=QY hw hh;exact QX y1 y3
 ·obtain⟨r,hr,rfl⟩:=Ĉ.mp hx;obtain⟨y1,y2,y3⟩:=NA<|Xz hT hD r hr;exact QX y1 y3
def XG(b:1<=w/\w<=20)(c:1<=h/\h<=20)(e:∀t∈T,Z1 t.1 t.2=Δ)(g:T.length<=40)(a:∀d∈D,Zq d)(f:D.length<=12):ax (.str "\n") [.lst<|(qA w h T D).map sV]=Α (sV<|yY w h T D):=
 ZW c10 (XF b c e a) (by have:=XE (w:=w) (h:=h) g a f;omega)
def pW:Rw->List (PV×List Nat)
 |.th t=>(.str t.1,t.1.cps.toList)::t.2.map λn=>(.int n,nT n)
 |.dy l t=>[(.str "day",wC "day"),(sV l,l),(.int t,nT t)]|.tn Β=>[(.str "night",wC "night")]|.tn (Α r)=>[(.str "ray",wC "ray"),(.int r.1,nT r.1),(.int r.2.1,nT r.2.1),(.int r.2.2,nT r.2.2)]
theorem Z5S:∀r:Rw,(pW r).map (·.2)=aJ r
 |.th t=>by unfold pW aJ;rw[â,Ĺ];rfl|.dy _ _=>rfl|.tn Β=>rfl|.tn (Α _)=>rfl
def Q_(s:String):ba [.str s]=Α (sV<|wC s):=congrArg (λz=>Α<|PV.str z) (Oi _).symm
theorem Z4U:∀{r:Rw},TL r->∀x∈pW r,ba [x.1]=Α (sV x.2)
 |.th t,h=>fun x a=>by
   have i:=h;rcases ù.mp a with rfl|a
   ·exact congrArg (λz=>Α<|PV.str z) (Oi _).symm
   ·obtain⟨n,d,rfl⟩:=Ĉ.mp a;exact Zh<|(ZC i).1 n d
 |.dy l t,⟨g,f,e⟩=>fun x a=>by
   have:=by simpa[pW]using a
   rcases this with rfl|rfl|rfl
   ·exact Q_ _
   ·rfl
   ·exact Zh ⟨by lia,by lia⟩
 |.tn Β,_=>fun x a=>by
   have:=by simpa[pW]using a
   subst this;exact Q_ _
 |.tn (Α r),⟨g,f,e,h4,h5,h6⟩=>fun x a=>by
   have:=by simpa[pW]using a
   rcases this with rfl|rfl|rfl|rfl
   ·exact Q_ _
   ·exact Zh ⟨by lia,by lia⟩
   ·exact Zh ⟨by lia,by lia⟩
   ·exact Zh ⟨by lia,by lia⟩
def TR{ws:List (PV×List Nat)}(h:∀x∈ws,ba [x.1]=Α (sV x.2))(m:∀x∈ws,Wd x.2)(l:ws.length<=101):č [.sh<|.lst<|ws.map (·.1)]=.ret (.sh<|sV<|Z2<|ws.map (·.2)):=by
 have c:=Đ (g:=gN 0) (mt:=Ę) (me:=a_ ba<|É (Â 0) á) (λx:PV×List Nat=>x.1) (λx=>sV x.2) (λa=>∃s,a=[s]) ws [.no] [] ⟨_,rfl⟩ (by simp;lia) (by
  rintro x d a ⟨s,rfl⟩;have e:=h x d;simp[e])
 have j:=TQ (λy k=>by obtain⟨x,d,rfl⟩:=Ĉ.mp k;exact m x d) (by simpa using l);rw[Ĺ]at j;have n:(sV ∘ λx:PV×List Nat=>x.2)=λx=>sV x.2:=rfl;rw[n]at j;simp[č,lL,c,j]
def XH(h:TL r):č [.sh<|.lst<|(pW r).map (·.1)]=.ret (.sh<|sV<|Z2<|aJ r):=by obtain⟨b,h2,a⟩:=NA h;rw[<-Z5S]at b a⊢;exact TR (Z4U h) (λx d=>b _<|Ĉ.mpr ⟨x,d,rfl⟩) (by simpa using a)
def cw(t:Th):PV:=.lst (.str t.1::t.2.map .int)
def Z3I(h:Z1 t.1 t.2=Δ):č [.sh<|cw t]=.ret (.sh<|sV<|Z2<|aJ<|.th t):=by
 have:=XH (r:=.th t) h;have e:(pW<|.th t).map (·.1)=.str t.1::t.2.map .int:=by unfold pW;rw[â,Ĺ];rfl
 rw[e]at this;exact this
def Z2s{T:List Th}(f:∀t∈T,Z1 t.1 t.2=Δ)(hl:T.length<=1000):ĝ (gN 0) Ę (Ñ<|ß č<|Ì 0 Ö) (T.map cw) [.no] []=Α (T.map λt=>sV<|Z2<|aJ<|.th t):=by
 have:=Đ (g:=gN 0) (mt:=Ę) (me:=Ñ<|ß č<|Ì 0 Ö) cw (λt=>sV<|Z2<|aJ<|.th t) (λa=>∃s,a=[s]) T [.no] [] ⟨_,rfl⟩ (by simp;lia) (by
  rintro t d a ⟨s,rfl⟩;have e:=Z3I<|f t d;simp[e])
 simpa using this
def Z5o(g:ZE o)(hR:R.length<1000)(d s1 s2 s3 s5 c b:ŏ):ů [d,s1,s2,s3,.ow R,s5,c,b,.sh<|aq o]=.ok .nx [d,s1,s2,s3,.ow<|R++[sV<|Z2<|aJ<|.tn o],s5,c,b,.sh<|aq o]:=by
 have f:R.length<16777216:=by lia
 cases o with
 |none=>have e:sV (Z2<|aJ<|.tn Β)=.str "night":=congrArg PV.str<|Oi _;rw[e];simp[ů,aq,tM,f]|some r=>
  have j:=XH (r:=.tn<|some r) g;have e:(pW<|.tn<|some r).map (·.1)=[.str "ray",.int r.1,.int r.2.1,.int r.2.2]:=rfl;rw[e]at j;have h:é (.lst [.str "ray"]) (.lst [.int r.1,.int r.2.1,.int r.2.2])=Α (.ow [.str "ray",.int r.1,.int r.2.1,.int r.2.2]):=by rfl
  simp[ů,aq,c3,tM,f,j,h]
theorem Z2a(d s1 s2 s3 s5 c b:ŏ):∀(a:List (Option P3)) (R:List PV) (f:ŏ),(∀o∈a,ZE o)->R.length+a.length<=1000->∃g,Ŭ (gN 8) ů (a.map aq) [d,s1,s2,s3,.ow R,s5,c,b,f]=.ok .nx [d,s1,s2,s3,.ow<|R++a.map λo=>sV<|Z2<|aJ<|.tn o,s5,c,b,g]
 |[],R,f,_,_=>⟨f,by simp[Ŭ]⟩|o::a,R,f,h,m=>by rw[Ė]at m;have k:=Z5o (h o<|by simp) (R:=R) (by lia) d s1 s2 s3 s5 c b;obtain⟨g,e⟩:=Z2a d s1 s2 s3 s5 c b a (R++[sV<|Z2<|aJ<|.tn o]) (.sh<|aq o) (λx l=>h x<|ð _ l) (by simp;lia);refine⟨g,?_⟩;show(ů [d,s1,s2,s3,.ow R,s5,c,b,.sh<|aq o]).bind _=_;rw[k];refine cE e ?_;simp
theorem Z2H(g s1 s2 s3:ŏ):∀(D:List Dz) (R:List (List Nat)) (a b c d:ŏ),(∀d∈D,Zq d)->R.length+25*D.length<=1000->∃l k c' i,Ŭ (gT 3<|ë (gN 5)<|ë (gN 6)<|ë (gN 7) Ş) aW ((D.map zV).map Ϸ) [g,s1,s2,s3,.ow<|R.map sV,a,b,c,d]=.ok .nx [g,s1,s2,s3,.ow<|(R++D.flatMap AE).map sV,l,k,c',i]
 |[],R,a,b,c,d,_,_=>⟨a,b,c,d,by simp[Ŭ]⟩|d::D,R,a,b,c,f,m,u=>by
  have hd:=m d (by simp);refine BL λZ=>?_;obtain⟨A,z,y,g4,g5,w⟩:=id hd;rw[Ė]at u;have hz:=Z2G hd;obtain⟨n,E⟩:=Z2a g s1 s2 s3 (.sh<|sV d.1) (.sh<|.int d.2.1) (.sh<|.lst<|d.2.2.map aq) d.2.2 (R.map sV++[sV<|Z2<|aJ<|.dy d.1 d.2.1]) f w (by simp;lia);obtain⟨l,k,c',i,e⟩:=Z2H g s1 s2 s3 D (R++AE d) (.sh<|sV d.1) (.sh<|.int d.2.1) (.sh<|.lst<|d.2.2.map aq) n (λx t=>m x<|ð _ t) (by rw[ŭ];lia);refine Z ?_;refine⟨l,k,c',i,?_⟩;have v:gT 3 (ë (gN 5)<|ë (gN 6)<|ë (gN 7) Ş) (Ϸ<|zV d) [g,s1,s2,s3,.ow<|R.map sV,a,b,c,f]=Α [g,s1,s2,s3,.ow<|R.map sV,.sh<|sV d.1,.sh<|.int d.2.1,.sh<|.lst<|d.2.2.map aq,f]:=by rfl
  have q:aW [g,s1,s2,s3,.ow<|R.map sV,.sh<|sV d.1,.sh<|.int d.2.1,.sh<|.lst<|d.2.2.map aq,f]=.ok .nx [g,s1,s2,s3,.ow<|(R++AE d).map sV,.sh<|sV d.1,.sh<|.int d.2.1,.sh<|.lst<|d.2.2.map aq,n]:=by
   have j:=XH (r:=.dy d.1 d.2.1) ⟨A,z,y⟩;have C:(pW<|.dy d.1 d.2.1).map (·.1)=[.str "day",sV d.1,.int d.2.1]:=rfl;rw[C]at j;have B:(R++AE d).map sV=R.map sV++[sV<|Z2<|aJ<|.dy d.1 d.2.1]++d.2.2.map (λo=>sV<|Z2<|aJ<|.tn o):=by unfold AE;simp[rZ]
   have s:(R.map sV).length<16777216:=by simp;lia
   rw[B];generalize R.map sV=RR,d.2.2.map aq=TT,(d.2.2.map λo=>sV<|Z2<|aJ<|.tn o)=OO,sV (Z2<|aJ<|.dy d.1 d.2.1)=DD,sV d.1=N at*;rw[<-E];simp[aW,j,s]
  rw[â,â,Ŭ,v];dsimp only;rw[q];refine cE e ?_;rw[mB,my]
def Z2I{w h:Int}(hw:1<=w/\w<=20)(hh:1<=h/\h<=20){T:List Th}(hT:∀t∈T,Z1 t.1 t.2=Δ)(BC:T.length<=40){D:List Dz}(hD:∀d∈D,Zq d)(BD:D.length<=12){st sd:ŏ}(ht:Sl st (T.map cw))(hd:Sl sd ((D.map zV).map Ϸ)):϶ [.sh<|.int w,.sh<|.int h,st,sd]=.ret (.sh<|sV<|yY w h T D):=by
 obtain⟨y1,y2,y3⟩:=QY hw hh;have j0:=TR (ws:=[(.str "yard",wC "yard"),(.int w,nT w),(.int h,nT h)]) (λx hx=>by
  have:=by simpa using hx
  rcases this with rfl|rfl|rfl
  ·exact Q_ _
  ·exact Zh ⟨by lia,by lia⟩
  ·exact Zh ⟨by lia,by lia⟩) (λx hx=>y1 _ (by
  have:=by simpa using hx
  rcases this with rfl|rfl|rfl<;>simp[yT])) (by simp)
 change č [.sh<|.lst [.str "yard",.int w,.int h]]=.ret (.sh<|sV<|Z2<|yT w h)at j0;have c1:=Z2s hT (by lia);obtain⟨a',b',c',d',lp⟩:=Z2H (.sh<|.int w) (.sh<|.int h) st sd D (Z2 (yT w h)::T.map (λt=>Z2<|aJ<|.th t)) .no .no .no .no hD (by simp;lia);have jn:=XG hw hh hT BC hD BD;rw[Z3H]at jn;rw[c_]at lp;have er:(Z2 (yT w h)::T.map (λt=>Z2<|aJ<|.th t)).map sV=sV (Z2<|yT w h)::T.map λt=>sV (Z2<|aJ<|.th t):=by rw[â,Ĺ];rfl
 rw[er]at lp;have ad:é (.lst [sV<|Z2<|yT w h]) (.lst<|T.map λt=>sV<|Z2<|aJ<|.th t)=Α (.ow (sV (Z2<|yT w h)::T.map λt=>sV<|Z2<|aJ<|.th t)):=by rw[l_ (by simp;lia)];rfl
 generalize T.map cw=TH,(D.map zV).map Ϸ=DY,(T.map λt=>sV<|Z2<|aJ<|.th t)=TS,sV (Z2<|yT w h)=Z,(Z2 (yT w h)::(T.map (λt=>Z2<|aJ<|.th t)++D.flatMap AE)).map sV=LL,sV (yY w h T D)=TX at*;rcases ht with rfl|rfl<;>rcases hd with rfl|rfl<;>simp[϶,iV,ý,j0,c1,ad,lp,jn]
@[simp]theorem Z6B{x:Int}{n:Nat}(h:n≠0)(h2:n<1073741824):Db x (no_index (ϋ n):Int)=Δ:=by unfold Db;have:(no_index (ϋ n):Int)=(n:Int):=rfl;rw[this];simp;lia
def pw9:zL (.int 10) (.int 9)=Α (.int 1000000000):=rfl
def G9(x:Int):Prop:=0<=x/\x<1000000000
theorem Z2b(g s1 s5 d c:ŏ):∀(j:List Nat) (acc:List Int) (n:Int) (s4 f:ŏ),acc.length+j.length<=100->(∀x∈acc,G9 x)->∃(m:List Int) (o:Int) (a b:ŏ),Ŭ (gN 4) bg (j.map λ(i:Nat)=>PV.int (i:Int)) [g,s1,.ow<|acc.map .int,.sh<|.int n,s4,s5,f,d,c]=.ok .nx [g,s1,.ow<|m.map .int,.sh<|.int o,a,s5,b,d,c]/\m.length=acc.length+j.length/\∀x∈m,G9 x
 |[],acc,n,s4,f,_,h=>⟨acc,n,s4,f,rfl,rfl,h⟩|k::j,acc,n,s4,f,r,h=>by
  rw[Ė]at r;obtain⟨m,o,a,b,e,t,s⟩:=Z2b g s1 s5 d c j (acc++[n%1000000000]) (n/1000000000) (.sh<|.int k) (.sh<|.int<|n%1000000000) (by simp;lia) (by
   intro x l;rcases Ŵ.mp l with l|l
   ·exact h x l
   ·rw[eJ.mp l];unfold G9;lia)
  refine⟨m,o,a,b,?_,by rw[t];simp;lia,s⟩;have q:acc.length<16777216:=by lia
  have hd:iK [.int n,.int 1000000000]=Α (.tup [.int<|n/1000000000,.int<|n%1000000000]):=by simp[iK]
  have p:bg [g,s1,.ow<|acc.map .int,.sh<|.int n,.sh<|.int k,s5,f,d,c]=.ok .nx [g,s1,.ow<|(acc++[n%1000000000]).map .int,.sh<|.int<|n/1000000000,.sh<|.int k,s5,.sh<|.int<|n%1000000000,d,c]:=by simp[bg,hd,q]
  show(bg [g,s1,.ow<|acc.map .int,.sh<|.int n,.sh<|.int k,s5,f,d,c]).bind _=_;rw[p];exact e
def Rs(x:Int):Prop:=0<=x/\x<998244353
def Z5T:aR [.int 2]=Α [.int 0,.int 1]:=by rfl
def Z2c(d s1 s4 c g f k:ŏ){acc:List Int}(hl:acc.length<=100)(hr:Rs r):∃(e:Int) (a b:ŏ),ϵ [d,s1,.ow<|acc.map .int,.sh<|.int r,s4,k,c,g,f]=.ok .nx [d,s1,.ow<|acc.map .int,.sh<|.int e,s4,k,c,a,b]/\Rs e:=by
 have hd:iK [.int r,.int 4099]=Α (.tup [.int<|r/4099,.int<|r%4099]):=by simp[iK]
 obtain⟨h,i⟩:∃h,r/4099=h:=⟨_,rfl⟩;obtain⟨l,m⟩:∃l,r%4099=l:=⟨_,rfl⟩;rw[i,m]at hd;obtain⟨S,j⟩:∃S,l*240007+h*89+1201*acc.length+11=S:=⟨_,rfl⟩;refine⟨S%998244353,.sh<|.int h,.sh<|.int l,?_,by unfold Rs;lia⟩;unfold ϵ;simp[hd,j]
theorem XJ(g s4 d:ŏ)(D:n<=100):∀(f:Nat) (acc:List Int) (r:Int) (s5 j i:ŏ),acc.length+f=n->(∀x∈acc,G9 x)->Rs r->∃(l:List Int) (o:Int) (a b c:ŏ),be [g,.sh<|.int n,.ow<|acc.map .int,.sh<|.int r,s4,s5,d,j,i]=.ok .nx [g,.sh<|.int n,.ow<|l.map .int,.sh<|.int o,s4,a,d,b,c]/\l.length=n/\∀x∈l,G9 x
 |0,acc,r,s5,j,i,E,h,s=>by
  refine⟨acc,r,s5,j,i,?_,by lia,h⟩;unfold be;have q:¬((acc.length:Int)<(n:Int)):=by lia
  rw[cS];simp[q]
 |f+1,acc,r,s5,j,i,E,h,s=>by
  obtain⟨z,w,u,I,p⟩:=Z2c g (.sh<|.int n) s4 d j i (.sh<|.int 0) (acc:=acc) (by lia) s;obtain⟨m,v,t,H,y⟩:=Z2c g (.sh<|.int n) s4 d w u (.sh<|.int 1) (acc:=acc) (by lia) p;obtain⟨l,o,a,b,c,e,B,A⟩:=XJ g s4 d D f (acc++[m/5]) m (.sh<|.int 1) v t (by simp;lia) (by
   intro x k;rcases Ŵ.mp k with k|k
   ·exact h x k
   ·rw[eJ.mp k];unfold G9;unfold Rs at y;lia) y
  refine⟨l,o,a,b,c,?_,B,A⟩;have q:((acc.length:Int)<(n:Int)):=by lia
  have C:acc.length<16777216:=by lia
  have G:Ŭ (gN 5) ϵ [.int 0,.int 1] [g,.sh<|.int n,.ow<|acc.map .int,.sh<|.int r,s4,s5,d,j,i]=.ok .nx [g,.sh<|.int n,.ow<|acc.map .int,.sh<|.int m,s4,.sh<|.int 1,d,v,t]:=by show(ϵ [g,.sh<|.int n,.ow<|acc.map .int,.sh<|.int r,s4,.sh<|.int 0,d,j,i]).bind _=_;rw[I];show(ϵ [g,.sh<|.int n,.ow<|acc.map .int,.sh<|.int z,s4,.sh<|.int 1,d,w,u]).bind _=_;rw[H];rfl
  rw[<-e];unfold be;rw[cS];simp[q,Z5T,G,C]
def Z1e(c:Int){n:Nat}(p:n<=100):∃xs:List Int,ŷ [.sh<|.int c,.sh<|.int n]=.ret (.ow<|xs.map .int)/\xs.length=n/\∀x∈xs,G9 x:=by
 by_cases w:c%2=0
 ·obtain⟨f,r,a,b,e,u,o⟩:=Z2b (.sh<|.int c) (.sh<|.int n) .no .no .no (ú n) [] (c/2) .no .no (by simp;omega) (by simp);have i:=ZI (n:=n) (by lia);rw[ſ]at e;have j:=by simpa using u
  refine⟨f,?_,j,o⟩;obtain⟨q,t,A,z,y,d,m,l⟩:=XJ (.sh<|.int c) a b p 0 f (r%998244341+5) .no .no .no (by omega) o (by unfold Rs;lia);have:=by
   unfold be at d;rw[cS]at d;have v:¬(f.length<n):=by lia
   simp[v]at d;have:=d.1;exact((List.map_inj_right<|λg g h=>by injection h).mp this).symm
  subst this;simp[ŷ,gL,ý,w,i,e,d]
 ·have k:c%2=1:=by lia
  obtain⟨q,t,A,z,y,d,m,l⟩:=XJ (.sh<|.int c) .no .no p n [] ((c/2)%998244341+5) .no .no .no (by simp) (by simp) (by unfold Rs;lia);rw[ſ]at d;have i:aR [.int 0]=Α []:=by rfl
  refine⟨q,?_,m,l⟩;simp[ŷ,gL,ý,k,i,Ŭ,d]
def Z99{xs:List Int}(h:xs.length=n):xs=(List.range n).map λi=>xs[i]!:=by subst h;exact List.ext_getElem (by simp) λi h g=>by simp[getElem!_pos,h]
def Z6o(xs:List Int)(z:xs.length=11):∃a b c d e f g h i j k,xs=[a,b,c,d,e,f,g,h,i,j,k]:=⟨_,_,_,_,_,_,_,_,_,_,_,Z99 z⟩
def vy(h:decide (È a=È b)=Ε):¬(È a=È b):=of_decide_eq_false h
def sm(x:Int):Prop:=-100<=x/\x<=100
def Pl(x:Int):Prop:=-1000000000<=x/\x<=1000000000
def Z4V(a:Pl x)(b:Pl y)(c:1<=h/\h<=1000000000):Z1 "post" [x,y,h]=Δ:=by unfold Pl at a b;unfold Z1 ZF nv zg;lia
def Z5U(a:sm x)(b:sm y)(j:sm u)(i:sm v)(hn:¬(x=u/\y=v))(c:1<=h/\h<=1000000000):Z1 "fence" [x,y,u,v,h]=Δ:=by have g:¬(È "fence"=È "post"):=vy (by decide+kernel);unfold sm at a b j i;unfold Z1;rw[if_neg g,if_pos rfl];unfold Zp Zr nv zg;simp;omega
def Z6v{w:Str}(i:w="sail" \/w="house")(a:sm x)(b:sm y)(k:sm u)(j:sm v)(h1:x<u)(h2:y<v)(c:1<=h/\h<=1000000000):Z1 w [x,y,u,v,h]=Δ:=by
 have g:Zt [x,y,u,v,h]=Δ:=by unfold sm at a b k j;unfold Zt Zr nv zg;simp;omega
 unfold Z1;rcases i with rfl|rfl
 ·rw[if_neg (vy<|by decide+kernel),if_neg (vy<|by decide+kernel),if_pos rfl];exact g
 ·rw[if_neg (vy<|by decide+kernel),if_neg (vy<|by decide+kernel),if_neg (vy<|by decide+kernel),if_neg (vy<|by decide+kernel),if_pos rfl];exact g
def Z5V(h1:Pl x)(h2:Pl y)(h3:0<=z/\z<=1000000000)(h4:Pl a)(h5:Pl b)(h6:0<=c/\c<=1000000000)(h7:Pl d)(h8:Pl e)(h9:0<=f/\f<=1000000000):Z1 "cloth" [x,y,z,a,b,c,d,e,f]=Δ:=by unfold Z1;rw[if_neg (vy<|by decide+kernel),if_neg (vy<|by decide+kernel),if_neg (vy<|by decide+kernel),if_pos rfl];unfold Pl at*;unfold Zy nv JF;simp;omega
def TU(t:Th):Prop:=(∃x y h,t=(È "post",[x,y,h])/\sm x/\sm y/\(1<=h/\h<=1000000000))\/(∃x y z a b c d e f,t=(È "cloth",[x,y,z,a,b,c,d,e,f])/\sm x/\sm y/\(0<=z/\z<=100)/\sm a/\sm b/\(0<=c/\c<=100)/\sm d/\sm e/\(0<=f/\f<=100))\/(¬t.1=È "post"/\ ¬t.1=È "cloth"/\Z1 t.1 t.2=Δ)
def fm(a:Int)(h:0<b):∃X,a.fmod b=X/\0<=X/\X<b:=⟨_,rfl,by rw[r_ _<|by lia];exact⟨Int.emod_nonneg a (by lia),Int.emod_lt_of_pos a h⟩⟩
def Z5W(c:Int)(hw:1<=w/\w<=20)(hh:1<=h/\h<=20):∃x0 x1 x2 x3 x4 x5 x6 x7 x8 x9 N3 X Y H:Int,Ű [.sh<|.int c,.sh<|.int w,.sh<|.int h]=FR.of (WZ [.sh<|.int c,.sh<|.int w,.sh<|.int h,.ow [.int x0,.int x1,.int x2,.int x3,.int x4,.int x5,.int x6,.int x7,.int x8,.int x9,.int N3],.sh<|.int<|X-4,.sh<|.int<|Y-4,.sh<|.int<|X-4+1+x3%5,.sh<|.int<|Y-4+1+x4%5,.sh<|.int H,.no,.no])/\(0<=X/\X<2*w+7)/\(0<=Y/\Y<2*h+7)/\1<=H/\H<=1000000000:=by
 refine BL λZ=>?_;obtain⟨xs,eg,hl,-⟩:=Z1e c (n:=11) (by lia);obtain⟨x0,x1,x2,x3,x4,x5,x6,x7,x8,x9,N3,rfl⟩:=Z6o xs hl;refine Z ?_;change ŷ [.sh<|.int c,.sh<|.int 11]=.ret (.ow [.int x0,.int x1,.int x2,.int x3,.int x4,.int x5,.int x6,.int x7,.int x8,.int x9,.int N3])at eg;have n1:¬(2*w+7=0):=by lia
 have n2:¬(2*h+7=0):=by lia
 obtain⟨X,f1,bX⟩:=fm x1 (show 0<2*w+7 by lia);obtain⟨Y,f2,bY⟩:=fm x2 (show 0<2*h+7 by lia);have st:Ű [.sh<|.int c,.sh<|.int w,.sh<|.int h]=FR.of ((ä _<|ä _<|ä _<|ä _<|ä _<|ä _<|ä _ WZ) [.sh<|.int c,.sh<|.int w,.sh<|.int h,.no,.no,.no,.no,.no,.no,.no,.no]):=rfl;refine⟨x0,x1,x2,x3,x4,x5,x6,x7,x8,x9,N3,X,Y,if x6%8=5then 1000000000-x5%1000 else 1+x5%8,?_,bX,bY,by split<;>lia⟩;rw[st];by_cases hb:x6%8=5<;>simp -implicitDefEqProofs [eg,n1,n2,f1,f2,hb,pw9,-IH]
abbrev tsM(i:Int)(A B:M Fl):M Fl:=ä (au (ϐ<|Ê ķ (Ê Ĭ (Ê Þ (Â 3)<|Æ 0)<|Æ 5)<|mC<|.int i) A cL) B
def Hz{a:ć}{x i:Int}{xs:List PV}{A B:M Fl}{r:FR}(b:¬x%5=i)(c:FR.of (B a)=r)(h:autoParam (a[3]?=Α (.ow (.int x::xs))) Η):FR.of (tsM i A B a)=r:=by rw[<-c];simp[h,b]
def TZ{a:ć}{x i:Int}{xs:List PV}{A B:M Fl}{r:FR}(b:x%5=i)(c:FR.of (ä A B a)=r)(h:autoParam (a[3]?=Α (.ow (.int x::xs))) Η):FR.of (tsM i A B a)=r:=by rw[<-c];simp[h,b]
def Z4W(c:Int)(hw:1<=w/\w<=20)(hh:1<=h/\h<=20):∃t:Th,Ű [.sh<|.int c,.sh<|.int w,.sh<|.int h]=.ret (.ow (.str t.1::t.2.map .int))/\TU t:=by
 obtain⟨x0,x1,x2,x3,f,x5,x6,x7,x8,x9,N3,X,Y,H,pre,bX,bY,bH⟩:=Z5W c hw hh;rw[pre];clear pre;have s1:sm (X-4):=⟨by lia,by lia⟩;have s2:sm (Y-4):=⟨by lia,by lia⟩;have s3:sm (X-4+1+x3%5):=⟨by lia,by lia⟩;have s4:sm (Y-4+1+f%5):=⟨by lia,by lia⟩;by_cases k0:x0%5=0
 ·obtain⟨PX,f3,p3⟩:=fm x1 (show 0<w+2 by lia);obtain⟨PY,f4,p4⟩:=fm x2 (show 0<h+2 by lia);have n3:¬(w+2=0):=by lia
  have n4:¬(h+2=0):=by lia
  exact⟨(È "post",[PX-1,PY-1,H]),TZ k0 (by simp[n3,n4,f3,f4]),.inl ⟨PX-1,PY-1,H,rfl,⟨by lia,by lia⟩,⟨by lia,by lia⟩,bH⟩⟩
 by_cases k1:x0%5=1
 ·obtain⟨q,hq⟩:∃q,x7%4=q:=⟨_,rfl⟩;have fe:∀u v:Int,sm u->sm v->¬(X-4=u/\Y-4=v)->TU (È "fence",[X-4,Y-4,u,v,H]):=λu v a b n=>.inr (.inr ⟨vy (by decide+kernel),vy (by decide+kernel),Z5U s1 s2 a b n bH⟩);obtain⟨u,v,hi,hf⟩:∃u v:Int,Þ (.lst [.tup [.int<|X-4+1+x3%5,.int<|Y-4],.tup [.int<|X-4+1+x3%5,.int<|Y-4+1+f%5],.tup [.int<|X-4,.int<|Y-4+1+f%5],.tup [.int<|X-4-2,.int<|Y-4+1+f%5]]) (.int q)=Α (.tup [.int u,.int v])/\TU (È "fence",[X-4,Y-4,u,v,H]):=by
   have hq4:q=0\/q=1\/q=2\/q=3:=by lia
   rcases hq4 with rfl|rfl|rfl|rfl
   ·exact⟨_,_,rfl,fe _ _ s3 s2<|by lia⟩
   ·exact⟨_,_,rfl,fe _ _ s3 s4<|by lia⟩
   ·exact⟨_,_,rfl,fe _ _ s1 s4<|by lia⟩
   ·exact⟨_,_,rfl,fe (X-4-2) _ ⟨by lia,by lia⟩ s4<|by lia⟩
  exact⟨(_,[_,_,_,_,_]),Hz k0 (TZ k1<|by simp[hq,hi]),hf⟩
 have bx:∀s:Str,(s="sail" \/s="house")->Z1 s [X-4,Y-4,X-4+1+x3%5,Y-4+1+f%5,H]=Δ:=λs hs=>Z6v hs s1 s2 s3 s4 (by lia) (by lia) bH;by_cases k2:x0%5=2
 ·exact⟨(È "sail",[_,_,_,_,_]),Hz k0 (Hz k1<|TZ k2<|by simp),.inr<|.inr ⟨vy (by decide+kernel),vy (by decide+kernel),bx (È "sail")<|.inl rfl⟩⟩
 by_cases k3:x0%5=3
 ·exact⟨(È "house",[_,_,_,_,_]),Hz k0 (Hz k1<|Hz k2<|TZ k3<|by simp),.inr<|.inr ⟨vy (by decide+kernel),vy (by decide+kernel),bx (È "house")<|.inr rfl⟩⟩
 have k4:x0%5=4:=by lia
 have ms:Ŷ (N3%7) (x6%2)=Δ:=cy (by lia) (by lia);obtain⟨C,hC,hCb⟩:∃C:Int,N3%7*(x6%2)=C/\(0<=C/\C<=100):=by
  refine⟨_,rfl,?_⟩;have:x6%2=0\/x6%2=1:=by lia
  rcases this with h|h<;>rw[h]<;>lia
 exact⟨(È "cloth",[X-4,Y-4,x5%7,X-4+1+x3%5,Y-4-2+x7%5,x8%7,X-4-3+x9%7,Y-4+1+f%5,C]),Hz k0 (Hz k1<|Hz k2<|Hz k3<|by simp[ms,hC]),.inr<|.inl ⟨_,_,_,_,_,_,_,_,_,rfl,s1,s2,⟨by lia,by lia⟩,s3,⟨by lia,by lia⟩,⟨by lia,by lia⟩,⟨by lia,by lia⟩,s4,hCb⟩⟩
def slI(xs:List Int)(a b:Option Int):∃ys:List Int,cx (xs.map PV.int) a b=ys.map PV.int/\ys.length<=xs.length:=by refine⟨(xs.drop<|HT.kO xs.length 0 a).take (HT.kO xs.length xs.length b-HT.kO xs.length 0 a),?_,by simp;lia⟩;unfold cx;rw[ģ,List.map_take,List.map_drop]
def Q0(ns:List Int)(k:Int):∃v:Int,Ľ [.sh<|.lst<|ns.map .int,.sh<|.int k]=.ret (.sh<|.int v)/\0<=v:=by
 obtain⟨a,e,_⟩:=slI ns (Α k)<|some<|k+1;cases a with
 |nil=>exact⟨0,by simp[Ľ,kA,e,Ŭ],by lia⟩|cons y a=>exact⟨_,by simp[Ľ,kA,e];rfl,by lia⟩
def Z6w(xs:List Int)(z:xs.length=4):∃a b c d,xs=[a,b,c,d]:=⟨_,_,_,_,Z99 z⟩
def Z4r(c:Int):∃o:Option P3,ϣ [.sh<|.int c]=.ret (.sh<|aq o)/\ZE o:=by
 obtain⟨j,l,k,hx⟩:=Z1e c (n:=4) (by lia);obtain⟨a,b,d,e,rfl⟩:=Z6w j k;have g:ŷ [.sh<|.int c,.sh<|.int 4]=.ret (.ow [.int a,.int b,.int d,.int e]):=l;by_cases i:e%6=4
 ·exact⟨Β,by simp[ϣ,dF,g,i,aq],trivial⟩
 ·by_cases h:e%6=5
  ·exact⟨Α (a%2000001-1000000,b%2000001-1000000,1+d%1000000),by simp[ϣ,dF,g,h,aq,c3],by unfold ZE QV;lia⟩
  ·exact⟨Α (a%7-3,b%7-3,1+d%3),by simp[ϣ,dF,g,i,h,aq,c3],by unfold ZE QV;lia⟩
def ZU(s:String):PV.str (È s)=sV (wC s):=congrArg PV.str (Oi _).symm
def sg(b:Bool):Nat:=if b then 35 else 46
def Z5X:PV.str (È "#")=sV [35]:=by rw[ZU];congr 1
def Z6x:PV.str (È ".")=sV [46]:=by rw[ZU];congr 1
def Z4s{n A:Nat}(hn:n<=1000):ĝ (gN 1) Ę (au (dU<|Ê fv (Ê pX (Â 0)<|Â 1)<|Æ 1) (mC<|.str "#")<|mC<|.str ".") ((ú n).map λ(i:Nat)=>PV.int (i:Int)) [.sh<|.int A,.no] []=Α ((ú n).map λk=>sV [sg<|A.testBit k]):=by
 have j:=Đ (g:=gN 1) (mt:=Ę) (me:=au (dU<|Ê fv (Ê pX (Â 0)<|Â 1)<|Æ 1) (mC<|.str "#")<|mC<|.str ".") (λ(i:Nat)=>PV.int i) (λk=>sV [sg<|A.testBit k]) (λb=>∃a,b=[.sh<|.int A,a]) (ú n) [.sh<|.int A,.no] [] ⟨_,rfl⟩ (by simp;lia) (by
  rintro k hk b ⟨a,rfl⟩;have d:=Z2C A k;have h:pV A k=Δ:=by unfold pV;simp
  have m:=Z5X;have l:=Z6x;cases hd:A.testBit k<;>rw[hd]at d<;>simp at d<;>simp[h,d,sg,m,l])
 simpa using j
def JH(w:Nat)(p:Nat->Bool)(q:Nat):List Nat:=(ú w).map λx=>sg<|p<|q*w+x
def zk(w h:Nat)(p:Nat->Bool):List (List Nat):=(ú h).map λq=>JH w p q
def Z5Y{c:Type}(xs:List c)(d:b<=xs.length)(ha:a<=b):cx xs (Α (a:Int)) (Α (b:Int))=(xs.drop a).take (b-a):=by unfold cx;rw[HT.mX,HT.mX,sI d,sI<|by lia]
def Z5p{b:Type}(f:Nat->b)(c:q<h):cx ((ú<|w*h).map f) (Α ((q*w:Nat):Int)) (Α ((q*w+w:Nat):Int))=(ú w).map λx=>f (q*w+x):=by
 have d:=by have:=B7 w (show q+1<=h from c);rw[oT,xf,xg h w]at this;exact this
 rw[Z5Y _ (by simp;exact d)<|by lia];apply List.ext_getElem
 ·simp;lia
 ·intro n h1 h2;simp
theorem Z3J:∀xs:List Nat,ĉ [] (xs.map λx=>[x])=xs
 |[]=>rfl|[x]=>rfl|x::y::r=>by have:=Z3J (y::r);rw[â]at this;show[x]++[]++ĉ [] ([y]::r.map λx=>[x])=_;rw[this];rfl
def Z2d(hl:xs.length<=1000):ax (.str "") [.lst<|xs.map λx=>sV [x]]=Α (sV xs):=by
 have e:(xs.map λx=>sV [x])=(xs.map λx=>[x]).map sV:=by rw[Ĺ];rfl
 rw[e];show((oA<|(xs.map λx=>[x]).map sV).bind λys=>if(ys.map aa).sum+ys.length*(È "").length<=16777216then Α (PV.str<|S<|ĉ (È "").cps.toList ys)else Β)=_;rw[XB];have j:=XC (xs.map λx=>[x]) 1 (λy g=>by obtain⟨x,_,rfl⟩:=Ĉ.mp g;simp);have i:(È "").length=0:=rfl;have h:(È "").cps.toList=[]:=rfl;show(if((xs.map λx=>[x]).map aa).sum+(xs.map λx=>[x]).length*(È "").length<=16777216then Α (PV.str<|S<|ĉ (È "").cps.toList (xs.map λx=>[x]))else Β)=_;rw[ģ]at j;rw[i,h,Z3J,if_pos<|by lia];rfl
def c47:È "/"=S [47]:=by decide+kernel
def T_(w:Nat)(p:Nat->Bool)(q:Nat):(JH w p q).length=w:=by unfold JH;simp
def Z3K{w h A:Nat}(hw:w<=60)(hh:w*h<=1000)(h2:h<=1000):ĝ (gN 2) Ę (zf ax (mC<|.str "")<|É (Ñ<|pY (Â 0) (mP<|Ê Ĝ (Â 2)<|Â 1)<|mP<|Ñ<|ô é (Ê Ĝ (Â 2)<|Â 1)<|Â 1) á) ((ú h).map λ(i:Nat)=>PV.int (i:Int)) [.bw<|(ú<|w*h).map λk=>sV [sg<|A.testBit k],.sh<|.int w,.no] []=Α ((zk w h A.testBit).map sV):=by
 have s:=Đ (g:=gN 2) (mt:=Ę) (me:=zf ax (mC<|.str "")<|É (Ñ<|pY (Â 0) (mP<|Ê Ĝ (Â 2)<|Â 1)<|mP<|Ñ<|ô é (Ê Ĝ (Â 2)<|Â 1)<|Â 1) á) (λ(i:Nat)=>PV.int i) (λq=>sV<|JH w A.testBit q) (λb=>∃a,b=[.bw<|(ú<|w*h).map λk=>sV [sg<|A.testBit k],.sh<|.int w,a]) (ú h) [.bw<|(ú<|w*h).map λk=>sV [sg<|A.testBit k],.sh<|.int w,.no] [] ⟨_,rfl⟩ (by simp;lia) (by
  rintro q l b ⟨a,rfl⟩;have l:=aN.mp l;have m:=Z5p (λk=>sV [sg<|A.testBit k]) (w:=w) l;have j:=Z2d (xs:=JH w A.testBit q) (by rw[T_];lia);have e:((JH w A.testBit q).map λx=>sV [x])=(ú w).map λx=>sV [sg<|A.testBit<|q*w+x]:=by unfold JH;rw[Ĺ];rfl
  rw[e]at j;have r:Ŷ q w=Δ:=cy (by lia) (by lia);have n:=ib q w;have t:((q*w+w:Nat):Int)=q*w+w:=by rw[wN,n]
  rw[n,t]at m;simp[r,m,j])
 have e:(zk w h A.testBit).map sV=(ú h).map λq=>sV (JH w A.testBit q):=by unfold zk;rw[Ĺ];rfl
 rw[e];simpa using s
def Z4t(d:w<=60)(e:h<=1000)(p:Nat->Bool):ax (.str "/") [.lst<|(zk w h p).map sV]=Α (sV<|ĉ [47] (zk w h p)):=ZW c47 (λx c=>by
 obtain⟨q,_,rfl⟩:=Ĉ.mp c;rw[T_];exact d) (by
 have:(zk w h p).length*61<=1000*61:=fN (by unfold zk;simp;exact e) (by lia);lia)
def Z4u{w h:Nat}{i j:Nat}(d:i<D.length)(hj:j<D[i].2.2.length)(hl:D[i].2.2.length<=1000):gA [.sh<|Z0 w h T D,.sh<|.int i,.sh<|.int j]=.ret (.sh .non):=by
 have a:=JG w h T D;have b:=Xo (w:=w) (h:=h) (T:=T) d;have ED:(D.map Ϸ).length=D.length:=by simp
 have HD:(D[i].2.2.map aq).length=D[i].2.2.length:=by simp
 have e:j<((D[i].2.2.map aq).length:Int):=by lia
 generalize Z0 w h T D=f,D.map Ϸ=DV,D[i].2.2.map aq=TV at*;have c:eC [.sh f,.sh<|.int i]=.ret (.sh<|.bl Δ):=by simp[eC,ou,a];lia
 simp[gA,nN,c,b,e]
def Z4v(Y:Kw w h T){i j:Nat}(c:i<D.length)(b:j<D[i].2.2.length)(n:D[i].2.2.length<=1000)(m:ER D[i].2.2[j]):cC [.sh<|Z0 w h T D,.sh<|.lst [.int i,.int j]]=.ret (.sh<|sV<|ĉ [47] (zk w h (nS w h T D[i].2.2[j]).testBit)):=by
 have d:=DI w h T D;have e:=G7 w h T D;have p:=Z4u (w:=w) (h:=h) (T:=T) c b n;have f:=Xo (w:=w) (h:=h) (T:=T) c;have o:=Tu Y.w0 Y.w1 Y.h1 Y.wh Y.tl D Y.tg m;have l:(D[i].2.2.map aq)[j]?=Α (aq D[i].2.2[j]):=by simp[b]
 generalize nS w h T D[i].2.2[j]=A at*;have s1:=Z4s (A:=A) Y.wh;have s2:=Z3K (A:=A) Y.w1 Y.wh Y.h1;have s3:=Z4t Y.w1 Y.h1 A.testBit;have a:=ZI (by have:=Y.wh;omega);have g:=ZI (by have:=Y.h1;omega);have k:Ŷ w h=Δ:=cy (by omega) (by have:=Y.w1;omega);have q:=ib w h;rw[q]at a;simp[cC,lS,p,f,l,o,d,e,k,a,g,s1,s2,s3]
def Zs{j:Nat}(h:j<=100000):Nb (j:Int):=⟨by lia,by lia⟩
def jC{α:Type}{P:α->Prop}{a:α}{l:List α}(h:P a)(t:∀x∈l,P x):∀x∈a::l,P x:=λx hx=>by
 rcases ù.mp hx with rfl|hx
 ·exact h
 ·exact t x hx
def Ey{α:Type}{P:α->Prop}:∀x∈([]:List α),P x:=λx hx=>by cases hx
def T1{W:List PV}{k:Nat}{ns:List Int}(hk:k<=W.length)(hW:W.drop k=ns.map ź)(hn:∀n∈ns,Nb n)(hl:ns.length<=1000):Ī [.bw W,.sh<|.int k]=.ret (.ow<|ns.map .int):=by have c:=QT W k hk;rw[hW]at c;have e:=Z2E hn hl<|.inl rfl;simp[Ī,iR,c,e,tM]
def Z3L{w h:Nat}{i:Nat}(c:i<D.length):nq [.sh<|Z0 w h T D,.sh<|.int i]=.ret (.sh<|.str D[i].1):=by
 have a:=JG w h T D;have b:(D.map Ϸ)[i]?=Α (Ϸ D[i]):=by simp[c]
 simp[nq,uY,a,b];simp[Ϸ]
theorem Z2J{w h:Nat}(g:i<D.length)(f:∀d∈D,ė d.1=Δ)(o:(D.map (·.1)).Nodup):∀(n a:Nat) (s:ŏ),a<=i->i<a+n->a+n<=D.length->Ŭ (gN 2) aI ((fM a n).map λ(i:Nat)=>PV.int (i:Int)) [.sh<|Z0 w h T D,.sh<|.str D[i].1,s]=.ok (.rt<|.sh<|.int i) [.sh<|Z0 w h T D,.sh<|.str D[i].1,.sh<|.int i]
 |0,a,s,v,u,_=>by lia|n+1,a,s,v,u,h3=>by
  have j:a<D.length:=by lia
  have e:=Z3L (w:=w) (h:=h) (T:=T) j;have q:=ŗ (f _<|ŵ j)<|f _<|ŵ g;rw[oQ,â,Ŭ];by_cases z:a=i
  ·subst z;simp[aI,e,q]
  ·have r:=fun y=>z (by
    have:=(List.getElem_inj (h₀:=by simpa using j) (h₁:=by simpa using g) o).mp (by simpa using y);exact this)
   rw[decide_eq_false r]at q;have t:=Z2J (w:=w) (h:=h) (T:=T) g f o n (a+1) (.sh<|.int a) (by lia) (by lia) (by lia);generalize Z0 w h T D=k,D[i].1=X at*;have p:aI [.sh k,.sh<|.str X,.sh<|.int a]=.ok .nx [.sh k,.sh<|.str X,.sh<|.int a]:=by simp[aI,e,q]
   show(aI [.sh k,.sh<|.str X,.sh<|.int a]).bind _=_;rw[p];exact t
def Z4w{w h:Nat}{i:Nat}(g:i<D.length)(e:∀d∈D,ė d.1=Δ)(f:(D.map (·.1)).Nodup)(hl:D.length<=1000):bW [.sh<|Z0 w h T D,.sh<|.str D[i].1]=.ret (.sh<|.int i):=by
 have b:=JG w h T D;have c:=Z2J (w:=w) (h:=h) (T:=T) g e f D.length 0 .no (by omega) (by omega) (by omega);have a:=ZI (by omega);rw[B_]at a
 generalize ((fM 0 D.length).map λ(i:Nat)=>PV.int i)=RG at*;simp[bW,nO,b,a,c]
def Z5Z:List (String×MF):=[("answer_show",cB),("answer_dark",cC),("answer_walk",aH)]
def Z60{Y:PV}{wd:Str}{x:PV}{i:Nat}{ns:List Int}{f:String}{mf:MF}{r:RV}(r1:GX "ROWS" ZQ (.str wd) (.cls "ROWS")=Α (.bl Ε))(r2:GY "ROWS" ZQ (.cls "ROWS") (.str wd)=Α (.tup [.int 1,.int ns.length,.cls f]))(dc:bW [.sh Y,.sh x]=.ret (.sh<|.int i))
 (hn:∀n∈ns,Nb n)(hl:ns.length<=100)(hf:Z5Z.lookup f=Α mf)(ha:mf [.sh Y,.sh<|.lst (.int i::ns.map .int)]=.ret r):fj [.sh Y,.bw (.str wd::x::ns.map ź)]=.ret r:=by
 have nb:Ī [.bw (.str wd::x::ns.map ź),.sh<|.int 2]=.ret (.ow<|ns.map .int):=T1 (by simp) rfl hn (by lia);have ct:cx (.str wd::x::ns.map ź) (Α 1) (Α 2)=[x]:=by have:=Z5Y (.str wd::x::ns.map ź) (a:=1) (b:=2) (by simp) (by lia);exact this
 have al:é (.lst [.int i]) (.lst<|ns.map .int)=Α (.ow (.int i::ns.map .int)):=l_ (by simp;lia);have ln:((ns.map ź).length:Int)=ns.length:=by simp
 unfold Z5Z at hf;generalize ns.map ź=W at*;have e1:(W.length:Int)+1+1=1+1+(ns.length:Int):=by lia
 simp[fj,qV,r1,r2,ct,e1,nb,ĝ,dc,al,hf,ha]
abbrev Zj(Y:PV):ŏ:=.lr "Desk" ["yard"] [Y]
def T2:ė (È "put")=Δ:=by decide+kernel
def T3:ė (È "take")=Δ:=by decide+kernel
def Z2e(Y:PV):ħ ["Desk"] (È "yard") (.ins "Desk" ["yard"] [Y])=Α Y:=by unfold ħ;simp
def XN{Y:PV}{s:String}{ws:List (List Nat)}{r:RV}(hs:ė (È s)=Δ)(h1:decide (È s=È "put")=Ε)(h2:decide (È s=È "take")=Ε)(hW:∀x∈wC s::ws,Wd x)(hl:ws.length<=100)(aw:fj [.sh Y,.bw (.str s::ws.map sV)]=.ret r):ĭ [Zj Y,.sh<|sV<|Z2 (wC s::ws)]=.ret r:=by have sp:=QZ hW (by simp) (by simp;omega);rw[â,<-ZU]at sp;have q1:=ŗ hs T2;have q2:=ŗ hs T3;rw[h1]at q1;rw[h2]at q2;change ϖ (.str<|S<|Z2 (wC s::ws)) _=_ at sp;show ĭ [Zj Y,.sh<|.str<|S<|Z2 (wC s::ws)]=_;simp[ĭ,qy,sp,q1,q2,aw]
structure Ds(w h:Nat)(T:List Th)(D:List Dz):Prop where
 y:Kw w h T
 l:D.length<=3
 d:∀d∈D,Zq d/\d.2.2.length<=4
 n:(D.map (·.1)).Nodup
theorem XO:∀{o:Option P3},ZE o->ER o
 |none,_=>trivial|some r,h=>by unfold ZE QV at h;unfold ER RB;lia
theorem Ds.ok(X:Ds w h T D):∀d∈D.map zV,ė d.1=Δ/\d.1.length<=1000:=λd hd=>by obtain⟨z,e,rfl⟩:=Ĉ.mp hd;obtain⟨_,h1,g⟩:=(X.d z e).1.1;refine⟨DJ.ok λc f=>by have:=g c f;lia,?_⟩;show(S z.1).length<=1000;rw[Zf];lia
def Ds.nd(X:Ds w h T D):((D.map zV).map (·.1)).Nodup:=by
 have e:(D.map zV).map (·.1)=(D.map (·.1)).map S:=by rw[Ĺ,Ĺ];rfl
 rw[e];exact List.pairwise_map.mpr (X.n.imp λh e=>h<|by simpa using congrArg (λz:Str=>z.cps.toList) e)
abbrev Z4(w h:Nat)(T:List Th)(D:List Dz):PV:=Z0 w h T<|D.map zV
def Ds.dc{w h:Nat}{T:List Th}{D:List Dz}(X:Ds w h T D){i:Nat}(hi:i<D.length):bW [.sh<|Z4 w h T D,.sh<|sV D[i].1]=.ret (.sh<|.int i):=by
 have HF:i<(D.map zV).length:=by simpa using hi
 have:=Z4w (w:=w) (h:=h) (T:=T) HF (λd hd=>(X.ok d hd).1) X.nd (by have:=X.l;simp;lia);rw[wW]at this;exact this
def Ds.nm{w h:Nat}{T:List Th}{D:List Dz}(X:Ds w h T D){i:Nat}(hi:i<D.length):Wd D[i].1:=(X.d _<|ŵ hi).1.1.wd
def ZN{j:Nat}(h:j<=1000):Wd (nT (j:Int)):=Zk (Zs<|by lia)
def XQ(nm:List Nat)(j:Nat):List Nat:=Z2 [wC "dark",nm,nT (j:Int)]
def NC{s:String}(h:autoParam (((wC s).length<=11/\(wC s).all (λc=>decide<|33<=c/\c<256/\c≠59)=Δ)) Κ):Wd (wC s):=Oj h
def Z4x{w h:Nat}{T:List Th}{D:List Dz}(X:Ds w h T D){i j:Nat}(hi:i<D.length)(hj:j<D[i].2.2.length):ĭ [Zj<|Z4 w h T D,.sh<|sV<|XQ D[i].1 j]=.ret (.sh<|sV<|ĉ [47] (zk w h (nS w h T D[i].2.2[j]).testBit)):=by
 obtain⟨⟨_,_,_,_,_,h3⟩,h4⟩:=X.d _<|ŵ hi;have HF:i<(D.map zV).length:=by simpa using hi
 have eg:(D.map zV)[i].2.2=D[i].2.2:=by rw[wW];rfl
 have a:=Z4v X.y (D:=D.map zV) HF (j:=j) (by rw[eg];exact hj) (by rw[eg];lia) (by simp only[eg];exact XO<|h3 _<|ŵ hj);simp only[eg]at a;have b:=Z60 (Y:=Z4 w h T D) (wd:="dark") (x:=sV D[i].1) (ns:=[(j:Int)]) (f:="answer_dark") (by kernel_rfl) (by kernel_rfl) (X.dc hi) (by simp;exact Zs<|by lia) (by simp) rfl a;exact XN (by decide+kernel) (by decide+kernel) (by decide+kernel) (jC NC<|jC (X.nm hi)<|jC (ZN<|by lia) Ey) (by simp) b
def T4{w h:Nat}(hT:T.length<40)(hD:D.length<=1000)(b:Z1 t.1 t.2=Δ):dN [.sh<|Z0 w h T D,.bw (.str "put"::.str t.1::t.2.map ź)]=.ret (.sh<|Z0 w h (T++[t]) D):=by
 have k:=DI w h T D;have j:=G7 w h T D;have i:=Ts w h T D;have g:=JG w h T D;obtain⟨e,hl⟩:=ZC b;have d:Ī [.bw (.str "put"::.str t.1::t.2.map ź),.sh<|.int 2]=.ret (.ow<|t.2.map .int):=T1 (by simp) rfl e (by lia);have a:=Z1W b<|.inr rfl;change Ϥ _=.ret (.sh<|fk t)at a;have m:é (.lst<|T.map fk) (.lst [fk t])=Α (.ow<|(T++[t]).map fk):=by rw[l_ (by simp;lia),š];rfl
 have c:=Z2B w h (T:=T++[t]) (D:=D) (by simp;lia) (by lia) (.inl rfl)<|.inl rfl;have n:¬((T.map fk).length:Int)=40:=by simp;lia
 have f:¬((t.2.map ź).length:Int)+1+1<2:=by lia
 have l:Z0 w h (T++[t]) D=.ins "Yard" ["width","height","things","days"] [.int w,.int h,.lst<|(T++[t]).map fk,.lst<|D.map Ϸ]:=rfl;rw[l];generalize (T++[t]).map fk=TT,T.map fk=TH,t.2.map ź=NV at*;simp[dN,nP,f,d,k,j,i,g,n,a,m,c]
def ND(t:Th):List Nat:=Z2 (wC "put"::aJ (.th t))
def Z3M{t:Th}(hg:Z1 t.1 t.2=Δ):(∀x∈wC "put"::aJ (.th t),Wd x)/\(wC "put"::aJ (.th t)).length<=101:=by obtain⟨h1,h2,h3⟩:=NA (r:=.th t) hg;have hl:=(QW hg).1;refine⟨jC NC h1,?_⟩;unfold aJ;simp;lia
def T5{Y Y2:PV}{t:Th}(hg:Z1 t.1 t.2=Δ)(hw:dN [.sh Y,.bw (.str "put"::.str t.1::t.2.map ź)]=.ret (.sh Y2)):ń ["yard"] [Y] Β [sV<|ND t]=.ret (.str "ok") ["yard"] [Y2] Β:=by have q:=ŗ T2 T2;obtain⟨h1,h2⟩:=Z3M hg;have sp:=QZ h1 (by simp) h2;rw[â,<-ZU,Xw]at sp;change ϖ (.str<|S<|ND t) _=Α (.ow (.str "put"::.str t.1::t.2.map ź))at sp;show ń _ _ _ [.str<|S<|ND t]=_;simp[ń,jt,gm,lW,sp,q,hw,putN,vq];rfl
def Z38{w h:Nat}(hT:A.length+B.length<=40)(hD:D.length<=1000):cJ [.sh<|Z0 w h (A++t::B) D,.bw [.str "take",ź (A.length:Int)]]=.ret (.sh<|Z0 w h (A++B) D):=by
 have g:=DI w h (A++t::B) D;have f:=G7 w h (A++t::B) D;have e:=Ts w h (A++t::B) D;have d:=JG w h (A++t::B) D;have c:Ī [.bw [.str "take",ź (A.length:Int)],.sh<|.int 1]=.ret (.ow [.int A.length]):=T1 (W:=[.str "take",ź (A.length:Int)]) (k:=1) (ns:=[(A.length:Int)]) (by simp) rfl (by simp;exact Zs<|by lia) (by simp);have a:((A++t::B).map fk).length=A.length+B.length+1:=by simp;lia
 have c1:cx ((A++t::B).map fk) Β (Α (A.length:Int))=A.map fk:=by unfold cx;rw[HT.mX,a,sI<|by lia];simp[HT.kO]
 have j:cx ((A++t::B).map fk) (Α<|(A.length:Int)+1) Β=B.map fk:=by have:=QT ((A++t::B).map fk) (A.length+1) (by rw[a];lia);refine cE this ?_;rw[š,â,List.drop_append];simp
 have ad:é (.lst<|A.map fk) (.lst<|B.map fk)=Α (.ow<|(A++B).map fk):=by rw[l_ (by simp;lia),š]
 have b:=Z2B w h (T:=A++B) (D:=D) (by simp;lia) (by lia) (s3:=.sh<|.lst<|(A++B).map fk) (s4:=.sh<|.lst<|D.map Ϸ) (.inl rfl)<|.inl rfl;have a1:(A.length:Int)<(((A++t::B).map fk).length:Int):=by rw[a];lia
 have i:Z0 w h (A++B) D=.ins "Yard" ["width","height","things","days"] [.int w,.int h,.lst<|(A++B).map fk,.lst<|D.map Ϸ]:=rfl;rw[i];generalize Z0 w h (A++t::B) D=Y,(A++t::B).map fk=TT,(A++B).map fk=TH,A.map fk=TA,B.map fk=TB,D.map Ϸ=DY,ź (A.length:Int)=NV at*;simp[cJ,jB,ý,c,g,f,e,d,a1,c1,j,ad,b]
def Q1(n:Nat):List Nat:=Z2 [wC "take",nT (n:Int)]
def T6{w h:Nat}{A B:List Th}{t:Th}(hT:A.length+B.length<=40){D:List Dy}(hD:D.length<=1000):ń ["yard"] [Z0 w h (A++t::B) D] Β [sV<|Q1 A.length]=.ret (.str "ok") ["yard"] [Z0 w h (A++B) D] Β:=by have hw:=Z38 (w:=w) (h:=h) (t:=t) hT hD;have q:=ŗ T3 T3;have q0:=ŗ T3 T2;rw[show decide (È "take"=È "put")=Ε by decide+kernel]at q0;have sp:=QZ (ws:=[wC "take",nT (A.length:Int)]) (jC NC<|jC (ZN<|by lia) Ey) (by simp) (by simp);change ϖ (.str<|S<|Q1 A.length) _=Α (.ow [.str "take",ź (A.length:Int)])at sp;show ń _ _ _ [.str<|S<|Q1 A.length]=_;simp[ń,jt,gm,lW,sp,q,q0,hw,putN,vq];rfl
def XR{t:Th}(hg:Z1 t.1 t.2=Δ):č [.sh<|.lst (.str "put"::.str t.1::t.2.map .int)]=.ret (.sh<|sV<|ND t):=by obtain⟨h1,h2⟩:=Z3M hg;have e:=Z5S<|.th t;have j:=TR (ws:=(.str "put",wC "put")::pW (.th t)) (jC (Q_ _)<|Z4U hg) (λx hx=>h1 x.2 (by rw[<-e];exact bA hx)) (by rw[<-e]at h2;simpa using h2);rw[â,â,e]at j;unfold pW at j;rw[â,Ĺ]at j;exact j
def Z61(b:(["Thing","Post","Fence","Sail","Cloth","House"]:List String).contains C=Δ)(w:Str)(xs:List Int):ħ ["Thing","Post","Fence","Sail","Cloth","House"] (È "word") (Zc C w xs)=Α (.str w):=by unfold ħ Zc;dsimp only;rw[if_pos b];simp
def Z2g(w:Str):(["Thing","Post","Fence","Sail","Cloth","House"]:List String).contains (Ze w)=Δ:=by
 unfold Ze
 repeat' split
 all_goals decide
def Z4y(a:Z1 t.1 t.2=Δ):ó [.sh<|fk t]=.ret (.sh<|sV<|Z2<|aJ<|.th t):=by
 obtain⟨g,h2,f⟩:=NA (r:=.th t) a;have j:=TQ g f;have e:(aJ<|.th t).map sV=.str t.1::t.2.map ź:=Xw<|.th t;rw[e]at j;have d:=Z61 (Z2g t.1) t.1 t.2;have b:=Og (Z2g t.1) t.1 t.2;have c:=XD (ZC a).1 (by have:=(ZC a).2;lia);have hl:(t.2.map ź).length<=1000:=by have:=(ZC a).2;simp;lia
 change ħ _ _ (fk t)=_ at d;change ħ _ _ (fk t)=_ at b;have h:é (.lst [.str t.1]) (.lst<|t.2.map ź)=Α (.ow (.str t.1::t.2.map ź)):=by rw[l_ (by simp only[Ė,sC];lia)];rfl
 simp[ó,lQ,d,b,c,h,j]
def Z4z(b:ZE o):br [.sh<|aq o]=.ret (.sh<|sV<|Z2<|aJ<|.tn o):=by
 cases o with
 |none=>have e:sV (Z2<|aJ<|.tn Β)=.str "night":=congrArg PV.str<|Oi _;rw[e];simp[aq,tM];rfl|some r=>
  obtain⟨h,h2,g⟩:=NA (r:=.tn<|some r) b;have j:=TQ h g;obtain⟨b1,b2,b3,b4,b5,b6⟩:=b;have e:(aJ<|.tn<|some r).map sV=[.str "ray",ź r.1,ź r.2.1,ź r.2.2]:=rfl;rw[e]at j;have c:=XD (ns:=[r.1,r.2.1,r.2.2]) (λn f=>by simp at f;unfold Nb;lia) (by simp);simp only[â,ſ]at c;have i:é (.lst [.str "ray"]) (.lst [ź r.1,ź r.2.1,ź r.2.2])=Α (.ow [.str "ray",ź r.1,ź r.2.1,ź r.2.2]):=by rfl
  simp[br,kG,aq,c3,tM,c,i,j]
def Z39{T:List Th}(k:∀t∈T,Z1 t.1 t.2=Δ)(hl:T.length<=1000):ĝ (gN 0) Ę (Ñ<|nC "shown" [("Thing",ó),("Post",ó),("Fence",ó),("Sail",ó),("Cloth",ó),("House",ó)] (í 0) Ö) (T.map fk) [.no] []=Α (T.map λt=>sV<|Z2<|aJ<|.th t):=by
 have:=Đ (g:=gN 0) (mt:=Ę) (me:=Ñ<|nC "shown" [("Thing",ó),("Post",ó),("Fence",ó),("Sail",ó),("Cloth",ó),("House",ó)] (í 0) Ö) fk (λt=>sV<|Z2<|aJ<|.th t) (λa=>∃s,a=[s]) T [.no] [] ⟨_,rfl⟩ (by simp;lia) (by
  rintro t j a ⟨s,rfl⟩;have e:=Z4y<|k t j;have i:([("Thing",ó),("Post",ó),("Fence",ó),("Sail",ó),("Cloth",ó),("House",ó)]:List (String×MF)).lookup (Ze t.1)=Α ó:=by
   unfold Ze
   repeat' split
   all_goals rfl
  have l:fk t=.ins (Ze t.1) ["word","numbers"] [.str t.1,.lst<|t.2.map .int]:=rfl;rw[l]at e⊢;have n:(È "shown"=È "word")=False:=eq_false (by decide+kernel);have m:(È "shown"=È "numbers")=False:=eq_false (by decide+kernel);simp[i,e,n,m])
 simpa using this
def Z2t{b:List (Option P3)}(f:∀o∈b,ZE o)(hl:b.length<=1000):ĝ (gN 0) Ę (Ñ<|ß br<|Ì 0 Ö) (b.map aq) [.no] []=Α (b.map λo=>sV<|Z2<|aJ<|.tn o):=by
 have:=Đ (g:=gN 0) (mt:=Ę) (me:=Ñ<|ß br<|Ì 0 Ö) aq (λo=>sV<|Z2<|aJ<|.tn o) (λa=>∃s,a=[s]) b [.no] [] ⟨_,rfl⟩ (by simp;lia) (by
  rintro o h a ⟨s,rfl⟩;have e:=Z4z<|f o h;simp[e])
 simpa using this
def Z6y(h:Nb t)(hl:l.length<=100)(d s1 s4:ŏ):Jl [mC<|.str "day ",Es<|í 2,mC<|.str " ",Es<|í 3] iz [d,s1,.sh<|sV l,.sh<|.int t,s4]=.ok (sV<|Z2<|aJ<|.dy l t) [d,s1,.sh<|sV l,.sh<|.int t,s4]:=by
 have r:iz++È "day "=S (wC "day"++[32]):=by decide+kernel
 have q:S (wC "day"++[32])++S l=S (wC "day"++[32]++l):=iA (by simp[sY]);have p:S (wC "day"++[32]++l)++È " "=S (wC "day"++[32]++l++[32]):=by rw[NB];exact iA (by simp[sY])
 have o:S (wC "day"++[32]++l++[32])++S (nT t)=S (wC "day"++[32]++l++[32]++nT t):=iA (by simp[sY]);have n:Z2 (aJ<|.dy l t)=wC "day"++[32]++l++[32]++nT t:=by show wC "day"++[32]++(l++[32]++nT t)=_;simp
 have c:(wC "day").length=3:=by decide+kernel
 have ln:=(QS h.1 h.2).2;have m:(S<|wC "day"++[32]).length<=16777216:=by rw[Zf];simp[c]
 have k:(S<|wC "day"++[32]++l).length<=16777216:=by rw[Zf];simp[c];lia
 have j:(S<|wC "day"++[32]++l++[32]).length<=16777216:=by rw[Zf];simp[c];lia
 have i:(S<|wC "day"++[32]++l++[32]++nT t).length<=16777216:=by rw[Zf];simp[c];lia
 have g:(S l).length<=16777216:=by rw[Zf];lia
 have f:=Z3G h;have e:=Z3x t;rw[n];unfold sV;simp only[Nc,M9,M8,mC,Pn,sx,BY,Ĳ.bM,r,q,p,o,m,k,j,i,g,f,e,if_true]
theorem Z1y(Y:PV):∀(D:List Dz) (R:List (List Nat)) (a b c:ŏ),(∀d∈D,Zq d)->R.length+25*D.length<=1000->∃h g c',Ŭ (gT 3<|ë (gN 2)<|ë (gN 3)<|ë (gN 4) Ş) gy ((D.map zV).map Ϸ) [.sh Y,.ow<|R.map sV,a,b,c]=.ok .nx [.sh Y,.ow<|(R++D.flatMap AE).map sV,h,g,c']
 |[],R,a,b,c,_,_=>⟨a,b,c,by simp[Ŭ]⟩|d::D,R,a,b,c,i,q=>by
  have hd:=i d (by simp);refine BL λZ=>?_;obtain⟨u,g2,g3,g4,g5,s⟩:=id hd;rw[Ė]at q;have hz:=Z2G hd;obtain⟨h,g,c',e⟩:=Z1y Y D (R++AE d) (.sh<|sV d.1) (.sh<|.int d.2.1) (.sh<|.lst<|d.2.2.map aq) (λx p=>i x<|ð _ p) (by rw[ŭ];lia);refine Z ?_;refine⟨h,g,c',?_⟩;have z:Ϸ (zV d)=.tup [sV d.1,.int d.2.1,.lst<|d.2.2.map aq]:=rfl;have r:gT 3 (ë (gN 2)<|ë (gN 3)<|ë (gN 4) Ş) (Ϸ<|zV d) [.sh Y,.ow<|R.map sV,a,b,c]=Α [.sh Y,.ow<|R.map sV,.sh<|sV d.1,.sh<|.int d.2.1,.sh<|.lst<|d.2.2.map aq]:=by rw[z];rfl
  have k:gy [.sh Y,.ow<|R.map sV,.sh<|sV d.1,.sh<|.int d.2.1,.sh<|.lst<|d.2.2.map aq]=.ok .nx [.sh Y,.ow<|(R++AE d).map sV,.sh<|sV d.1,.sh<|.int d.2.1,.sh<|.lst<|d.2.2.map aq]:=by
   have y:=Z6y (l:=d.1) (t:=d.2.1) ⟨by lia,by lia⟩ (by have:=u.2.1;lia) (.sh Y) (.ow<|R.map sV)<|.sh<|.lst<|d.2.2.map aq;have w:=Z2t s (by lia);have v:(R++AE d).map sV=R.map sV++[sV<|Z2<|aJ<|.dy d.1 d.2.1]++d.2.2.map (λo=>sV<|Z2<|aJ<|.tn o):=by unfold AE;simp[rZ]
   have n:(R.map sV).length<16777216:=by simp;lia
   have m:(R.map sV).length+1+(d.2.2.map<|λo=>sV<|Z2<|aJ<|.tn o).length<=16777216:=by simp;lia
   rw[v];generalize R.map sV=RR at*;generalize (d.2.2.map λo=>sV<|Z2<|aJ<|.tn o)=OO at*;unfold gy;simp[y,w,n,m]
  rw[â,â,Ŭ,r];dsimp only;rw[k];refine cE e ?_;rw[mB,my]
def Z5q(f:1<=w/\w<=20)(g:1<=h/\h<=20)(i:∀t∈T,Z1 t.1 t.2=Δ)(A:T.length<=40)(j:∀d∈D,Zq d)(z:D.length<=12):ff [.sh<|Z0 w h T<|D.map zV]=.ret (.sh<|sV<|yY w h T D):=by
 obtain⟨l,y2,k⟩:=QY f g;have e:=TQ l k;have v:(yT w h).map sV=[.str "yard",ź w,ź h]:=rfl;rw[v]at e;have o:=Zh (n:=w) ⟨by lia,by lia⟩;have m:=Zh (n:=h) ⟨by lia,by lia⟩;have y:=Z39 i (by lia);obtain⟨a',b',c',b⟩:=Z1y (Z0 w h T<|D.map zV) D (Z2 (yT w h)::T.map (λt=>Z2<|aJ<|.th t)) .no .no .no j (by simp;lia);have c:=XG f g i A j z;rw[Z3H]at c;rw[c_]at b;have x:(Z2 (yT w h)::T.map (λt=>Z2<|aJ<|.th t)).map sV=sV (Z2<|yT w h)::T.map λt=>sV (Z2<|aJ<|.th t):=by rw[â,Ĺ];rfl
 rw[x]at b;have p:1+(T.map λt=>sV<|Z2<|aJ<|.th t).length<=16777216:=by simp;lia
 have u:=DI w h T<|D.map zV;have s:=G7 w h T<|D.map zV;have r:=Ts w h T<|D.map zV;have q:=JG w h T<|D.map zV;generalize (D.map zV).map Ϸ=DY at*;generalize (T.map λt=>sV<|Z2<|aJ<|.th t)=TS at*;generalize (Z2 (yT w h)::(T.map (λt=>Z2<|aJ<|.th t)++D.flatMap AE)).map sV=LL at*;simp[ff,qt,ý,u,s,r,q,o,m,e,y,b,c,p]
def c59:È "; "=S [59,32]:=by decide+kernel
def Z62(d:b≠[])(h:∀l∈b,10∉l):pi (S<|ĉ [10] b) (È "\n") (È "; ")=S (ĉ [59,32] b):=by refine(PySem.StrLaws.replace_one (S<|ĉ [10] b) (S [59,32]) 10).trans ?_;rw[<-zb (S [59,32]) b];exact congrArg _ (Sp.uC (by simp) (by simp) d h)
section
variable{w h:Nat}{T:List Th}{D:List Dz}(hw:1<=w/\w<=20)(hh:1<=h/\h<=20)(hT:∀t∈T,Z1 t.1 t.2=Δ)(BC:T.length<=40)(hD:∀d∈D,Zq d)(BD:D.length<=12)
include hw hh hT hD
def Z4X(b:c=10\/c=59):∀l∈qA w h T D,c∉l:=λl a=>by
 rcases ù.mp a with rfl|a
 ·exact Xy (QY (by lia)<|by lia).1 b
 ·obtain⟨r,e,rfl⟩:=Ĉ.mp a;exact Xy (NA<|Xz hT hD r e).1 b
include BC BD
def Z4A:ĭ [Zj<|Z4 w h T D,.sh<|.str "show"]=.ret (.sh<|sV<|ĉ [59,32] (qA w h T D)):=by
 have b:=Z5q (w:=w) (h:=h) (by lia) (by lia) hT BC hD BD;have j:qA w h T D≠[]:=by unfold qA;simp
 have d:=Z62 j<|Z4X hw hh hT hD<|.inl rfl;have jl:=ZJ (c:=10) (qA w h T D) 1212 (XF (by lia) (by lia) hT hD);have m:(qA w h T D).length*(1212+1)<=401*1213:=fN (XE BC hD BD) (by lia);have l:(S<|yY w h T D).length<=1000000:=by rw[Zf];unfold yY;lia
 have e:(È "; ").length=2:=by decide+kernel
 have bd:(S<|yY w h T D).length+((S<|yY w h T D).length+1)*(È "; ").length<=16777216:=by rw[e];lia
 have p:cB [.sh<|Z4 w h T D,.sh<|.lst []]=.ret (.sh<|sV<|ĉ [59,32] (qA w h T D)):=by change ff [.sh<|Z4 w h T D]=.ret (.sh<|.str<|S<|yY w h T D)at b;change pi (S<|yY w h T D) _ _=_ at d;show _=FR.ret (.sh<|.str<|S<|ĉ [59,32] (qA w h T D));simp[cB,lR,ý,b,bd,d]
 have i:Ī [.bw [.str "show"],.sh<|.int 1]=.ret (.ow []):=T1 (W:=[.str "show"]) (k:=1) (ns:=[]) (by simp) rfl (by simp) (by simp);have g:GX "ROWS" ZQ (.str "show") (.cls "ROWS")=Α (.bl Ε):=by kernel_rfl
 have f:GY "ROWS" ZQ (.cls "ROWS") (.str "show")=Α (.tup [.int 0,.int 0,.cls "answer_show"]):=by kernel_rfl
 have n:cx [PV.str<|È "show"] (Α 1) (Α 1)=[]:=by decide+kernel
 have q:é (.lst []) (.lst [])=Α (.ow []):=l_ (by simp);have o:fj [.sh<|Z4 w h T D,.bw [.str "show"]]=.ret (.sh<|sV<|ĉ [59,32] (qA w h T D)):=by simp[fj,qV,ý,g,f,n,i,q,p,ĝ,iZ]
 have:=XN (s:="show") (ws:=[]) (by decide+kernel) (by decide+kernel) (by decide+kernel) (jC NC Ey) (by simp) o;exact this
def Z3N:ϖ (sV<|ĉ [59,32] (qA w h T D)) [.str "; "]=Α (.ow<|(qA w h T D).map sV):=by
 have a:qA w h T D≠[]:=by unfold qA;simp
 have jl:(ĉ [59,32] (qA w h T D)).length<=(qA w h T D).length*(1212+2):=Xx (qA w h T D) 1212 (XF (by lia) (by lia) hT hD);have b:(qA w h T D).length*(1212+2)<=401*1214:=fN (XE BC hD BD) (by lia);exact TN c59 (by lia) a<|Z4X hw hh hT hD<|.inr rfl
end
def oV:Option Int->PV
 |none=>.non|some c=>.int c
def Zb(N:Nat)(f:Nat->Option Int):List PV:=(ú N).map λn=>oV<|f n
def T7(h:n<N):Þ (.lst<|Zb N f) (.int n)=Α (oV<|f n):=by unfold Zb;simp[h]
def Z2h(x y w:Int)(h:Ŷ y w=Δ):ϻ [.sh<|.tup [.int x,.int y],.sh<|.int w]=.ret (.sh<|.int<|y*w+x):=by simp[ϻ,qv,h]
def Z2K{n w:Nat}(hw:0<w)(qD:w<=1000):eE [.sh<|.int n,.sh<|.int w]=.ret (.sh<|.tup [.int (n%w:Nat),.int (n/w:Nat)]):=by
 have d:Int.fmod n w=((n%w:Nat):Int):=by rw[r_ _<|by lia];simp
 have c:Int.fdiv n w=((n/w:Nat):Int):=by rw[oG _<|by lia];simp
 have b:pU n w=Δ:=F8 (by lia) (ţ (yD (n:=200) (by lia)<|by lia)<|by decide);have a:¬w=0:=by lia
 simp[eE,rG,a,d,c,b]
def Z3O{w h:Nat}(D:List Dy){x y:Int}(hx:¬((0<=x/\x<w)/\(0<=y/\y<h))):ő [.sh<|Z0 w h T D,.sh<|.tup [.int x,.int y]]=.ret (.sh<|.bl Ε):=by
 have d:=DI w h T D;have e:=G7 w h T D;by_cases b:0<=x
 ·by_cases c:x<w
  ·by_cases f:0<=y
   ·have a4:¬y<h:=λa4=>hx ⟨⟨b,c⟩,f,a4⟩;simp[ő,bU,ý,d,e,b,c,f,a4]
   ·simp[ő,bU,ý,d,e,b,c,f]
  ·simp[ő,bU,ý,d,e,b,c]
 ·simp[ő,bU,b]
def Z3a{w h:Nat}(D:List Dy){x y:Int}(c:(0<=x/\x<w)/\(0<=y/\y<h)):ő [.sh<|Z0 w h T D,.sh<|.tup [.int x,.int y]]=.ret (.sh<|.bl Δ):=by have a:=DI w h T D;have b:=G7 w h T D;obtain⟨⟨g,f⟩,e,d⟩:=c;simp[ő,bU,a,b,g,f,e,d]
def ZO:List (Int×Int):=[(-1,0),(1,0),(0,-1),(0,1),(0,0)]
def KR(w h:Nat)(p:Int×Int):Bool:=decide<|(0<=p.1/\p.1<w)/\(0<=p.2/\p.2<h)
def yZ(w h n:Nat):List Nat:=((ZO.map λd=>(((n%w:Nat):Int)+d.1,((n/w:Nat):Int)+d.2)).filter (KR w h)).map λp:Int×Int=>(p.2*(w:Int)+p.1).toNat
def Q2(c:m∈yZ w h n):m<w*h:=by
 obtain⟨p,b,rfl⟩:=Ĉ.mp c;obtain⟨_,b⟩:=aM.mp b;have b:=of_decide_eq_true b;obtain⟨⟨h1,h2⟩,d,h4⟩:=b;have h5:=by have:(p.2+1)*w<=h*w:=Int.mul_le_mul_of_nonneg_right (by omega) (by omega);rw[Int.add_mul]at this;omega
 have h6:0<=p.2*w:=ŋ d (by omega);have h7:((w*h:Nat):Int)=h*w:=by rw[ib,Int.mul_comm]
 omega
def Z1z{w h:Nat}(D:List Dy)(x y:Int):ő [.sh<|Z0 w h T D,.sh<|.tup [.int x,.int y]]=.ret (.sh<|.bl<|KR w h (x,y)):=by
 by_cases d:(0<=x/\x<w)/\(0<=y/\y<h)
 ·rw[Z3a D d,show KR w h (x,y)=Δ from decide_eq_true d]
 ·rw[Z3O D d,show KR w h (x,y)=Ε from decide_eq_false d]
def T8(w n:Nat):List (Int×Int):=ZO.map λd=>(((n%w:Nat):Int)+d.1,((n/w:Nat):Int)+d.2)
def Z63(x y:Int):ĝ (gT 2<|ë (gN 1)<|ë (gN 2) Ş) Ę (Ϧ<|É (Ñ<|ô é (Ê Þ (Â 0)<|Æ 0)<|Â 1)<|É (Ñ<|ô é (Ê Þ (Â 0)<|Æ 1)<|Â 2) á) [.tup [.int<|-1,.int 0],.tup [.int 1,.int 0],.tup [.int 0,.int<|-1],.tup [.int 0,.int 1],.tup [.int 0,.int 0]] [.sh<|.tup [.int x,.int y],.no,.no] []=Α ((ZO.map λd=>(x+d.1,y+d.2)).map λp:Int×Int=>PV.tup [.int p.1,.int p.2]):=by simp[ĝ,ZO]
def Z3P(h1: -(2^60)<a)(h2:a<2^60)(h3: -(2^60)<b)(h4:b<2^60):Ŷ a b=Δ:=cy (by lia) (by lia)
def Z3Q(k:0<w)(v:w<=1000)(hh:h<=1000)(T:List Th)(D:List Dy){n:Nat}(B:n<w*h):bV [.sh<|Z0 w h T D,.sh<|.int n]=.ret (.ow<|(yZ w h n).map λ(m:Nat)=>PV.int m):=by
 have j:=DI w h T D;have K:=Z2K (n:=n) k v;have q:=Z63 ((n%w:Nat):Int) ((n/w:Nat):Int);have A:n/w<h:=(Z4S k).mpr B;have o:=bS (g:=gN 1) (mt:=dU<|Ñ<|ß ő<|Ì 0<|Ì 1 Ö) (me:=Ñ<|ß ϻ<|Ì 1<|Ü (ϥ (ħ ["Yard"] "width")<|Â 0) Ö) (λp:Int×Int=>PV.tup [.int p.1,.int p.2]) (λp:Int×Int=>PV.int<|p.2*(w:Int)+p.1) (KR w h) (λb=>∃a,b=[.sh<|Z0 w h T D,a]) (T8 w n) [.sh<|Z0 w h T D,.no] [] ⟨_,rfl⟩ (by simp[T8,ZO]) (by
  rintro p _ b ⟨a,rfl⟩;have z:=Z1z (w:=w) (h:=h) (T:=T) D p.1 p.2;refine⟨[.sh<|Z0 w h T D,.sh<|.tup [.int p.1,.int p.2]],[.sh<|Z0 w h T D,.sh<|.tup [.int p.1,.int p.2]],by simp,by simp[z],λu=>⟨_,rfl⟩,λhq=>⟨[.sh<|Z0 w h T D,.sh<|.tup [.int p.1,.int p.2]],?_,_,rfl⟩⟩;obtain⟨⟨G,E⟩,l,C⟩:=of_decide_eq_true hq;have H:=Z2h p.1 p.2 w (Z3P (by lia) (by lia) (by lia)<|by lia);simp[j,H])
 have J:((T8 w n).filter (KR w h)).map (λp:Int×Int=>PV.int<|p.2*(w:Int)+p.1)=(yZ w h n).map λ(m:Nat)=>PV.int m:=by unfold yZ;rw[Ĺ];refine su λp f=>?_;obtain⟨_,f⟩:=aM.mp f;obtain⟨⟨G,E⟩,l,C⟩:=of_decide_eq_true f;have h6:0<=p.2*(w:Int):=ŋ l (by lia);congr 1;show p.2*(w:Int)+p.1=(((p.2*(w:Int)+p.1).toNat:Nat):Int);lia
 rw[ϊ,J]at o;have I:(T8 w n).map (λp:Int×Int=>PV.tup [.int p.1,.int p.2])=(ZO.map λd=>(((n%w:Nat):Int)+d.1,((n/w:Nat):Int)+d.2)).map λp:Int×Int=>PV.tup [.int p.1,.int p.2]:=rfl;rw[<-I]at q;generalize ((n%w:Nat):Int)=x,((n/w:Nat):Int)=y at*;simp[bV,iU,ý,iZ,j,K,q,o]
def Hb(k:Nat->Int):Nat->List Nat->Nat
 |m,[]=>m|m,q::a=>if k q<k m then Hb k q a else Hb k m a
def XS(k:Nat->Int):List Nat->Option Nat
 |[]=>Β|m::a=>Α<|Hb k m a
def oN:Option Nat->PV
 |none=>.non|some m=>.int (m:Nat)
theorem XT(k:Nat->Int):∀(a:List Nat) (m:Nat),kx (.int m) (k m) (a.map λ(m:Nat)=>PV.int m) (a.map k)=.int (Hb k m a)
 |[],m=>rfl|q::b,m=>by
  show ite (k q<k m) _ _=PV.int ((ite (k q<k m) _ _:Nat):Int);split
  ·exact XT k b q
  ·exact XT k b m
def Z5r(k:Nat->Int)(l:List Nat):qc (l.map λ(m:Nat)=>PV.int m) (l.map k)=Α (oN<|XS k l):=by
 cases l with
 |nil=>rfl|cons m ms=>show Α (kx _ _ _ _)=_;rw[XT];rfl
theorem T9(k:Nat->Int):∀(b:List Nat) (m:Nat),Hb k m b∈m::b
 |[],m=>by simp[Hb]|q::a,m=>by
  rw[Hb];split
  ·exact ð _<|T9 k a q
  ·have:=T9 k a m;rcases ù.mp this with e|e
   ·rw[e];exact ŀ
   ·exact ð _<|ð _ e
def XU(h:XS k l=Α m):m∈l:=by
 cases l with
 |nil=>cases h|cons a b=>cases h;exact T9 k b a
def Kx(f:Nat->Option Int)(l:List Nat):List Nat:=l.filter λm=>(f m).isSome
def ZP(w h:Nat)(f:Nat->Option Int)(n:Nat):Option Nat:=XS (λm=>(f m).getD 0)<|Kx f<|yZ w h n
theorem Z3R{s2:ŏ}(i:Sl s2 (Zb N f))(d b a:ŏ):∀l:List Nat,(∀m∈l,m<N/\(f m).isSome=Δ)->Bo [2] (Ê Þ (Â 0)<|Â 1) [d,b,s2,a] (l.map λ(m:Nat)=>PV.int m)=Α (l.map λm=>(f m).getD 0)
 |[],_=>rfl|m::l,h=>by
  obtain⟨r,p⟩:=h m ŀ;have n:=Z3R i d b a l λq o=>h q<|ð _ o;have e:=T7 (f:=f) r;obtain⟨c,g⟩:=oU.mp p;rw[g]at e;rw[â,â,Bo];have s:(Ê Þ (Â 0)<|Â 1) (vC [2] [d,b,s2,a] (.int m))=.ok (.int c) [s2,.sh<|.int m]:=by rcases i with rfl|rfl<;>simp[vC,e,oV]
  rw[s];rw[n,g];rfl
def Z2L(x:0<w)(v:w<=1000)(A:h<=1000)(T:List Th)(D:List Dy){n:Nat}(y:n<w*h){s2:ŏ}(k:Sl s2 (Zb (w*h) f)):bu [.sh<|Z0 w h T D,.sh<|.int n,s2]=.ret (.sh<|oN<|ZP w h f n):=by
 have s:=Z3Q x v A T D y;have i:=bS (g:=gN 1) (mt:=ϐ<|Ê ng (Ê Þ (Â 0)<|Â 1)<|mC .non) (me:=í 1) (λ(m:Nat)=>PV.int m) (λ(m:Nat)=>PV.int m) (λm=>(f m).isSome) (λb=>∃a,b=[dW s2,a]) (yZ w h n) [dW s2,.no] [] ⟨_,rfl⟩ (by unfold yZ;simp[];have:=List.length_filter_le (KR w h)<|ZO.map λd=>(((n%w:Nat):Int)+d.1,((n/w:Nat):Int)+d.2);simp[ZO]at this;simp[ZO];lia) (by
  rintro m l b ⟨a,rfl⟩;have j:=T7 (f:=f)<|Q2 l;cases p:f m with
  |none=>rw[p]at j;rcases k with rfl|rfl<;>simp[dW,j,oV,tM]
  |some c=>rw[p]at j;rcases k with rfl|rfl<;>simp[dW,j,oV,tM])
 have r:=Z3R k (.sh<|Z0 w h T D) (.sh<|.int n) (.ow<|(Kx f<|yZ w h n).map λ(m:Nat)=>PV.int m) (Kx f<|yZ w h n) (λm l=>by obtain⟨C,B⟩:=aM.mp l;exact⟨Q2 C,B⟩);have q:=Z5r (λm=>(f m).getD 0)<|Kx f<|yZ w h n;have z:Kx f (yZ w h n)=(yZ w h n).filter λm=>(f m).isSome:=rfl;rw[<-z]at i;unfold ZP;rcases k with rfl|rfl
 ·simp[dW]at i;simp[bu,kH,ý,iZ,dW,s,i,r,q]
 ·simp[dW]at i;simp[bu,kH,ý,iZ,dW,s,i,r,q]
def ZZ(w h goal:Nat)(f:Nat->Option Int)(n:Nat):Option Int:=if n=goal then Α 0 else(ZP w h f n).bind f
def Z64(l:0<w)(k:w<=1000)(q:h<=1000)(T:List Th)(D:List Dy){n goal:Nat}(o:n<w*h){s3:ŏ}(g:Sl s3 (Zb (w*h) f)):aG [.sh<|Z0 w h T D,.sh<|.int n,.sh<|.int goal,s3]=.ret (.sh<|oV<|ZZ w h goal f n):=by
 by_cases i:n=goal
 ·subst i;have e:ZZ w h n f n=Α 0:=by simp[ZZ]
  rw[e];simp[aG,dL,oV]
 ·have b:¬(n:Int)=goal:=by lia
  have c:=Z2L l k q T D o g;have e:ZZ w h goal f n=(ZP w h f n).bind f:=by simp[ZZ,i]
  rw[e];cases d:ZP w h f n with
  |none=>rw[d]at c;rcases g with rfl|rfl<;>simp[aG,dL,b,c,oN,oV,tM]
  |some m=>rw[d]at c;have p:=Q2 (aM.mp<|XU d).1;have j:=T7 (f:=f) p;rcases g with rfl|rfl<;>simp[aG,dL,b,c,oN,tM,j]
def ZK(B:Int)(n:Nat):Int:=1-B/2^n%2
def Zg(w h goal:Nat)(B:Int)(f:Nat->Option Int)(n:Nat):Option Int:=(ZZ w h goal f n).map λb=>ZK B n+b
def Z5s(c k:Nat):pV (c:Int) (k:Int)=Δ:=by simp[pV]
theorem Z1A(p:0<w)(A:w<=60)(u:h<=1000)(T:List Th)(D:List Dy)(s1:ŏ)(goal B:Nat){s3:ŏ}(g:Sl s3 (Zb (w*h) f)):∀(d:List Nat) (acc:List PV) (i b a:ŏ),(∀k∈d,k<w*h)->acc.length+d.length<=1000000->
 ∃n l j:ŏ,Ŭ (gN 6) fg (d.map λ(k:Nat)=>PV.int k) [.sh<|Z0 w h T D,s1,.sh<|.int goal,s3,.sh<|.int B,.ow acc,i,b,a]=.ok .nx [.sh<|Z0 w h T D,s1,.sh<|.int goal,s3,.sh<|.int B,.ow<|acc++d.map λk=>oV<|Zg w h goal B f k,n,l,j]
 |[],acc,i,b,a,_,_=>⟨i,b,a,by simp[Ŭ]⟩|k::d,acc,i,b,a,t,s=>by
  have L:=t k ŀ;have m:=Z64 p (by lia) u T D (goal:=goal) L g;have x:acc.length<16777216:=by simp at s;lia
  have v:fv (.int<|(B:Int)/2^k) (.int 1)=Α (.int<|(B:Int)/2^k%2):=by show Α (PV.int<|dn _ _)=_;rw[Z4R]
  have G:=g.lend;have o:=Z5s B k;have e:∃l j:ŏ,fg [.sh<|Z0 w h T D,s1,.sh<|.int goal,s3,.sh<|.int B,.ow acc,.sh<|.int k,b,a]=.ok .nx [.sh<|Z0 w h T D,s1,.sh<|.int goal,s3,.sh<|.int B,.ow<|acc++[oV<|Zg w h goal B f k],.sh<|.int k,l,j]:=by
   unfold Zg ZK;cases r:ZZ w h goal f k with
   |none=>rw[r]at m;rcases g with rfl|rfl<;>simp[fg,m,oV,tM,x,o,v]
   |some c=>rw[r]at m;rcases g with rfl|rfl<;>simp[fg,m,oV,tM,x,o,v]
  refine BL λZ=>?_;obtain⟨l,j,e⟩:=e;obtain⟨K,J,I,C⟩:=Z1A p A u T D s1 goal B g d (acc++[oV<|Zg w h goal B f k]) (.sh<|.int k) l j (λq E=>t q<|ð _ E) (by simp at s⊢;lia);refine Z ?_;refine⟨K,J,I,?_⟩;rw[â,Ŭ];have H:gN 6 (PV.int (k:Int)) [.sh<|Z0 w h T D,s1,.sh<|.int goal,s3,.sh<|.int B,.ow acc,i,b,a]=Α [.sh<|Z0 w h T D,s1,.sh<|.int goal,s3,.sh<|.int B,.ow acc,.sh<|.int k,b,a]:=rfl;rw[H];dsimp only;rw[e];show Ŭ _ _ _ _=_;rw[C];simp
def Z2M(d:0<w)(c:w<=60)(e:h<=1000)(j:w*h<=1000)(s:T.length<=1000)(D:List Dy)(r:∀t∈T,Z1 t.1 t.2=Δ)(p:ER o)(goal:Nat){s3:ŏ}(g:Sl s3 (Zb (w*h) f)):
 kI [.sh<|Z0 w h T D,.sh<|aq o,.sh<|.int goal,s3]=.ret (.ow<|Zb (w*h)<|Zg w h goal (nS w h T o) f):=by
 have x:=Tu d c e j s D r p;have l:=DI w h T D;have m:=G7 w h T D;have n:Ŷ w h=Δ:=cy (by lia) (by lia);have b:=ZI j;have v:=ib w h;rw[v]at b;obtain⟨b6,b7,b8,i⟩:=Z1A d c e T D (.sh<|aq o) goal (nS w h T o) g (ú<|w*h) [] .no .no .no (λk q=>aN.mp q) (by simp;lia);generalize nS w h T o=B at*;have u:(ú<|w*h).map (λk=>oV<|Zg w h goal B f k)=Zb (w*h) (Zg w h goal B f):=rfl;rw[u]at i;rcases g with rfl|rfl<;>simp[kI,rH,x,l,m,n,b,i]
def Zi(b:List (Nat->Option Int)):Nat->Option Int:=b.getLast?.getD λx=>Β
def wB:List (Nat->Option Int)->Nat->Option Int
 |[]=>λx=>Β
 |f::_=>f
def Za(w h goal:Nat):List Nat->List (Nat->Option Int)
 |[]=>[]|B::a=>Zg w h goal B (wB<|Za w h goal a)::Za w h goal a
def NE(w h goal:Nat):List (Nat->Option Int)->List Nat->List (Nat->Option Int)
 |a,[]=>a|a,B::l=>NE w h goal (a++[Zg w h goal B<|Zi a]) l
theorem Z2i(w h goal:Nat)(B:Nat):∀(l:List Nat) (a:List (Nat->Option Int)),NE w h goal a (l++[B])=NE w h goal a l++[Zg w h goal B<|Zi<|NE w h goal a l]
 |[],a=>rfl|C::l,a=>by show NE w h goal _ (l++[B])=_;rw[Z2i w h goal B l];rfl
def Z4B(a:List (Nat->Option Int)):Zi a.reverse=wB a:=by
 cases a with
 |nil=>rfl|cons f r=>simp[Zi,wB]
theorem Z2j(w h goal:Nat):∀Bs:List Nat,NE w h goal [] Bs.reverse=(Za w h goal Bs).reverse
 |[]=>rfl|B::Bs=>by rw[mz,Z2i,Z2j w h goal Bs,Z4B,Za,mz]
theorem Ua(w h goal:Nat):∀Bs:List Nat,(Za w h goal Bs).length=Bs.length
 |[]=>rfl|B::Bs=>congrArg (·+1)<|Ua w h goal Bs
def rV(N:Nat)(f:Nat->Option Int):PV:=.lst<|Zb N f
theorem Z2k(d:0<w)(c:w<=60)(j:h<=1000)(p:w*h<=1000)(n:T.length<=1000)(D:List Dy)(m:∀t∈T,Z1 t.1 t.2=Δ)(goal:Nat)(s1:ŏ):∀(l:List (Option P3)) (a:List (Nat->Option Int)) (s4 s5:ŏ),(s4=.ow (Zb (w*h)<|Zi a)\/s4=.sh (.lst<|Zb (w*h)<|Zi a))->(∀o∈l,ER o)->a.length+l.length<=1000->
 ∃b H:ŏ,Ŭ (gN 5) fh (l.map aq) [.sh<|Z0 w h T D,s1,.sh<|.int goal,.ow<|a.map<|rV<|w*h,s4,s5]=.ok .nx [.sh<|Z0 w h T D,s1,.sh<|.int goal,.ow<|(NE w h goal a<|l.map<|nS w h T).map (rV<|w*h),b,H]
 |[],a,s4,s5,_,_,_=>⟨s4,s5,rfl⟩|o::l,a,s4,s5,z,i,r=>by
  have G:a.length<16777216:=by lia
  have e:∃b:ŏ,b=.sh (.lst<|Zb (w*h)<|Zg w h goal (nS w h T o)<|Zi a)/\fh [.sh<|Z0 w h T D,s1,.sh<|.int goal,.ow<|a.map<|rV<|w*h,s4,.sh<|aq o]=.ok .nx [.sh<|Z0 w h T D,s1,.sh<|.int goal,.ow<|(a++[Zg w h goal (nS w h T o)<|Zi a]).map (rV<|w*h),b,.sh<|aq o]:=by
   have B:=Z2M d c j p n D m (i o ŀ) goal (f:=Zi a)<|.inr rfl;have A:=Z2M d c j p n D m (i o ŀ) goal (f:=Zi a)<|.inl rfl;rw[š,â,ſ];have s:(a.map<|rV<|w*h).length<16777216:=by rw[ģ];exact G
   unfold rV at*;generalize a.map (λf=>PV.lst<|Zb (w*h) f)=RS at*;rcases z with rfl|rfl
   ·simp[fh,B,s]
   ·simp[fh,A,s]
  refine BL λZ=>?_;obtain⟨b,g,e⟩:=e;obtain⟨E,C,x⟩:=Z2k d c j p n D m goal s1 l (a++[Zg w h goal (nS w h T o)<|Zi a]) b (.sh<|aq o) (.inr (by rw[g];simp[Zi])) (λq y=>i q<|ð _ y) (by simp at r⊢;lia);refine Z ?_;refine⟨E,C,?_⟩;rw[â,Ŭ];have k:gN 5 (aq o) [.sh<|Z0 w h T D,s1,.sh<|.int goal,.ow<|a.map<|rV<|w*h,s4,s5]=Α [.sh<|Z0 w h T D,s1,.sh<|.int goal,.ow<|a.map<|rV<|w*h,s4,.sh<|aq o]:=rfl;rw[k];dsimp only;rw[e];exact x
def Z4C(hN:N<=1000):ĝ (gN 0) Ę (mC .non) ((ú N).map λ(k:Nat)=>PV.int k) [.no] []=Α ((ú N).map λx=>PV.non):=by
 have f:=Đ (g:=gN 0) (mt:=Ę) (me:=mC .non) (λ(k:Nat)=>PV.int k) (λx=>PV.non) (λb=>∃a,b=[a]) (ú N) [.no] [] ⟨_,rfl⟩ (by simp;lia) (by
  rintro k _ b ⟨a,rfl⟩;exact⟨[.sh<|.int k],[.sh<|.int k],[.sh<|.int k],by simp,by simp,by simp,_,rfl⟩)
 exact f
def Z4D{w h:Nat}(n:0<w)(k:w<=60)(r:h<=1000)(a:w*h<=1000)(u:T.length<=1000)(s:∀t∈T,Z1 t.1 t.2=Δ)(goal:Nat){i:Nat}(q:i<D.length)(p:∀o∈D[i].2.2,ER o)(hl:D[i].2.2.length<=1000):
 kJ [.sh<|Z0 w h T D,.sh<|.int i,.sh<|.int goal]=.ret (.ow<|(Za w h goal<|D[i].2.2.map (nS w h T)).map (rV<|w*h)):=by
 have v:=Xo (w:=w) (h:=h) (T:=T) q;have g:=DI w h T D;have j:=G7 w h T D;have m:Ŷ w h=Δ:=cy (by lia) (by lia);have b:=ZI a;have x:=ib w h;rw[x]at b;have c:=Z4C a;have y:(ú<|w*h).map (λz=>PV.non)=Zb (w*h) (Zi []):=by simp[Zb,Zi,oV]
 rw[y]at c;generalize D[i].2.2=l at*;obtain⟨b4,b5,d⟩:=Z2k n k r a u D s goal (.sh<|.int i) l.reverse [] (.ow<|Zb (w*h)<|Zi []) .no (.inl rfl) (λo h=>p o<|List.mem_reverse.mp h) (by simp;omega);rw[wX,wX,Z2j,wX,ſ]at d;simp[kJ,rJ,v,g,j,m,b,c,d]
def Z4Y(a:List Nat)(l:Nat):Þ (.lst<|(a++[l]).map λ(m:Nat)=>PV.int m) (.int<|-1)=Α (.int l):=by
 show mY _ _=_;unfold mY Hr;simp;rw[if_pos<|by lia];have e:(-1+((a.length:Int)+1)).toNat=a.length:=by lia
 simp[e]
theorem Z2l:∀{Bs:List Nat}{i n:Nat}{f:Nat->Option Int},(Za w h goal Bs)[i]?=Α f->n≠goal->(f n).isSome=Δ->∃m b,(Za w h goal Bs)[i+1]?=Α b/\ZP w h b n=Α m/\(b m).isSome=Δ
 |[],i,n,f,d,_,_=>by simp[Za]at d|B::Bs,0,n,f,d,l,a=>by
  have o:=by simpa[Za]using d
  rw[<-o]at a;unfold Zg ZZ at a;rw[if_neg l]at a;cases j:ZP w h (wB<|Za w h goal Bs) n with
  |none=>rw[j]at a;simp at a|some m=>
   rw[j]at a;have g:(wB (Za w h goal Bs) m).isSome=Δ:=by
    cases t:wB (Za w h goal Bs) m with
    |none=>rw[show(Α m).bind (wB<|Za w h goal Bs)=wB (Za w h goal Bs) m from rfl,t]at a;simp at a|some c=>rfl
   cases k:Za w h goal Bs with
   |nil=>rw[k]at g;simp[wB]at g|cons b r=>rw[k]at j g;exact⟨m,b,by simp[Za,k],j,g⟩
 |B::Bs,i+1,n,f,d,l,a=>by obtain⟨m,b,s,q,p⟩:=Z2l (by simpa[Za]using d) l a;exact⟨m,b,by simpa[Za]using s,q,p⟩
def Z3S(hw:0<w)(qD:w<=1000)(hh:h<=1000)(T:List Th)(D:List Dy){goal start:Nat}(hs:start<w*h)(hl:Bs.length<=1000)(h0:(Za w h goal Bs)[0]?=Α f0)(v:(f0 start).isSome=Δ):
 ∃u:List Nat,lV [.sh<|Z0 w h T D,.sh<|.int start,.sh<|.int goal,.bw<|(Za w h goal Bs).map (rV<|w*h)]=.ret (.ow<|u.map λ(m:Nat)=>PV.tup [.int (m%w:Nat),.int (m/w:Nat)])/\u.length<=1000/\∀m∈u,m<w*h:=by
 have yw:=DI w h T D;obtain⟨p,k⟩:∃P:List PV,(Za w h goal Bs).map (rV<|w*h)=P:=⟨_,rfl⟩;rw[k];have RT:∀b:List Nat×Nat,
  (ϐ<|Ê ϕ (Ê Þ (Â 4)<|ϥ ϳ<|Æ 1)<|Â 2) [.sh<|Z0 w h T D,.sh<|.int start,.sh<|.int goal,.bw p,.ow<|(b.1++[b.2]).map λ(m:Nat)=>PV.int m]=.ok (decide<|b.2≠goal) [.sh<|Z0 w h T D,.sh<|.int start,.sh<|.int goal,.bw p,.ow<|(b.1++[b.2]).map λ(m:Nat)=>PV.int m]:=by
  rintro ⟨d,l⟩;have e1:=Z4Y d l;have e2:decide (l≠goal)=decide ((l:Int)≠(goal:Int)):=by
   by_cases hq:l=goal
   ·simp[hq]
   ·simp[hq];lia
  dsimp only;generalize (d++[l]).map (λ(m:Nat)=>PV.int m)=LV at*;rw[e2];simp[e1]
 obtain⟨⟨d,l⟩,e1,⟨ED,f,r,YW⟩,-⟩:=Bh (mc:=ϐ<|Ê ϕ (Ê Þ (Â 4)<|ϥ ϳ<|Æ 1)<|Â 2) (mb:=nr 4<|Ñ<|ß bu<|Ì 0<|Ü (Ê Þ (Â 4)<|ϥ ϳ<|Æ 1)<|Ü (Ê Þ (Â 3)<|a_ bP<|É (Â 4) á) Ö) (λb:List Nat×Nat=>[.sh<|Z0 w h T D,.sh<|.int start,.sh<|.int goal,.bw p,.ow<|(b.1++[b.2]).map λ(m:Nat)=>PV.int m]) (λb=>(∀m∈b.1++[b.2],m<w*h)/\∃f,(Za w h goal Bs)[b.1.length]?=Α f/\(f b.2).isSome=Δ) (λb=>1001-b.1.length) (by
  rintro ⟨d,l⟩ hb;have e0:=RT ⟨d,l⟩;obtain⟨HH,f,r,YW⟩:=hb;dsimp only at HH r YW e0⊢;have ED:=HH l (by simp);by_cases hg:l=goal
  ·left
   rw[e0,hg];simp
  ·right
   refine⟨by rw[e0];simp[hg],?_⟩;obtain⟨m,o,t,q2,q3⟩:=Z2l r hg YW;have hlen:d.length+1<Bs.length:=by have:=(bz.mp t).1;rw[Ua]at this;exact this
   have hm:m<w*h:=Q2 (aM.mp<|XU q2).1;refine⟨(d++[l],m),?_,⟨λx hx=>(Ŵ.mp hx).elim (HH x) λhx=>by rw[eJ.mp hx];exact hm,o,by simpa using t,q3⟩,by simp;lia⟩;have eb:=Z2L hw qD hh T D ED (f:=o) (s2:=.sh<|.lst<|Zb (w*h) o)<|.inl rfl;rw[q2]at eb;have ei:=Z4Y d l;have ep:Þ (.lst p) (.int<|(d.length:Int)+1)=Α (.lst<|Zb (w*h) o):=by
    rw[<-k];have e7:((d.length:Int)+1)=((d.length+1:Nat):Int):=by lia
    rw[e7];have:((Za w h goal Bs).map (rV<|w*h))[d.length+1]?=Α (.lst<|Zb (w*h) o):=by rw[œ,t];rfl
    generalize d.length+1=q at*;simp[this]
   have RE:(((d++[l]).map λ(m:Nat)=>PV.int m).length:Int)=(d.length:Int)+1:=by simp
   have HD:((d++[l]).map λ(m:Nat)=>PV.int m).length<16777216:=by simp;lia
   have ea:(((d++[l])++[m]).map λ(m:Nat)=>PV.int m)=((d++[l]).map λ(m:Nat)=>PV.int m)++[PV.int m]:=by simp
   rw[ea];generalize (d++[l]).map (λ(m:Nat)=>PV.int m)=LV at*;simp[ei,RE,ep,eb,oN,HD]) (b:=([],start)) ⟨by simpa using hs,f0,h0,v⟩
 have bZ:d.length<Bs.length:=by have:=(bz.mp r).1;rw[Ua]at this;exact this
 refine⟨d++[l],?_,by simp;lia,ED⟩;have c1:=Đ (g:=gN 1) (mt:=Ę) (me:=Ñ<|ß eE<|Ì 1<|Ü (ϥ (ħ ["Yard"] "width")<|Â 0) Ö) (λ(m:Nat)=>PV.int m) (λ(m:Nat)=>PV.tup [.int (m%w:Nat),.int (m/w:Nat)]) (λc=>∃a,c=[.sh<|Z0 w h T D,a]) (d++[l]) [.sh<|Z0 w h T D,.no] [] ⟨_,rfl⟩ (by simp;lia) (by
  rintro m _ c ⟨a,rfl⟩;have es:=Z2K (n:=m) hw qD;simp[yw,es])
 have ew:wz [.sh<|Z0 w h T D,.sh<|.int start,.sh<|.int goal,.bw p,.ow [.int start]]=_:=e1;generalize (d++[l]).map (λ(m:Nat)=>PV.int m)=LV at*;simp[lV,wA,ý,iZ,dW,ew,c1]
theorem Ol(k:Nat->Int):∀(d:List Nat) (m:Nat),∀q∈m::d,k (Hb k m d)<=k q
 |[],m,q,b=>by
   have:=by simpa using b
   rw[this];exact oH _
 |a::c,m,q,b=>by
  rw[Hb];split
  ·rename_i e;rcases ù.mp b with rfl|b
   ·have:=Ol k c a a ŀ;lia
   ·exact Ol k c a q b
  ·rename_i e;rcases ù.mp b with rfl|b
   ·exact Ol k c q q ŀ
   ·rcases ù.mp b with rfl|b
    ·have:=Ol k c m m ŀ;lia
    ·exact Ol k c m q<|ð _ b
def Z3T(l:m∈yZ w h n)(i:f m=Α c):∃q c',ZP w h f n=Α q/\f q=Α c'/\c'<=c:=by
 have b:m∈Kx f (yZ w h n):=aM.mpr ⟨l,by rw[i];rfl⟩;unfold ZP;cases e:Kx f (yZ w h n)with
 |nil=>rw[e]at b;simp at b|cons a g=>
  rw[e]at b;have k:=Ol (λm=>(f m).getD 0) g a m b;have p:Hb (λm=>(f m).getD 0) a g∈Kx f (yZ w h n):=by rw[e];exact T9 _ g a
  obtain⟨_,o⟩:=aM.mp p;obtain⟨c',j⟩:=oU.mp o;refine⟨_,c',rfl,j,?_⟩;rw[j,i]at k;exact k
def Z5t(a:ZP w h f n=Α q):q∈yZ w h n/\∃c,f q=Α c:=by obtain⟨d,b⟩:=aM.mp<|XU a;exact⟨d,oU.mp b⟩
def Z6p(B n:Nat):0<=ZK B n/\ZK B n<=1:=by unfold ZK;have:=Int.emod_two_eq<|(B:Int)/2^n;lia
def Z2m(B:Nat)(f:Nat->Option Int):Zg w h g B f g=Α (ZK B g):=by unfold Zg ZZ;simp
def Z65(B:Nat)(e:m∈yZ w h n)(i:f m=Α c)(h0:0<=c):∃r,Zg w h g B f n=Α r/\r<=ZK B n+c:=by
 by_cases d:n=g
 ·subst d;exact⟨_,Z2m B f,by lia⟩
 ·obtain⟨q,l,k,j,h3⟩:=Z3T e i;refine⟨ZK B n+l,?_,by lia⟩;unfold Zg ZZ;rw[if_neg d,k];simp[j]
def Z3U{B:Nat}(a:Zg w h g B f n=Α r):(n=g/\r=ZK B n)\/(n≠g/\∃q c,q∈yZ w h n/\f q=Α c/\r=ZK B n+c):=by
 unfold Zg ZZ at a;by_cases i:n=g
 ·rw[if_pos i]at a;simp at a;exact .inl ⟨i,a.symm⟩
 ·rw[if_neg i]at a;cases j:ZP w h f n with
  |none=>rw[j]at a;simp at a|some q=>rw[j]at a;obtain⟨l,c,k⟩:=Z5t j;simp[k]at a;exact .inr ⟨i,q,c,l,k,a.symm⟩
theorem Om:∀(Bs:List Nat) {n:Nat}{c:Int},wB (Za w h g Bs) n=Α c->0<=c/\c<=Bs.length
 |[],n,c,a=>by simp[Za,wB]at a|B::Bs,n,c,a=>by
  have l:=Z6p B n;rcases Z3U (show Zg w h g B (wB<|Za w h g Bs) n=Α c from a)with⟨_,e⟩|⟨_,q,c',_,b,e⟩
  ·simp;lia
  ·have:=Om Bs b;simp;lia
def Z4E{B b:Nat}(j:P->ZK b n<=ZK B n)(o:∀m c,m<w*h->f m=Α c->∃c',k m=Α c'/\0<=c'/\(P->c'<=c))(l:Zg w h g B f n=Α r):∃a,Zg w h g b k n=Α a/\(P->a<=r):=by
 rcases Z3U l with⟨e,e2⟩|⟨_,q,c,i,x,e⟩
 ·subst e;exact⟨_,Z2m b k,λp=>by have:=j p;lia⟩
 ·obtain⟨c',v,u,t⟩:=o q c (Q2 i) x;obtain⟨a,s,h7⟩:=Z65 b i v u;exact⟨a,s,λp=>by have:=j p;have:=t p;lia⟩
theorem Z2n{d:Type}{F G:d->Nat}:∀(a:List d),(∀o∈a,P->∀n,n<w*h->ZK (G o) n<=ZK (F o) n)->∀{n:Nat}{c:Int},n<w*h->wB (Za w h g<|a.map F) n=Α c->∃c',wB (Za w h g<|a.map G) n=Α c'/\(P->c'<=c)
 |[],_,n,c,_,b=>by simp[Za,wB]at b|o::a,e,n,c,m,b=>by refine Z4E (λp=>e o (by simp) p n m) (λm c q h=>?_) b;obtain⟨c',f,r⟩:=Z2n a (λx l=>e x<|ð _ l) q h;exact⟨c',f,(Om _ f).1,r⟩
def Z4F{w h:Nat}{i:Nat}(hi:i<D.length):iS [.sh<|Z0 w h T D,.sh<|.int i]=.ret (.sh .non):=by
 have a:=JG w h T D;generalize Z0 w h T D=c at*;have b:eC [.sh c,.sh<|.int i]=.ret (.sh<|.bl Δ):=by simp[eC,ou,a];lia
 simp[iS,qu,b]
def Z1g(D:List Dy){x y:Nat}(c:x<w)(b:y<h):cD [.sh<|Z0 w h T D,.sh<|.tup [.int x,.int y]]=.ret (.sh .non):=by have:=Z1z (w:=w) (h:=h) (T:=T) D x y;rw[show KR w h (x,y)=Δ from decide_eq_true ⟨⟨by simp,by simpa using c⟩,by simp,by simpa using b⟩]at this;simp[cD,lU,this]
def Q6(w m:Nat):PV:=PV.tup [.int (m%w:Nat),.int (m/w:Nat)]
def Z3V{w h x y:Nat}(hx:x<w)(a:y<h):y*w+x<w*h:=by have:=B7 w (show y+1<=h from a);lia
def On(w:Nat)(P:PV)(a:List Nat):Option Int->PV
 |none=>.tup [.str "none",P]|some c=>.tup [.str "walk",.int c,.lst<|a.map<|Q6 w,P]
def Z4G(Y:Kw w h T)(p:x<w)(n:y<h)(G:u<w)(E:v<h){i:Nat}(H:i<D.length)(hd:1<=D[i].2.2.length/\D[i].2.2.length<=1000)(Q:∀o∈D[i].2.2,ER o):
 ∃P b,(∀m∈b,m<w*h)/\b.length<=1000/\dM [.sh<|Z0 w h T D,.sh<|.int i,.sh<|.tup [.int x,.int y],.sh<|.tup [.int u,.int v]]=.ret (.sh<|On w P b<|wB (Za w h (v*w+u)<|D[i].2.2.map (nS w h T))<|y*w+x):=by
 have L:=Z1g (T:=T) D p n;have K:=Z1g (T:=T) D G E;have c3:=Z4F (w:=w) (h:=h) (T:=T) H;have t:=DI w h T D;have g:∀{x y:Nat},x<w->y<h->ϻ [.sh<|.tup [.int x,.int y],.sh<|.int w]=.ret (.sh<|.int ((y*w+x:Nat):Int)):=fun{x y} p n=>by have:=Y.w1;have:=Y.h1;rw[Z2h _ _ w (Z3P (by lia) (by lia) (by lia)<|by lia),wN,ib]
 have B:=g p n;have A:=g G E;have C:=Z3V p n;generalize y*w+x=z,v*w+u=d at*;have s:=Z4D Y.w0 Y.w1 Y.h1 Y.wh Y.tl Y.tg d H Q hd.2;obtain⟨a,k⟩:∃a,D[i].2.2.map (nS w h T)=a:=⟨_,rfl⟩;have R:a.length=D[i].2.2.length:=by rw[<-k];simp
 rw[k]at s⊢;cases q:Za w h d a with
 |nil=>have:=Ua w h d a;rw[q]at this;simp at this;lia|cons e rest=>
  have l:=T7 (f:=e) C;have j:((Za w h d a).map (rV<|w*h))[0]?=Α (.lst<|Zb (w*h) e):=by rw[q];rfl
  show ∃P b,_/\_/\_=FR.ret (.sh<|On w P b<|e z);cases r:e z with
  |none=>refine⟨.lst<|(Za w h d a).map (rV<|w*h),[],by simp,by simp,?_⟩;rw[r]at l;simp[dM,jb,ý,L,K,c3,t,B,A,s,j,l,oV,tM,On]|some c=>obtain⟨b,J,O,N⟩:=Z3S Y.w0 (by have:=Y.w1;lia) Y.h1 T D (goal:=d) C (Bs:=a) (by lia) (f0:=e) (by rw[q];rfl) (by rw[r];rfl);refine⟨.lst<|(Za w h d a).map (rV<|w*h),b,N,O,?_⟩;rw[r]at l;change lV _=.ret (.ow<|b.map<|Q6 w)at J;unfold On;simp[dM,jb,ý,L,K,c3,t,B,A,s,j,l,oV,tM,J]
def wD:Option Int->List Nat
 |none=>wC "none"|some c=>nT c
def Ez(w m:Nat):List Nat:=ĉ [44] [nT ((m%w:Nat):Int),nT ((m/w:Nat):Int)]
def c44:È ","=S [44]:=by decide+kernel
def Z4Z(hw:0<w)(hm:m<w*h)(As:w*h<=1000):Nb ((m%w:Nat):Int)/\Nb ((m/w:Nat):Int):=by have:=Nat.mod_le m w;have:=Nat.div_le_self m w;exact⟨Zs (by lia),Zs<|by lia⟩
def Z5u{w h m:Nat}(hw:0<w)(hm:m<w*h)(As:w*h<=1000):fi [.sh<|Q6 w m]=.ret (.sh<|sV<|Ez w m):=by obtain⟨n1,n2⟩:=Z4Z hw hm As;have c:=XD (jC n1<|jC n2 Ey) (by simp);have j:=ZW c44 (jC (Zk n1).1 (jC (Zk n2).1 Ey)) (by simp);simp only[â,ſ]at c j;unfold Q6 Ez;generalize ((m%w:Nat):Int)=a,((m/w:Nat):Int)=b at*;change ax _ [.lst [ź a,ź b]]=_ at j;simp[fi,qw,c,j]
def Z6q{w h m:Nat}(hw:0<w)(hm:m<w*h)(As:w*h<=1000):(Ez w m).length<=23/\32∉Ez w m:=by
 obtain⟨n1,n2⟩:=Z4Z hw hm As;have a:=Zk n1;have b:=Zk n2;unfold Ez;generalize nT ((m%w:Nat):Int)=A,nT ((m/w:Nat):Int)=B at*;show(A++[44]++B).length<=23/\32∉A++[44]++B;have h1:=a.1;have h2:=b.1;refine⟨by simp;lia,λz=>?_⟩;simp at z;rcases z with z|z
 ·have:=a.2 32 z;lia
 ·have:=b.2 32 z;lia
def Z4H{w h:Nat}{T:List Th}(Y:Kw w h T){D:List Dy}{x y u v:Nat}(hx:x<w)(hy:y<h)(hu:u<w)(hv:v<h){i:Nat}(hi:i<D.length)(hd:1<=D[i].2.2.length/\D[i].2.2.length<=1000)(ho:∀o∈D[i].2.2,ER o):
 ∃(X:List Nat) (R:List PV),aH [.sh<|Z0 w h T D,.sh<|.lst [.int i,.int x,.int y,.int u,.int v]]=.ret (.sh<|sV X)/\ϖ (sV X) [.str " "]=Α (.ow (sV (wD<|wB (Za w h (v*w+u)<|D[i].2.2.map (nS w h T))<|y*w+x)::R)):=by
 obtain⟨P,ms,h1,h2,e⟩:=Z4G Y hx hy hu hv hi hd ho;have q1:=ŗ (show ė (È "none")=Δ by decide+kernel) (show ė (È "none")=Δ by decide+kernel);have q2:=ŗ (show ė (È "walk")=Δ by decide+kernel) (show ė (È "none")=Δ by decide+kernel);rw[show decide (È "walk"=È "none")=Ε by decide+kernel]at q2;rw[decide_eq_true rfl]at q1;cases hc:wB (Za w h (v*w+u)<|D[i].2.2.map (nS w h T)) (y*w+x)with
 |none=>rw[hc]at e;refine⟨wC "none",[],?_,QZ (ws:=[wC "none"]) (jC NC Ey) (by simp)<|by simp⟩;rw[<-ZU];unfold On at e;generalize Z0 w h T D=Yv at*;simp[aH,gQ,ý,e,q1]|some c=>
  rw[hc]at e;obtain⟨b1,b2⟩:=Om _ hc;rw[ģ]at b2;have nb:Nb c:=⟨by lia,by lia⟩;have c1:=Đ (g:=gN 0) (mt:=Ę) (me:=Ñ<|ß fi<|Ì 0 Ö) (Q6 w) (λm=>sV<|Ez w m) (λa=>∃s,a=[s]) ms [.no] [] ⟨_,rfl⟩ (by simp;lia) (by
   rintro m hm a ⟨s,rfl⟩;have e:=Z5u Y.w0 (h1 m hm) Y.wh;simp[e])
  have ws:∀y∈nT c::ms.map (Ez w),y.length<=23/\32∉y:=jC ⟨by have:=(Zk nb).1;lia,λz=>by have:=(Zk nb).2 32 z;lia⟩ λy hy=>by obtain⟨m,hm,rfl⟩:=Ĉ.mp hy;exact Z6q Y.w0 (h1 m hm) Y.wh
  have jl:=ZJ (c:=32) _ 23 λy hy=>(ws y hy).1;have j:=ZW NB (ys:=nT c::ms.map (Ez w)) (B:=23) (λy hy=>(ws y hy).1) (by simp;lia);refine⟨ĉ [32] (nT c::ms.map (Ez w)),(ms.map<|Ez w).map sV,?_,TN NB (by simp at jl⊢;lia) (by simp) λy hy=>(ws y hy).2⟩;have s2:=Zh nb;rw[â,Ĺ]at j;change ĝ _ _ _ _ _ _=Α (ms.map<|sV ∘ Ez w)at c1;have ad:é (.lst [ź c]) (.lst<|ms.map<|sV ∘ Ez w)=Α (.ow (ź c::ms.map (sV ∘ Ez w))):=l_ (by simp;lia);unfold On at e;change ax _ [.lst (ź c::_)]=_ at j;simp[aH,gQ,ý,e,q2,s2,c1,ad,j,-Aj]
def XV(nm:List Nat)(x y u v:Nat):List Nat:=Z2 [wC "walk",nm,nT (x:Int),nT (y:Int),nT (u:Int),nT (v:Int)]
def Z4I(X:Ds w h T D)(l:x<w)(k:y<h)(n:u<w)(m:v<h)(d:i<D.length):
 ∃(Z:List Nat) (R:List PV),ĭ [Zj<|Z4 w h T D,.sh<|sV<|XV D[i].1 x y u v]=.ret (.sh<|sV Z)/\ϖ (sV Z) [.str " "]=Α (.ow (sV (wD<|wB (Za w h (v*w+u)<|D[i].2.2.map (nS w h T))<|y*w+x)::R)):=by
 refine BL λY=>?_;obtain⟨⟨_,_,_,h5,_,p⟩,h4⟩:=X.d _<|ŵ d;refine Y ?_;have q:i<(D.map zV).length:=by simpa using d
 have e:(D.map zV)[i].2.2=D[i].2.2:=by rw[wW];rfl
 obtain⟨Z,R,a,s⟩:=Z4H X.y l k n m q (by lia) (λo g=>XO<|p o (by rw[e]at g;exact g));rw[e]at s;refine⟨Z,R,?_,s⟩;have w1:=X.y.w1;have h1:=X.y.h1;have b:=Z60 (wd:="walk") (f:="answer_walk") (by kernel_rfl) (by kernel_rfl) (X.dc d) (jC (Zs<|by lia)<|jC (Zs<|by lia)<|jC (Zs<|by lia)<|jC (Zs<|by lia) Ey) (by simp) rfl a;exact XN (by decide+kernel) (by decide+kernel) (by decide+kernel) (jC NC<|jC (X.nm d)<|jC (ZN<|by lia)<|jC (ZN<|by lia)<|jC (ZN<|by lia)<|jC (ZN<|by lia) Ey) (by simp) b
def Ub{i c:Nat}(h:l[i]?=Α c)(hl:l.length<=100000):Þ (sV l) (.int i)=Α (sV [c]):=by
 have f:(S l).length<=16777216:=by rw[Zf];lia
 have e:(S l).cps.toList=l:=rfl;have d:mY l i=Α c:=by rw[zS];exact h
 show(if(S l).length<=16777216then(mY (S l).cps.toList i).map λc=>PV.str ⟨#[c]⟩else Β)=_;rw[if_pos f,e,d];rfl
def Z4J(nm:List Nat)(j:Nat):XQ nm j=wC "dark "++nm++[32]++nT (j:Int):=by
 have:wC "dark "=wC "dark"++[32]:=by decide+kernel
 rw[this];show wC "dark"++[32]++(nm++[32]++nT j)=_;simp
def Z5v(e:w<=60)(hh:h<=1000)(p:Nat->Bool):(ĉ [47] (zk w h p)).length<=61000:=by
 have:=ZJ (c:=47) (zk w h p) 60 (λy d=>by obtain⟨q,_,rfl⟩:=Ĉ.mp d;rw[T_];exact e);have l:(zk w h p).length=h:=by unfold zk;simp
 lia
def NF(e:a.length<=10000)(d:b.length<=10000):é (sV a) (sV b)=Α (.sh<|sV<|a++b):=by
 have l2:(S a).length<=10000:=by exact e
 have l3:(S b).length<=10000:=by exact d
 unfold sV é;simp only;rw[if_pos<|by lia];congr 3;exact iA (by simp[sY])
def Z1B{α β:Type}(F:α->β)(d:α)(qs:List α):qs.map F=(ú qs.length).map λk=>F (qs.getD k d):=by
 refine List.ext_getElem (by simp) λi h1 h2=>?_;have hi:=by simpa using h1
 simp[hi]
def Q7:(È "yard"=È "say")=False:=eq_false (by decide+kernel)
def Oo:(È "say"=È "yard")=False:=eq_false (by decide+kernel)
structure En(w h x y u v:Nat)(D:List Dz):Prop where
 w1:1<=w/\w<=3
 h1:1<=h/\h<=3
 x:x<w
 y:y<h
 u:u<w
 v:v<h
 l:D.length<=3
 d:∀d∈D,Zq d/\d.2.2.length<=4
 n:(D.map (·.1)).Nodup
structure Tg(T:List Th):Prop where
 l:T.length<=10
 g:∀t∈T,Z1 t.1 t.2=Δ
def HA(w h:Nat)(T:List Th)(o:Option P3):List Nat:=ĉ [47] (zk w h (nS w h T o).testBit)
def Z3(w h:Nat)(T:List Th)(d:Dz):List Nat:=ĉ [47] (d.2.2.map<|HA w h T)
def Zn(w h g s:Nat)(T:List Th)(d:Dz):Option Int:=wB (Za w h g<|d.2.2.map<|nS w h T) s
section
variable{w h x y u v:Nat}{D:List Dz}(X:En w h x y u v D){T:List Th}(Y:Tg T)
include X Y
def En.ok:Kw w h T:=⟨by have:=X.w1;lia,by have:=X.w1;lia,by have:=X.h1;lia,by have:=fN X.w1.2 X.h1.2;lia,by have:=Y.l;lia,Y.g⟩
def En.ds:Ds w h T D:=⟨X.ok Y,X.l,X.d,X.n⟩
def Z3d(hd:d∈D):ĝ (gN 2) Ę (Ñ<|eA "say" [("Desk",ĭ)] 0 (Ü (Ñ<|ô é (Ñ<|ô é (Ñ<|ô é (mC<|.str "dark ")<|Â 1)<|mC<|.str " ")<|a_ ba<|É (Â 2) á) Ö)) ((ú d.2.2.length).map λ(i:Nat)=>PV.int (i:Int)) [Zj<|Z4 w h T D,.sh<|sV d.1,.no] []=Α (d.2.2.map λo=>sV<|HA w h T o):=by
 obtain⟨i,p,rfl⟩:=jL.mp hd;have dl:=(X.d _ hd).2;have q:=Đ (g:=gN 2) (me:=Ñ<|eA "say" [("Desk",ĭ)] 0 (Ü (Ñ<|ô é (Ñ<|ô é (Ñ<|ô é (mC<|.str "dark ")<|Â 1)<|mC<|.str " ")<|a_ ba<|É (Â 2) á) Ö)) (λ(i:Nat)=>PV.int (i:Int)) (λj=>sV<|HA w h T<|D[i].2.2.getD j Β) (λc=>∃a,c=[Zj<|Z4 w h T D,.sh<|sV D[i].1,a]) (ú D[i].2.2.length) [Zj<|Z4 w h T D,.sh<|sV D[i].1,.no] [] ⟨_,rfl⟩ (by simp;lia) (by
  rintro j k c ⟨a,rfl⟩;have k:=aN.mp k;have G:=Z4x (X.ds Y) p k;have gd:D[i].2.2.getD j Β=D[i].2.2[j]:=by simp[k]
  rw[gd];have m:=Zs (show j<=100000 by lia);have nl:=(QS m.1 m.2).2;have ml:=((X.ds Y).nm p).1;have E:=Zh m;have d5:(wC "dark ").length=5:=by decide+kernel
  have s:=NF (a:=wC "dark ") (b:=D[i].1) (by lia) (by lia);have r:=NF (a:=wC "dark "++D[i].1) (b:=[32]) (by simp;lia) (by simp);have n:=NF (a:=wC "dark "++D[i].1++[32]) (b:=nT (j:Int)) (by simp;lia) (by lia);rw[<-Z4J]at n;rw[show sV [32]=.str " "from congrArg PV.str NB.symm]at r;rw[<-ZU]at s;unfold HA;change é _ (ź (j:Int))=_ at n;generalize sV (ĉ [47] (zk w h (nS w h T D[i].2.2[j]).testBit))=J,Z4 w h T D=t,sV (XQ D[i].1 j)=RD,ź (j:Int)=JV,sV (wC "dark "++D[i].1++[32])=V1,sV (wC "dark "++D[i].1)=V2,sV D[i].1=z at*;exact⟨[Zj t,.sh z,.sh<|.int j],_,[Zj t,.sh z,.sh<|.int j],rfl,rfl,by unfold eA;simp[ϲ,E,s,r,n,Oo,G],_,rfl⟩)
 rw[ϊ,<-Z1B (λo=>sV<|HA w h T o)]at q;exact q
theorem Z1h{sd s2 s3:ŏ}:∀(E:List Dz) (R:List PV) (a b c:ŏ),(∀d∈E,d∈D)->R.length+E.length<=1000->∃i g c',Ŭ (gT 3<|ë (gN 8)<|ë (gN 9)<|ë (gN 10) Ş) eX ((E.map zV).map Ϸ) [Zj<|Z4 w h T D,sd,s2,s3,.ow R,.no,.no,.no,a,b,c]=.ok .nx [Zj<|Z4 w h T D,sd,s2,s3,.ow<|R++E.map λd=>sV<|Z3 w h T d,.no,.no,.no,i,g,c']
 |[],R,a,b,c,_,_=>⟨a,b,c,by simp[Ŭ]⟩|d::E,R,a,b,c,k,C=>by
  have hd:=k d (by simp);have dl:=(X.d _ hd).2;rw[Ė]at C;obtain⟨i,g,c',e⟩:=Z1h E (R++[sV<|Z3 w h T d]) (.sh<|sV d.1) (.sh<|.int d.2.1) (.sh<|.lst<|d.2.2.map aq) (λz A=>k z<|ð _ A) (by simp;lia);refine⟨i,g,c',?_⟩;have H:=Z3d X Y hd;have r:=ZI (n:=d.2.2.length) (by lia)
  have s:∀o,(HA w h T o).length<=61000:=λo=>Z5v (by have:=X.w1;lia) (by have:=X.h1;lia) _;have j:=ZW c47 (ys:=d.2.2.map<|HA w h T) (λq B=>by obtain⟨o,_,rfl⟩:=Ĉ.mp B;exact s o) (by simp;lia);rw[Ĺ]at j;change ax _ [.lst<|d.2.2.map λo=>sV<|HA w h T o]=Α (sV<|Z3 w h T d)at j;have t:R.length<16777216:=by lia
  have G:gT 3 (ë (gN 8)<|ë (gN 9)<|ë (gN 10) Ş) (Ϸ<|zV d) [Zj<|Z4 w h T D,sd,s2,s3,.ow R,.no,.no,.no,a,b,c]=Α [Zj<|Z4 w h T D,sd,s2,s3,.ow R,.no,.no,.no,.sh<|sV d.1,.sh<|.int d.2.1,.sh<|.lst<|d.2.2.map aq]:=rfl;rw[â,â,Ŭ,G];have q:eX [Zj<|Z4 w h T D,sd,s2,s3,.ow R,.no,.no,.no,.sh<|sV d.1,.sh<|.int d.2.1,.sh<|.lst<|d.2.2.map aq]=.ok .nx [Zj<|Z4 w h T D,sd,s2,s3,.ow<|R++[sV<|Z3 w h T d],.no,.no,.no,.sh<|sV d.1,.sh<|.int d.2.1,.sh<|.lst<|d.2.2.map aq]:=by unfold eX;simp[dW,r,H,j,t]
  dsimp only;rw[q];refine cE e ?_;simp
def Zd(x y u v:Nat):List Nat:=Z2 [nT (x:Int),nT (y:Int),nT (u:Int),nT (v:Int)]
omit X Y in
def Z4K(nm:List Nat):XV nm x y u v=wC "walk "++nm++[32]++Zd x y u v:=by
 have:wC "walk "=wC "walk"++[32]:=by decide+kernel
 rw[this];show wC "walk"++[32]++(nm++[32]++Zd x y u v)=_;simp
def Z3e:ĝ (gT 3<|ë (gN 2)<|ë (gN 3)<|ë (gN 4) Ş) Ę (Ê Þ (Ñ<|uD ϖ (Ñ<|eA "say" [("Desk",ĭ)] 0 (Ü (Ñ<|ô é (Ñ<|ô é (Ñ<|ô é (mC<|.str "walk ")<|Â 2)<|mC<|.str " ")<|Â 1) Ö))<|É (mC<|.str " ") á)<|Æ 0) ((D.map zV).map Ϸ) [Zj<|Z4 w h T D,.sh<|sV<|Zd x y u v,.no,.no,.no] []=Α (D.map λd=>sV<|wD<|Zn w h (v*w+u) (y*w+x) T d):=by
 have B:=Đ (g:=gT 3<|ë (gN 2)<|ë (gN 3)<|ë (gN 4) Ş) (mt:=Ę) (me:=Ê Þ (Ñ<|uD ϖ (Ñ<|eA "say" [("Desk",ĭ)] 0 (Ü (Ñ<|ô é (Ñ<|ô é (Ñ<|ô é (mC<|.str "walk ")<|Â 2)<|mC<|.str " ")<|Â 1) Ö))<|É (mC<|.str " ") á)<|Æ 0) (λd=>Ϸ<|zV d) (λd=>sV<|wD<|Zn w h (v*w+u) (y*w+x) T d) (λe=>∃a b c,e=[Zj<|Z4 w h T D,.sh<|sV<|Zd x y u v,a,b,c]) D [Zj<|Z4 w h T D,.sh<|sV<|Zd x y u v,.no,.no,.no] [] ⟨_,_,_,rfl⟩ (by have:=X.l;simp;lia) (by
  rintro d hd e ⟨a,b,c,rfl⟩;obtain⟨i,n,rfl⟩:=jL.mp hd;obtain⟨Z,R,l,m⟩:=Z4I (X.ds Y) X.x X.y X.u X.v n;have ml:=((X.ds Y).nm n).1;have w1:=X.w1;have h1:=X.h1;have xx:=X.x;have yy:=X.y;have uu:=X.u;have vv:=X.v;have el:(Zd x y u v).length<=1212:=QX (jC (ZN<|by lia)<|jC (ZN<|by lia)<|jC (ZN<|by lia)<|jC (ZN<|by lia) Ey) (by simp);have d5:(wC "walk ").length=5:=by decide+kernel
  have q:=NF (a:=wC "walk ") (b:=D[i].1) (by lia) (by lia);have p:=NF (a:=wC "walk "++D[i].1) (b:=[32]) (by simp;lia) (by simp);have o:=NF (a:=wC "walk "++D[i].1++[32]) (b:=Zd x y u v) (by simp;lia) (by lia);rw[<-Z4K]at o;rw[show sV [32]=.str " "from congrArg PV.str NB.symm]at p;rw[<-ZU]at q;change ĭ _=.ret (.sh<|.str<|S Z)at l;change ϖ (.str<|S Z) _=Α (.ow (sV (wD<|Zn w h (v*w+u) (y*w+x) T D[i])::R))at m;have A:Ϸ (zV D[i])=.tup [sV D[i].1,.int D[i].2.1,.lst<|D[i].2.2.map aq]:=rfl;rw[A];generalize sV (wD<|Zn w h (v*w+u) (y*w+x) T D[i])=J,Z4 w h T D=r,sV (XV D[i].1 x y u v)=RD,sV (Zd x y u v)=t,sV (wC "walk "++D[i].1++[32])=V1,sV (wC "walk "++D[i].1)=V2,sV D[i].1=s,D[i].2.2.map aq=TT,S Z=SZ at*;exact⟨[Zj r,.sh t,.sh s,.sh<|.int D[i].2.1,.sh<|.lst TT],_,[Zj r,.sh t,.sh s,.sh<|.int D[i].2.1,.sh<|.lst TT],by simp,rfl,by simp[eA,ϲ,q,p,o,Oo,Q7,l,m],_,_,_,rfl⟩)
 rw[Ĺ];exact B
def EH(w h:Nat)(T:List Th)(D:List Dz):Nat->Int:=BI w T (D.map zV) λx=>0
def Z5(w h x y u v:Nat)(D:List Dz)(T:List Th):PV:=.tup [.lst<|D.map λd=>sV<|Z3 w h T d,.lst<|zh (w*h)<|EH w h T D,.lst<|D.map λd=>sV<|wD<|Zn w h (v*w+u) (y*w+x) T d]
def ZL{sd s2:ŏ}(hs:Sl sd ((D.map zV).map Ϸ)):ũ [Zj<|Z4 w h T D,sd,s2,.sh<|sV<|Zd x y u v]=.ret (.sh<|Z5 w h x y u v D T):=by have dl:=X.l;have tl:=Y.l;have w1:=X.w1;have h1:=X.h1;have dz:∀d∈D,Zq d:=λd hd=>(X.d d hd).1;obtain⟨a',b',c',lp⟩:=Z1h X Y (sd:=sd) (s2:=s2) (s3:=.sh<|sV<|Zd x y u v) D [] .no .no .no (λa h=>h) (by simp;lia);rw[ϊ]at lp;have sh:=Z4A (w:=w) (h:=h) (by lia) (by lia) Y.g (by lia) dz (by lia);have sb:=Z3N (w:=w) (h:=h) (by lia) (by lia) Y.g (by lia) dz (by lia);have tj:=XG (w:=w) (h:=h) (by lia) (by lia) Y.g (by lia) dz (by lia);have rd:=XA (w:=w) (h:=h) (by lia) (by lia) Y.g (by lia) dz (by lia) X.n;have ho:=Z4k (X.ok Y) (lg:=4) (D:=D.map zV) (λd hd=>by obtain⟨z,hz,rfl⟩:=Ĉ.mp hd;obtain⟨⟨_,g2,g3,_,_,g6⟩,g7⟩:=X.d z hz;exact⟨⟨g2,g3⟩,g7,λo ho=>XO<|g6 o ho⟩);change qr _=.ret (.ow<|zh (w*h)<|EH w h T D)at ho;have cc:=Z3e X Y;unfold Z5;change ĭ _=.ret (.sh<|.str<|S<|ĉ [59,32] (qA w h T D))at sh;change ϖ (.str<|S<|ĉ [59,32] (qA w h T D)) _=_ at sb;generalize S (ĉ [59,32] (qA w h T D))=SH,(qA w h T D).map sV=LN,sV (yY w h T D)=TX,Z4 w h T D=Yv,zh (w*h) (EH w h T D)=HR,(D.map λd=>sV<|wD<|Zn w h (v*w+u) (y*w+x) T d)=CS,(D.map λd=>sV<|Z3 w h T d)=PS,sV (Zd x y u v)=EN,(D.map zV).map Ϸ=DV at*;rcases hs with rfl|rfl<;>simp[ũ,nQ,ý,iZ,dW,lp,eA,ϲ,Oo,Q7,sh,sb,tj,rd,ho,cc]
end
def mg(a b:Nat):Nat:=if a=35\/b=35then 35 else a
theorem zj{a:Type}{F G H:a->List Nat}(h:∀x,H x=wY mg (F x) (G x)/\(F x).length=(G x).length):∀xs:List a,ĉ [47] (xs.map H)=wY mg (ĉ [47] (xs.map F)) (ĉ [47] (xs.map G))/\(ĉ [47] (xs.map F)).length=(ĉ [47] (xs.map G)).length
 |[]=>⟨rfl,rfl⟩|[x]=>h x|x::y::r=>by obtain⟨f,d⟩:=zj h (y::r);obtain⟨g,b⟩:=h x;have e:∀K:a->List Nat,ĉ [47] ((x::y::r).map K)=K x++[47]++ĉ [47] ((y::r).map K):=λz=>rfl;rw[e,e,e,f,g,B1 (by simp[b]),B1 b];exact⟨rfl,by rw[ŭ,ŭ,d,ŭ,ŭ,b]⟩
def Q8(w h:Nat)(T:List Th)(o:Option P3)(k:Nat):(nS w h T o).testBit k=(decide (k<w*h)&&nR w T o k):=ZA _ _ _
def Z3W(hd:∀o k,nR w C o k=(nR w A o k||nR w B o k))(d:Dz):Z3 w h C d=wY mg (Z3 w h A d) (Z3 w h B d)/\(Z3 w h A d).length=(Z3 w h B d).length:=by refine zj (λo=>zj (λq=>?_)<|ú h) d.2.2;unfold JH;refine⟨?_,by simp⟩;rw[List.zipWith_map,List.zipWith_self];refine su λx y=>?_;rw[Q8,Q8,Q8,hd];cases nR w A o (q*w+x)<;>cases nR w B o (q*w+x)<;>cases decide (q*w+x<w*h)<;>rfl
def Pc(c:Nat):Prop:=c=35\/c=46\/c=47
def Z6r(d:Pc a)(c:Pc b):AB (.str "#") (.lst [sV [a],sV [b]])=Α (.bl<|decide<|a=35\/b=35):=by rcases d with rfl|rfl|rfl<;>rcases c with rfl|rfl|rfl<;>kernel_rfl
def Z50(b:Pc a):ķ (sV [a]) (.str "#")=Α (.bl<|decide<|a=35)/\ϕ (sV [a]) (.str "#")=Α (.bl<|!decide (a=35)):=by rcases b with rfl|rfl|rfl<;>exact⟨by kernel_rfl,by kernel_rfl⟩
def ZX(T:List Th)(d:Dz):∀c∈Z3 w h T d,Pc c:=λc a=>by
 rcases TM _ a with rfl|⟨y,b,a⟩
 ·exact .inr<|.inr rfl
 obtain⟨o,_,rfl⟩:=Ĉ.mp b;rcases TM _ a with rfl|⟨y,b,a⟩
 ·exact .inr<|.inr rfl
 obtain⟨q,_,rfl⟩:=Ĉ.mp b;obtain⟨x,_,rfl⟩:=Ĉ.mp a;unfold sg;split
 ·exact .inl rfl
 ·exact .inr<|.inl rfl
def XW(X:En w h x y u v D)(T:List Th)(hd:d∈D):(Z3 w h T d).length<=500:=by
 have w1:=X.w1;have:=ZJ (c:=47) (d.2.2.map<|HA w h T) 100 λz b=>by
  obtain⟨o,_,rfl⟩:=Ĉ.mp b;have:=ZJ (c:=47) (zk w h (nS w h T o).testBit) 3 λz b=>by obtain⟨q,_,rfl⟩:=Ĉ.mp b;rw[T_];lia
  have l:(zk w h (nS w h T o).testBit).length=h:=by unfold zk;simp
  have:=X.h1;unfold HA;lia
 have:=(X.d d hd).2;unfold Z3;rw[ģ]at*;lia
theorem Z2N{b:Type}(f g:b->PV):∀xs:List b,ux (xs.map f) (xs.map g)=xs.map λx=>.tup [f x,g x]
 |[]=>rfl|x::xs=>congrArg _<|Z2N f g xs
def XX(h:l.length<=1000):bP [sV l]=Α (.int l.length):=by show(if(S l).length<=16777216then Α (PV.int (S l).length)else Β)=_;rw[Zf,if_pos<|by lia]
section
variable{w h x y u v:Nat}{D:List Dz}(X:En w h x y u v D){A B C:List Th}
include X
def Z3X(hd:∀o k,nR w C o k=(nR w A o k||nR w B o k))(hi:i<D.length)(s4 s5 s6:ŏ):∃a b c,kK [.sh<|Z5 w h x y u v D A,.sh<|Z5 w h x y u v D B,.sh<|Z5 w h x y u v D C,.sh<|.int i,s4,s5,s6]=.ok .nx [.sh<|Z5 w h x y u v D A,.sh<|Z5 w h x y u v D B,.sh<|Z5 w h x y u v D C,.sh<|.int i,a,b,c]:=by
 have hm:=ŵ hi;have ix:∀T,(D.map λd=>sV<|Z3 w h T d)[i]?=Α (sV<|Z3 w h T D[i]):=λT=>by simp[hi]
 have i1:=ix A;have i2:=ix B;have i3:=ix C;obtain⟨m1,m2⟩:=Z3W (h:=h) hd D[i];have l1:=XW X A hm;have l3:=XW X C hm;have p1:=ZX (w:=w) (h:=h) A D[i];have p2:=ZX (w:=w) (h:=h) B D[i];have ok:Ų (sV<|Z3 w h C D[i])=Δ:=by exact DJ.ok λc hc=>by rcases ZX C D[i] c hc with rfl|rfl|rfl<;>lia
 have ne:=Ej ok (by unfold sV oz;lia);have j:=Z2d (xs:=Z3 w h C D[i]) (by lia);have ll:=XX (l:=Z3 w h A D[i]) (by lia);have rr:=ZI (n:=(Z3 w h A D[i]).length) (by lia);have cc:=Đ (g:=gN 2) (mt:=Ę) (me:=au (ϐ<|Ê AB (mC<|.str "#")<|Ñ<|ϧ<|É (Ê Þ (Â 0)<|Â 2)<|É (Ê Þ (Â 1)<|Â 2) á) (mC<|.str "#")<|Ê Þ (Â 0)<|Â 2) (λ(i:Nat)=>PV.int (i:Int)) (λk=>sV [(Z3 w h C D[i]).getD k 0]) (λe=>∃a,e=[.sh<|sV<|Z3 w h A D[i],.sh<|sV<|Z3 w h B D[i],a]) (ú (Z3 w h A D[i]).length) [.sh<|sV<|Z3 w h A D[i],.sh<|sV<|Z3 w h B D[i],.no] [] ⟨_,rfl⟩ (by simp;lia) (by
  rintro k hk e ⟨a,rfl⟩;have k1:=aN.mp hk;have k2:k<(Z3 w h B D[i]).length:=by lia
  have e1:=Ub (Ĩ k1) (by lia);have e2:=Ub (Ĩ k2) (by lia);have e3:=Z6r (p1 _<|ŵ k1)<|p2 _<|ŵ k2;have e4:(Z3 w h C D[i]).getD k 0=mg (Z3 w h A D[i])[k] (Z3 w h B D[i])[k]:=by rw[m1,cF,B2,Ĩ k1,Ĩ k2];rfl
  rw[e4];generalize (Z3 w h A D[i])[k]=a1,(Z3 w h B D[i])[k]=b1,sV (Z3 w h A D[i])=PA,sV (Z3 w h B D[i])=PB at*;unfold mg;by_cases hq:a1=35\/b1=35
  ·rw[decide_eq_true hq]at e3;rw[if_pos hq,<-Z5X];simp[e1,e2,e3]
  ·rw[decide_eq_false hq]at e3;rw[if_neg hq];simp[e1,e2,e3])
 rw[ϊ,show(Z3 w h A D[i]).length=(Z3 w h C D[i]).length by rw[m1,B3,m2];lia,<-Z1B (λc=>sV [c])]at cc;rw[show(Z3 w h A D[i]).length=(Z3 w h C D[i]).length by rw[m1,B3,m2];lia]at rr ll;unfold Z5;exact⟨_,_,_,by unfold kK;simp[i1,i2,i3,ll,rr,cc,iZ,dW,j,ne];exact⟨rfl,rfl,rfl⟩⟩
def Z5w(hd:∀o k,nR w C o k=(nR w A o k||nR w B o k)):iW [.sh<|Z5 w h x y u v D A,.sh<|Z5 w h x y u v D B,.sh<|Z5 w h x y u v D C]=.ret (.sh<|.bl Δ):=by
 have dl:=X.l;obtain⟨j,e,-⟩:=bR (g:=gN 3) (λ(i:Nat)=>PV.int i) (λz z=>()) (λz f=>∃s3 s4 s5 l,f=[.sh<|Z5 w h x y u v D A,.sh<|Z5 w h x y u v D B,.sh<|Z5 w h x y u v D C,s3,s4,s5,l]) (ú D.length) (by
  rintro i t _ f ⟨s3,s4,s5,l,rfl⟩;obtain⟨a,b,c,e⟩:=Z3X X hd (aN.mp t) s4 s5 l;exact⟨_,_,rfl,e,_,_,_,_,rfl⟩) () [.sh<|Z5 w h x y u v D A,.sh<|Z5 w h x y u v D B,.sh<|Z5 w h x y u v D C,.no,.no,.no,.no] ⟨_,_,_,_,rfl⟩
 have r:=ZI (n:=D.length) (by lia);have s:Þ (Z5 w h x y u v D C) (.int 0)=Α (.lst<|D.map λd=>sV<|Z3 w h C d):=rfl;simp[iW,qz,s,r,e]
end
def Mr(w:Nat)(A C:List Th):Prop:=∀o k,nR w A o k=Δ->nR w C o k=Δ
def Z4M(M:Mr w A C)(ht:0<=t)(o:Option P3)(h:G k<=H k):fJ w C t o G k<=fJ w A t o H k:=by have:=M o k;unfold fJ;cases b:nR w A o k<;>cases a:nR w C o k<;>simp[]at this⊢ <;>lia
theorem Z1C(M:Mr w A C)(c:0<=t)(k:Nat):∀(a:List (Option P3)) (H G:Nat->Int),G k<=H k->a.foldl (λH o=>fJ w C t o H) G k<=a.foldl (λH o=>fJ w A t o H) H k
 |[],_,_,h=>h|o::a,_,_,h=>Z1C M c k a _ _<|Z4M M c o h
theorem Z1D(M:Mr w A C)(k:Nat):∀(D:List Dy) (H G:Nat->Int),(∀d∈D,0<=d.2.1)->G k<=H k->BI w C D G k<=BI w A D H k
 |[],_,_,_,h=>h|d::D,_,_,a,h=>Z1D M k D _ _ (λx c=>a x<|ð _ c) (Z1C M (a d<|by simp) k d.2.2 _ _ h)
def Z1E(A C:List Th)(d:Dz)(b:s<w*h)(e:Zn w h g s A d=Α c):∃c',Zn w h g s C d=Α c'/\(Mr w A C->c'<=c):=
 Z2n d.2.2 (λo x M n x=>by have:=M o n;unfold ZK;rw[Xl,Xl,Q8,Q8];cases i:nR w A o n<;>cases f:nR w C o n<;>cases hk:decide (n<w*h)<;>simp[i,f]at this⊢) b e
def Z2O(h:Nb c):ķ (sV<|nT c) (.str "none")=Α (.bl Ε)/\ϕ (sV<|nT c) (.str "none")=Α (.bl Δ):=by
 have p:DJ (nT c):=λx l=>by have:=(Zk h).2 x l;lia
 have n:¬S (nT c)=È "none":=λe=>by
  have o:nT c=wC "none":=congrArg (λz:Str=>z.cps.toList) e;have m:110∈nT c:=by rw[o];decide+kernel
  rcases Tv h.1 h.2 110 m with z|z<;>lia
 have s:ė (È "none")=Δ:=by decide+kernel
 have a:=ŗ p.ok s;have b:=zY p.ok s;rw[decide_eq_false n]at a b;exact⟨a,b⟩
def Z3Y(h:Nb c):kR [sV<|nT c]=Α (.int c):=by have:=(Zk h).1;show(if(S<|nT c).length<=640then(mN<|S<|nT c).map PV.int else Β)=_;rw[Zf,if_pos (by lia),Z3z h.1 h.2];rfl
section
variable{w h x y u v:Nat}{D:List Dz}(X:En w h x y u v D){A C:List Th}(M:Mr w A C)
include X M
def Z66(hd:d∈D)(G s1:ŏ):am [G,s1,.sh<|sV<|Z3 w h A d,.sh<|sV<|Z3 w h C d]=.ok .nx [G,s1,.sh<|sV<|Z3 w h A d,.sh<|sV<|Z3 w h C d]:=by
 obtain⟨U,R⟩:=Z3W (h:=h) (A:=A) (B:=C) (C:=C) (λo k=>by have:=M o k;cases Y:nR w A o k<;>simp[Y]at this⊢;exact this) d;have l1:=XW X A hd;have a1:=XX (l:=Z3 w h A d) (by lia);have K:=XX (l:=Z3 w h C d) (by lia);rw[<-R]at K;have Q:=ZI (n:=(Z3 w h A d).length) (by lia);have cc:=Đ (g:=gN 2) (mt:=Ę) (me:=gf (Ê ķ (Ê Þ (Â 0)<|Â 2)<|mC<|.str "#")<|Ê ϕ (Ê Þ (Â 1)<|Â 2)<|mC<|.str "#") (λ(i:Nat)=>PV.int (i:Int)) (λx=>PV.bl Ε) (λb=>∃a,b=[.sh<|sV<|Z3 w h A d,.sh<|sV<|Z3 w h C d,a]) (ú (Z3 w h A d).length) [.sh<|sV<|Z3 w h A d,.sh<|sV<|Z3 w h C d,.no] [] ⟨_,rfl⟩ (by simp;lia) (by
  rintro k W b ⟨a,rfl⟩;have t:=aN.mp W;have s:k<(Z3 w h C d).length:=by lia
  have J:=Ub (Ĩ t) (by lia);have Z:=Ub (Ĩ s) (by lia);have q:=(Z50<|ZX A d _<|ŵ t).1;have I:=(Z50<|ZX C d _<|ŵ s).2;have p:=congrArg (λl=>l[k]?) U;rw[B2,Ĩ t,Ĩ s]at p;have H:(Z3 w h A d)[k]=35->(Z3 w h C d)[k]=35:=λz=>by
   injection p with p
   rw[p,z];rfl
  generalize (Z3 w h A d)[k]=b1,(Z3 w h C d)[k]=b2,sV (Z3 w h A d)=PA,sV (Z3 w h C d)=PC at*;by_cases z:b1=35
  ·rw[decide_eq_true z]at q;rw[H z]at I;simp[J,Z,q,I,H z]
  ·rw[decide_eq_false z]at q;simp[J,q])
 have an:∀l:List Nat,IG [.lst<|l.map λx=>PV.bl Ε]=Α (.bl Ε):=λl=>by
  show(aX<|l.map λx=>PV.bl Ε).map (λbs=>PV.bl<|bs.any id)=_;have:(l.map λx=>PV.bl Ε)=(l.map λx=>Ε).map PV.bl:=by simp
  rw[this,Xh];simp
 unfold am;simp[a1,K,Q,cc,iZ,dW,an]
def Z5x(hd:d∈D)(j s1:ŏ):Ž [j,s1,.sh<|sV<|wD<|Zn w h (v*w+u) (y*w+x) A d,.sh<|sV<|wD<|Zn w h (v*w+u) (y*w+x) C d]=.ok .nx [j,s1,.sh<|sV<|wD<|Zn w h (v*w+u) (y*w+x) A d,.sh<|sV<|wD<|Zn w h (v*w+u) (y*w+x) C d]:=by
 have m:=Z3V X.x X.y;have dl:=(X.d d hd).2;have q:sV (wD Β)=.str "none":=(ZU _).symm;have a:ė (È "none")=Δ:=by decide+kernel
 have p:=ŗ a a;have o:=zY a a
 cases i:Zn w h (v*w+u) (y*w+x) A d with
 |none=>
  cases f:Zn w h (v*w+u) (y*w+x) C d with
  |some c=>obtain⟨n,e,_⟩:=Z1E C A d m f;rw[i]at e;cases e|none=>rw[q];simp[Ž,p,o]
 |some c=>obtain⟨n,f,g⟩:=Z1E A C d m i;have g:=g M;have G:=Om _ i;have E:=Om _ f;rw[ģ]at G E;rw[f];have l:Nb c:=⟨by omega,by lia⟩;have k:Nb n:=⟨by lia,by lia⟩;obtain⟨B,z⟩:=Z2O l;obtain⟨t,e4⟩:=Z2O k;have s:=Z3Y l;have r:=Z3Y k;unfold wD;simp[Ž,B,z,t,s,r,g]
def Z1i:Ϡ [.sh<|Z5 w h x y u v D A,.sh<|Z5 w h x y u v D C]=.ret (.sh<|.bl Δ):=by
 have dl:=X.l;obtain⟨e,B,s2,s3,rfl⟩:=bR (g:=gT 2<|ë (gN 2)<|ë (gN 3) Ş) (λd=>PV.tup [sV<|Z3 w h A d,sV<|Z3 w h C d]) (λm m=>()) (λm c=>∃s2 s3,c=[.sh<|Z5 w h x y u v D A,.sh<|Z5 w h x y u v D C,s2,s3]) D (by
  rintro d hd _ c ⟨s2,s3,rfl⟩;exact⟨_,_,rfl,Z66 X M hd _ _,_,_,rfl⟩) () [.sh<|Z5 w h x y u v D A,.sh<|Z5 w h x y u v D C,.no,.no] ⟨_,_,rfl⟩
 obtain⟨f,t,s4,s5,rfl⟩:=bR (g:=gT 2<|ë (gN 2)<|ë (gN 3) Ş) (mb:=cP) (λk=>PV.tup [.int<|EH w h A D k,.int<|EH w h C D k]) (λm m=>()) (λm c=>∃s2 s3,c=[.sh<|Z5 w h x y u v D A,.sh<|Z5 w h x y u v D C,s2,s3]) (ú<|w*h) (by
  rintro k hk _ c ⟨s2,s3,rfl⟩;have G:EH w h C D k<=EH w h A D k:=Z1D M k _ _ _ (λd hd=>by obtain⟨z,H,rfl⟩:=Ĉ.mp hd;have:=(X.d z H).1.2.1;show 0<=z.2.1;lia)<|oH _;generalize Z5 w h x y u v D A=p,Z5 w h x y u v D C=o,EH w h C D k=a,EH w h A D k=b at*;exact⟨[.sh p,.sh o,.sh<|.int b,.sh<|.int a],[.sh p,.sh o,.sh<|.int b,.sh<|.int a],rfl,by simp[cP,G],_,_,rfl⟩) () [.sh<|Z5 w h x y u v D A,.sh<|Z5 w h x y u v D C,s2,s3] ⟨_,_,rfl⟩
 obtain⟨j,s,s6,s7,rfl⟩:=bR (g:=gT 2<|ë (gN 2)<|ë (gN 3) Ş) (λd=>PV.tup [sV<|wD<|Zn w h (v*w+u) (y*w+x) A d,sV<|wD<|Zn w h (v*w+u) (y*w+x) C d]) (λm m=>()) (λm c=>∃s2 s3,c=[.sh<|Z5 w h x y u v D A,.sh<|Z5 w h x y u v D C,s2,s3]) D (by
  rintro d hd _ c ⟨s2,s3,rfl⟩;exact⟨_,_,rfl,Z5x X M hd _ _,_,_,rfl⟩) () [.sh<|Z5 w h x y u v D A,.sh<|Z5 w h x y u v D C,s4,s5] ⟨_,_,rfl⟩
 rw[<-Z2N]at B t s;have i:∀T,Þ (Z5 w h x y u v D T) (.int 0)=Α (.lst<|D.map λd=>sV<|Z3 w h T d)/\Þ (Z5 w h x y u v D T) (.int 1)=Α (.lst<|(ú<|w*h).map λk=>.int<|EH w h T D k)/\Þ (Z5 w h x y u v D T) (.int 2)=Α (.lst<|D.map λd=>sV<|wD<|Zn w h (v*w+u) (y*w+x) T d):=λT=>⟨rfl,rfl,rfl⟩;obtain⟨O,N,L⟩:=i A;obtain⟨K,J,I⟩:=i C;simp[Ϡ,gU,Go,O,N,L,K,J,I,B,t,s]
end
def Z3Z(w:Nat)(A:List Th)(t:Th)(o:Option P3)(k:Nat):nR w (A++[t]) o k=(nR w A o k||nR w [t] o k):=by
 cases o with
 |none=>rfl|some r=>simp[nR]
def XY:ϕ (.str "ok") (.str "ok")=Α (.bl Ε)/\ķ (.str "ok") (.str "ok")=Α (.bl Δ):=⟨by kernel_rfl,by kernel_rfl⟩
def tk0:PV.str (È "take 0")=sV (Q1 0):=by rw[ZU];congr 1
def XZ(a:Z1 t.1 t.2=Δ):é (.lst [.str "put"]) (cw t)=Α (.ow (.str "put"::.str t.1::t.2.map .int)):=by unfold cw;rw[l_ (by have:=(QW a).1;simp;lia)];rfl
section
variable{w h x y u v:Nat}{D:List Dz}(X:En w h x y u v D)
include X
def Z5y(c:∀q∈T++[t],Z1 q.1 q.2=Δ)(hl:T.length<10)(s:PV):kL ["yard"] [Z4 w h T D] (Α (["yard"],[Z4 w h [] D])) [cw t,.lst<|(D.map zV).map Ϸ,s,sV<|Zd x y u v]=.ret (.bl Δ) ["yard"] [Z4 w h (T++[t]) D] (Α (["yard"],[Z4 w h [] D])):=by
 have a:=c t (by simp);have Y:Tg T:=⟨by lia,λq z=>c q<|by simp[z]⟩;have g:Tg (T++[t]):=⟨by simp;lia,c⟩;have f:Tg [t]:=⟨by simp,by simpa using a⟩;have dl:=X.l;have J:=ZL X Y (s2:=.sh s) (sd:=.sh<|.lst<|(D.map zV).map Ϸ)<|.inl rfl;have I:=ZL X g (s2:=.sh s) (sd:=.sh<|.lst<|(D.map zV).map Ϸ)<|.inl rfl;have H:=ZL X f (s2:=.sh s) (sd:=.sh<|.lst<|(D.map zV).map Ϸ)<|.inl rfl;have l:=T5 a (T4 (w:=w) (h:=h) (T:=T) (by lia) (D:=D.map zV) (by simp;lia) a);have e:=T5 a (T4 (w:=w) (h:=h) (T:=[]) (by simp) (D:=D.map zV) (by simp;lia) a);have b:=T6 (w:=w) (h:=h) (A:=[]) (B:=[]) (t:=t) (by simp) (D:=D.map zV) (by simp;lia);have r:=XR a;have G:=XZ a;have m:=Z1i X (A:=T) (C:=T++[t]) λo k E=>by rw[Z3Z,E];rfl
 have p:=Z5w X<|Z3Z w T t;obtain⟨o,n⟩:=XY;rw[sC,<-tk0]at b;rw[ϊ]at e b;rw[ϊ]at b;unfold Z4 at*;generalize Z0 w h T (D.map zV)=Y0,Z0 w h (T++[t]) (D.map zV)=g,Z0 w h [t] (D.map zV)=f,Z0 w h [] (D.map zV)=Y3,Z5 w h x y u v D T=A0,Z5 w h x y u v D (T++[t])=A1,Z5 w h x y u v D [t]=A2,(D.map zV).map Ϸ=DV,sV (Zd x y u v)=EN,sV (ND t)=RP,cw t=WT at*;simp[kL,jt,gm,rK,Ğ,ý,ϲ,J,I,H,G,r,l,e,b,o,n,m,p,MR.of,kS,dE,i_,Jr,GZ,Oo,Q7]
def Z3f(c:Z1 a.1 a.2=Δ)(d:Z1 b.1 b.2=Δ)(M:Mr w [a] [b])(s:PV):eY ["yard"] [Z4 w h [] D] Β [cw a,cw b,.lst<|(D.map zV).map Ϸ,s,sV<|Zd x y u v]=.ret (.bl Δ) ["yard"] [Z4 w h [] D] Β:=by have dl:=X.l;have z:=ZL X (T:=[a]) ⟨by simp,by simpa using c⟩ (s2:=.sh s) (sd:=.sh<|.lst<|(D.map zV).map Ϸ)<|.inl rfl;have r:=ZL X (T:=[b]) ⟨by simp,by simpa using d⟩ (s2:=.sh s) (sd:=.sh<|.lst<|(D.map zV).map Ϸ)<|.inl rfl;have i:=T5 c (T4 (w:=w) (h:=h) (T:=[]) (by simp) (D:=D.map zV) (by simp;lia) c);have g:=T5 d (T4 (w:=w) (h:=h) (T:=[]) (by simp) (D:=D.map zV) (by simp;lia) d);have f:=T6 (w:=w) (h:=h) (A:=[]) (B:=[]) (t:=a) (by simp) (D:=D.map zV) (by simp;lia);have e:=T6 (w:=w) (h:=h) (A:=[]) (B:=[]) (t:=b) (by simp) (D:=D.map zV) (by simp;lia);have o:=XR c;have n:=XR d;have q:=XZ c;have p:=XZ d;have k:=Z1i X M;obtain⟨m,l⟩:=XY;rw[sC,<-tk0,ϊ,ϊ]at f e;rw[ϊ]at i g;unfold Z4 at*;generalize Z0 w h [a] (D.map zV)=Y1,Z0 w h [b] (D.map zV)=Y2,Z0 w h [] (D.map zV)=Y3,Z5 w h x y u v D [a]=A1,Z5 w h x y u v D [b]=A2,(D.map zV).map Ϸ=DV,sV (Zd x y u v)=EN,sV (ND a)=R1,sV (ND b)=R2,cw a=W1,cw b=W2 at*;simp[eY,jt,gm,lX,Ğ,ý,ϲ,z,r,q,p,o,n,i,g,f,e,m,l,k,MR.of,kS,dE,i_,Jr,GZ,Oo,Q7]
end
def Q9(g:Str):Prop:=g="post" \/g="fence" \/g="house"
def Z6s{a b c x y l m n h k:Int}(i:0<=h)(g:h<=k)(o:l*(c*x+a*0)+m*(c*y+b*0)<=n)(j:l*(c*x+a*k)+m*(c*y+b*k)<=n):l*(c*x+a*h)+m*(c*y+b*h)<=n:=by
 have f:∀z,l*(c*x+a*z)+m*(c*y+b*z)=l*c*x+m*c*y+(l*a+m*b)*z:=λz=>by grind
 rw[f]at o j⊢;generalize l*a+m*b=K at*;rcases ia K 0with q|q
 ·have:=ŋ (show 0<= -K by lia) i;lia
 ·have:=si g q;lia
abbrev YX(G:List (Int×Int))(z:Int):List P3:=G.map λq=>(q.1,q.2,z)
def X_{g:Str}(hg:Q9 g){i:List Int}{a b:Int}(h:Z1 g (i++[a])=Δ)(hb:1<=b/\b<=1000000000):1<=a/\Z1 g (i++[b])=Δ/\∃G G':List (Int×Int),(∀q,q∈G'↔q∈G)/\∀z,Zz g (i++[z])=YX G 0++YX G' z:=by
 have ap:∀{l:List Int}{c:Int},i++[a]=l++[c]->i=l/\a=c:=λe=>by obtain⟨e1,e2⟩:=wT e rfl;exact⟨e1,by simpa using e2⟩
 rcases hg with rfl|rfl|rfl
 ·rw[Z1,if_pos rfl]at h;obtain⟨x,y,c,e⟩:=QL h;obtain⟨rfl,rfl⟩:=ap (l:=[x,y]) e;simp[ZF,nv,zg]at h;exact⟨h.2.1,Z4V ⟨by omega,by omega⟩ ⟨by omega,by omega⟩ hb,[(2*x-1,2*y-1),(2*x+1,2*y-1),(2*x+1,2*y+1),(2*x-1,2*y+1)],_,λw=>Iff.rfl,λz=>rfl⟩
 ·rw[Z1,if_neg (vy<|by decide+kernel),if_pos rfl]at h⊢;obtain⟨x,y,u,v,c,e⟩:=QM h;obtain⟨rfl,rfl⟩:=ap (l:=[x,y,u,v]) e;simp[Zp,Zr,nv,zg]at h;exact⟨by omega,by simp[Zp,Zr,nv,zg];omega,[(x,y),(u,v)],[(u,v),(x,y)],λw=>by simp[or_comm],λz=>rfl⟩
 ·rw[Z1,if_neg (vy<|by decide+kernel),if_neg (vy<|by decide+kernel),if_neg (vy<|by decide+kernel),if_neg (vy<|by decide+kernel),if_pos rfl]at h⊢;obtain⟨x,y,u,v,c,e⟩:=Ny h;obtain⟨rfl,rfl⟩:=ap (l:=[x,y,u,v]) e;simp[Zt,Zr,nv,zg]at h;exact⟨by omega,by simp[Zt,Zr,nv,zg];omega,[(x,y),(u,y),(u,v),(x,v)],_,λw=>Iff.rfl,λz=>rfl⟩
def Z67(B:Q9 g)(u:Z1 g (i++[a])=Δ)(E:Z1 g (i++[b])=Δ)(C:1<=b/\b<=1000000000)(h:a<b):Mr w [(g,i++[a])] [(g,i++[b])]:=by
 intro o k j;cases o with
 |none=>rfl|some r=>
  simp only[nR,ii,List.any_nil,wK,Kv]at j⊢;rw[Z2y u]at j;rw[Z2y E];obtain⟨a1,_,G,G',s,D⟩:=X_ B u C;rw[D]at j⊢;intro l m n t;have f:∀z,∀q∈G,(q.1,q.2,z)∈YX G z:=λz q c=>bA c;have v:=λq c=>t _<|bA<|jJ _<|f 0 q c;have H:=λq c=>t _<|bA<|ž _<|bA<|(s q).mpr c;refine j l m n λs A=>?_;obtain⟨p,e,rfl⟩:=Ĉ.mp A;rcases Ŵ.mp e with e|e<;>obtain⟨q,c,rfl⟩:=Ĉ.mp e
  ·exact v q c
  ·have c:=(s q).mp c;exact Z6s (by lia) (by lia) (v q c)<|H q c
def Z7(t:Th):List PV:=.str t.1::t.2.dropLast.map .int
def Zu(t:Th):Int:=t.2.getLastD 0
def Op(h:Z1 t.1 t.2=Δ):t.2=t.2.dropLast++[Zu t]/\cw t=.lst (Z7 t++[.int<|Zu t]):=by
 have n:t.2≠[]:=λe=>by rw[e]at h;rcases ZB h with⟨-,h⟩|⟨-,h⟩|⟨-,h⟩|⟨-,h⟩|⟨-,h⟩<;>cases h
 have e:t.2=t.2.dropLast++[Zu t]:=by unfold Zu;rw[List.getLastD_eq_getLast?,List.getLast?_eq_getLast n];exact(List.dropLast_concat_getLast n).symm
 refine⟨e,?_⟩;unfold cw Z7
 conv=>lhs;rw[e]
 simp
def Uc(L:List PV)(x:PV):Þ (.lst<|L++[x]) (.int<|-1)=Α x:=by
 show mY _ _=_;unfold mY Hr;simp;rw[if_pos<|by lia];have e:(-1+((L.length:Int)+1)).toNat=L.length:=by lia
 simp[e]
def X0(L:List PV)(x:PV):cx (L++[x]) Β (Α<|-1)=L:=by
 unfold cx;have e:(-1+((L.length:Int)+1)).toNat=L.length:=by lia
 simp[HT.kO,e]
def Ra(g:Str):Bool:=decide (g="post")||decide (g="fence")||decide (g="house")
def Rb(t:Th):Bool:=Ra t.1&&decide (Zu t<1000)
def Z6z(h:Ra g=Δ):Q9 g:=by simp[Ra]at h;unfold Q9;grind
def Z6t{t:Th}(h:Z1 t.1 t.2=Δ):AB (.str t.1) (.lst [.str "post",.str "fence",.str "house"])=Α (.bl<|Ra t.1):=by rcases ZB h with⟨e,-⟩|⟨e,-⟩|⟨e,-⟩|⟨e,-⟩|⟨e,-⟩<;>rw[e]<;>kernel_rfl
def Ud(h:Z1 t.1 t.2=Δ)(b:Int):Ų (.lst<|Z7 t++[.int b])=Δ/\Ų (.lst<|Z7 t)=Δ/\oz (.lst<|Z7 t)<=60:=by
 have a:∀(l:List Int) r,Ϩ r=Δ->Ϩ (l.map .int++r)=Δ:=λl r m=>by
  induction l with
  |nil=>exact m|cons x l g=>simpa[Ϩ,Ų]using g
 have d:∀l:List Int,jj (l.map .int)=0:=λl=>by
  induction l with
  |nil=>rfl|cons x l g=>simp[jj,oz,g]
 have s:=TJ h;have k:=a t.2.dropLast [] rfl;rw[cZ]at k;have n:=a t.2.dropLast [.int b] rfl;unfold Z7;generalize t.2.dropLast=L at*;exact⟨by simp[Ų,Ϩ,s,n],by simp[Ų,Ϩ,s,k],by simp[oz,jj,d]⟩
def Z40(Y:Tg T)(hn:0<=n)(hs:Sl sl (T.map cw)):Ź [sl,.sh<|.int n]=.ret (.sh .non)\/∃t∈T,∃b,Q9 t.1/\Zu t<b/\b<=10000/\Ź [sl,.sh<|.int n]=.ret (.ow<|Z7 t++[.int b]):=by
 have tl:=Y.l;have j:=bS (g:=gN 0) (mt:=ji (ϐ<|Ê AB (Ê Þ (Â 0)<|Æ 0)<|Ñ<|ϧ<|É (mC<|.str "post")<|É (mC<|.str "fence")<|É (mC<|.str "house") á)<|ϐ<|Ê lC (Ê Þ (Â 0)<|ϥ ϳ<|Æ 1)<|Æ 1000) (me:=í 0) cw cw Rb (λc=>∃a,c=[a]) T [.no] [] ⟨_,rfl⟩ (by simp;lia) (by
  rintro t ht c ⟨a,rfl⟩;have g:=Y.g t ht;have i0:Þ (cw t) (.int 0)=Α (.str t.1):=by simp[cw]
  have r:=Uc (Z7 t)<|.int<|Zu t;rw[<-(Op g).2]at r;have p:=Z6t g;refine⟨[.sh<|cw t],[.sh<|cw t],by simp,?_,λy=>⟨_,rfl⟩,λy=>⟨[.sh<|cw t],by simp,_,rfl⟩⟩;unfold Rb;generalize cw t=V at*;cases hg:Ra t.1
  ·rw[hg]at p;simp[i0,p]
  ·rw[hg]at p;simp[i0,r,p])
 rw[ϊ]at j;cases s:T.filter Rb with
 |nil=>
  left
  rw[s]at j;have e:ķ (.lst []) (.lst [])=Α (.bl Δ):=by kernel_rfl
  generalize T.map cw=TW at*;rcases hs with rfl|rfl<;>simp[Ź,gR,ý,iZ,j,e]
 |cons f G=>
  right
  rw[s]at j;have gl:0<((f::G).length:Int):=Int.natCast_pos.mpr<|Nat.succ_pos _;obtain⟨X,f1,f2,f3⟩:=fm n gl;obtain⟨m,rfl⟩:=oI f2;have hm:m<(f::G).length:=by lia
  have mem:(f::G)[m]∈T.filter Rb:=by rw[s];exact ŵ hm
  obtain⟨m1,m2⟩:=aM.mp mem;have ix:((f::G).map cw)[m]?=Α (cw (f::G)[m]):=by rw[œ,Ĩ hm];rfl
  have gd:=Y.g _ m1;have ne:ķ (.lst<|(f::G).map cw) (.lst [])=Α (.bl Ε):=by
   have:Ϩ ((f::G).map cw)=Δ:=by
    have k:∀l:List Th,(∀t∈l,Z1 t.1 t.2=Δ)->Ϩ (l.map cw)=Δ:=λl=>by
     induction l with
     |nil=>exact λy=>rfl
     |cons x l ih=>intro h;have:=(Ud (h x<|by simp)<|Zu x).1;rw[<-(Op<|h x<|by simp).2]at this;rw[â,Ϩ,this,ih λz hz=>h z<|by simp[hz]];rfl
    exact k _ λt ht=>Y.g t (aM.mp (by rw[s];exact ht)).1
   have q:nu (.lst<|(f::G).map cw) (.lst [])=Δ:=by unfold nu;rw[show Ų (.lst<|(f::G).map cw)=Δ by unfold Ų;exact this];simp[Ų,Ϩ,oz,jj]
   unfold ķ;rw[if_pos q];rfl
  have hl:((f::G).map cw).length=(f::G).length:=by simp
  have HH:¬(f::G).map cw=[]:=by simp
  rw[<-hl]at f1;generalize (f::G)[m]=t at*;have r:=Uc (Z7 t)<|.int<|Zu t;have ct:=X0 (Z7 t)<|.int<|Zu t;have Zan:(Z7 t).length<=1000:=by have:=(QW gd).1;simp[Z7];lia
  simp only[Rb,þ,decide_eq_true_eq]at m2;obtain⟨B,hB⟩:∃B,Zu t+1+n/8%5=B:=⟨_,rfl⟩;refine⟨t,m1,B,Z6z m2.1,by lia,by lia,?_⟩;have ad:é (.lst<|Z7 t) (.lst [.int B])=Α (.ow<|Z7 t++[.int B]):=l_ (by simp;lia);rw[(Op gd).2]at ix;generalize (f::G).map cw=GW,Z7 t=IV,T.map cw=TW at*;rcases hs with rfl|rfl<;>simp[Ź,gR,ý,iZ,j,ne,f1,HH,ix,r,ct,hB,ad]
def Ky(h:sm x):Pl x:=⟨by have:=h.1;lia,by have:=h.2;lia⟩
def Z1F(h:TU t):Z1 t.1 t.2=Δ:=by
 rcases h with⟨x,y,z,rfl,j,i,g⟩|⟨x,y,z,a,b,c,d,e,f,rfl,q,p,h3,o,n,h6,m,l,h9⟩|⟨_,_,k⟩
 ·exact Z4V (Ky j) (Ky i) g
 ·exact Z5V (Ky q) (Ky p) (by lia) (Ky o) (Ky n) (by lia) (Ky m) (Ky l) (by lia)
 ·exact k
theorem Z2o(ns:List Int)(v:Int){w h:Int}(hw:1<=w/\w<=20)(hh:1<=h/\h<=20):∀(ks:List Nat) (acc:List PV) (s1:ŏ),acc.length+ks.length<=1000->∃T:List Th,ĝ (gN 3) Ę (Ñ<|ß Ű<|Ü (Ñ<|ô é (Ñ<|ß Ľ<|Ì 2<|Ü (Ñ<|ô é (Æ 2)<|Â 3) Ö)<|Â 0)<|Ü (Ê Þ (Â 1)<|Æ 0)<|Ü (Ê Þ (Â 1)<|Æ 1) Ö) (ks.map λ(i:Nat)=>PV.int (i:Int)) [.sh<|.int v,.sh<|.tup [.int w,.int h],.sh<|.lst<|ns.map .int,s1] acc=Α (acc++T.map cw)/\T.length=ks.length/\∀t∈T,Z1 t.1 t.2=Δ
 |[],acc,s1,_=>⟨[],by simp[ĝ],rfl,by simp⟩|k::ks,acc,s1,hl=>by
  rw[Ė]at hl;refine BL λZ=>?_;obtain⟨p,e0,_⟩:=Q0 ns<|2+k;obtain⟨t,e1,e2⟩:=Z4W (p+v) hw hh;obtain⟨T,q1,q2,q3⟩:=Z2o ns v hw hh ks (acc++[cw t]) (.sh<|.int k) (by simp;lia);refine Z ?_;refine⟨t::T,?_,by simp[q2],jC (Z1F e2) q3⟩;have hc:acc.length<16777216:=by lia
  have ew:PV.lst (.str t.1::t.2.map .int)=cw t:=rfl;rw[â,ĝ,â];simp[e0,e1,hc,ew];simpa using q1
theorem Z41(ns:List Int)(v:Int){j:Nat}(g:j<=100):∀(b:List Nat) (acc:List PV) (s1:ŏ),acc.length+b.length<=1000->∃a:List (Option P3),ĝ (gN 3) Ę (Ñ<|ß ϣ<|Ü (Ñ<|ô é (Ñ<|ß Ľ<|Ì 0<|Ü (Ñ<|ô é (Ñ<|ô é (Æ 5)<|Ê Ĝ (Æ 3)<|Â 2)<|Â 3) Ö)<|Ê cT (Â 1)<|Æ 8) Ö) (b.map λ(i:Nat)=>PV.int (i:Int)) [.sh<|.lst<|ns.map .int,.sh<|.int v,.sh<|.int j,s1] acc=Α (acc++a.map aq)/\a.length=b.length/\∀o∈a,ZE o
 |[],acc,s1,_=>⟨[],by simp[ĝ],rfl,by simp⟩|k::b,acc,s1,f=>by
  rw[Ė]at f;refine BL λZ=>?_;obtain⟨p,n,_⟩:=Q0 ns<|5+3*j+k;obtain⟨o,m,l⟩:=Z4r<|p+v/8;obtain⟨a,e,d,c⟩:=Z41 ns v g b (acc++[aq o]) (.sh<|.int k) (by simp;lia);refine Z ?_;refine⟨o::a,?_,by simp[d],jC l c⟩;have h:acc.length<16777216:=by lia
  rw[â,ĝ,â];simp[n,m,h];simpa using e
def Kz:Nat->List Nat
 |0=>[97,98]|_=>[97]
def Z2p(ns:List Int)(hv:0<=v)(c:j<2)(hD:D.length<=100)(s4:ŏ):∃d:Dz,(Zq d/\d.2.2.length<=4)/\d.1=Kz j/\∃a,ay [.sh<|.lst<|ns.map .int,.sh<|.int v,.ow<|(D.map zV).map Ϸ,.sh<|.int j,s4]=.ok .nx [.sh<|.lst<|ns.map .int,.sh<|.int v,.ow<|((D++[d]).map zV).map Ϸ,.sh<|.int j,a]:=by
 obtain⟨n,p⟩:∃n:Nat,1+v/8%3=n:=⟨(1+v/8%3).toNat,by lia⟩;obtain⟨b,h,g,f⟩:=Z41 ns v (j:=j) (by lia) (ú n) [] .no (by simp;lia);rw[wP]at g;have e:=ZI (n:=n) (by lia);have m:Nm (Kz j):=by
  match j,c with
  |0,_=>exact⟨by decide,by decide,by decide⟩|1,_=>exact⟨by decide,by decide,by decide⟩
 have k:Þ (.lst [.str "ab",.str "a"]) (.int j)=Α (sV<|Kz j):=by
  match j,c with
  |0,_=>kernel_rfl|1,_=>kernel_rfl
 refine⟨(Kz j,1+v%1000,b),⟨⟨m,by show 1<=1+v%1000;lia,by show 1+v%1000<=_;lia,by show 1<=b.length;lia,by show b.length<=24;lia,f⟩,by lia⟩,rfl,.sh<|.lst<|b.map aq,?_⟩;have o:((D++[(Kz j,1+v%1000,b)]).map zV).map Ϸ=(D.map zV).map Ϸ++[.tup [sV<|Kz j,.int<|1+v%1000,.lst<|b.map aq]]:=by rw[š,š];rfl
 have l:((D.map zV).map Ϸ).length<16777216:=by simp;lia
 rw[o];generalize (D.map zV).map Ϸ=DD,b.map aq=OS,ns.map PV.int=L,((ú n).map λ(i:Nat)=>PV.int (i:Int))=RG,sV (Kz j)=Z at*;unfold ay;simp[p,e,iZ,dW,h,k,l]
def Z68(ns:List Int)(e:Ľ [.sh<|.lst<|ns.map .int,.sh<|.int 1]=.ret (.sh<|.int v))(i:0<=v):∃D:List Dz,bh [.sh<|.lst<|ns.map .int]=.ret (.ow<|(D.map zV).map Ϸ)/\D.length<=3/\(∀d∈D,Zq d/\d.2.2.length<=4)/\(D.map (·.1)).Nodup:=by
 obtain⟨c,k,o,a,g⟩:=Z2p ns i (j:=0) (by lia) (D:=[]) (by simp) .no;obtain⟨h,p,n,b,l⟩:=Z2p ns i (j:=1) (by lia) (D:=[c]) (by simp) a;rw[ϊ]at g;change ay [_,_,.ow [],.sh<|.int 0,_]=_ at g;change ay [_,_,_,.sh<|.int 1,_]=.ok .nx [_,_,.ow<|([c,h].map zV).map Ϸ,.sh<|.int 1,b]at l;have f:v/4%2=0\/v/4%2=1:=by lia
 rcases f with f|f
 ·refine⟨[c],?_,by simp,jC k Ey,by simp⟩;have m:aR [.int 1]=Α [.int 0]:=by rfl
  simp[bh,fw,ý,e,f,m,Ŭ,g]
 ·refine⟨[c,h],?_,by simp,jC k<|jC p Ey,by simp[o,n,Kz]⟩;generalize ([c].map zV).map Ϸ=D1,([c,h].map zV).map Ϸ=D2,ns.map PV.int=L at*;simp[bh,fw,e,f,Z5T,Ŭ,g,l]
def J7(h:A b=.ok .nx a):ä A B b=B a:=by show(A b).bind _=_;rw[h];rfl
def So(s:ŏ)(L:List PV):Prop:=s=.ow L\/s=.sh (.lst L)
noncomputable abbrev lf(Y:PV):ŏ:=.rc "Desk" ["yard"] [Y]
theorem Z2q:∀(l m:List Int),hV (l.map .int) (m.map .int)=Δ->l=m
 |[],[],_=>rfl|[],_::_,h=>by simp[hV]at h|_::_,[],h=>by simp[hV]at h|x::l,y::m,h=>by simp[hV,ck]at h;rw[h.1,Z2q l m h.2]
def Z69(Y:Tg T)(ht:t∈T)(b:Int):∃q∈T,q.1=t.1/\q.2.dropLast=t.2.dropLast/\∃R:List PV,ĝ (gN 1) (ϐ<|Ê ķ (Ñ<|pY (Â 1) jm<|mP<|ϥ ϳ<|Æ 1)<|Ñ<|pY (Â 0) jm<|mP<|ϥ ϳ<|Æ 1) (í 1) (T.map cw) [.sh<|.lst<|Z7 t++[.int b],.no] []=Α (cw q::R):=by
 have c1:=bS (g:=gN 1) (mt:=ϐ<|Ê ķ (Ñ<|pY (Â 1) jm<|mP<|ϥ ϳ<|Æ 1)<|Ñ<|pY (Â 0) jm<|mP<|ϥ ϳ<|Æ 1) (me:=í 1) cw cw (λq=>ck (.lst<|Z7 q)<|.lst<|Z7 t) (λc=>∃a,c=[.sh<|.lst<|Z7 t++[.int b],a]) T [.sh<|.lst<|Z7 t++[.int b],.no] [] ⟨_,rfl⟩ (by have:=Y.l;simp;lia) (by
  rintro q hq c ⟨a,rfl⟩;obtain⟨-,o1,o2⟩:=Ud (Y.g q hq) 0;obtain⟨-,o3,o4⟩:=Ud (Y.g t ht) 0;have e1:=X0 (Z7 q)<|.int<|Zu q;have e2:=X0 (Z7 t)<|.int b;have eq:ķ (.lst<|Z7 q) (.lst<|Z7 t)=Α (.bl<|ck (.lst<|Z7 q)<|.lst<|Z7 t):=by unfold ķ nu;rw[if_pos (by rw[o1,o3,decide_eq_true<|by lia];rfl)]
  rw[(Op<|Y.g q hq).2];generalize ck (.lst<|Z7 q) (.lst<|Z7 t)=B,Z7 q=IQ,Z7 t=IT at*;exact⟨[.sh<|.lst<|IT++[.int b],.sh<|.lst<|IQ++[.int<|Zu q]],[.sh<|.lst<|IT++[.int b],.sh<|.lst<|IQ++[.int<|Zu q]],by simp,by simp[e1,e2,eq],λx=>⟨_,rfl⟩,λx=>⟨[.sh<|.lst<|IT++[.int b],.sh<|.lst<|IQ++[.int<|Zu q]],by simp,_,rfl⟩⟩)
 rw[ϊ]at c1;have JL:t∈T.filter (λq=>ck (.lst<|Z7 q)<|.lst<|Z7 t):=aM.mpr ⟨ht,lG _ (Ud (Y.g t ht) 0).2.1⟩;cases hF:T.filter (λq=>ck (.lst<|Z7 q)<|.lst<|Z7 t)with
 |nil=>rw[hF]at JL;simp at JL|cons q R=>
  obtain⟨m1,m2⟩:=aM.mp (show q∈T.filter (λq=>ck (.lst<|Z7 q)<|.lst<|Z7 t) by rw[hF];simp);rw[hF]at c1;have m3:(q.1==t.1)=Δ/\hV (q.2.dropLast.map .int) (t.2.dropLast.map .int)=Δ:=by simpa[Z7,ck,hV]using m2
  exact⟨q,m1,by simpa using m3.1,Z2q _ _ m3.2,R.map cw,c1⟩
section
variable{w h x y u v:Nat}{D:List Dz}(X:En w h x y u v D){T:List Th}(Y:Tg T)(L:List PV)(F:PV)(s5 wG:ŏ)
include X Y
def Z6a{A:List Th}(hA:∀t∈A,Z1 t.1 t.2=Δ)(hl:T.length+A.length<10){t:Th}(g:Z1 t.1 t.2=Δ){s4 vz:ŏ}(h4:So s4 ((D.map zV).map Ϸ)){W:List PV}(hW:cw t=.lst W)(YZ:So vz W)(c z:Int)(s2 s3 zl vA:ŏ):∃a4 EI,So a4 ((D.map zV).map Ϸ)/\W_ [.sh<|.lst L,.sh<|.tup [.int w,.int h],s2,s3,s4,s5,.sh<|sV<|Zd x y u v,lf<|Z4 w h (T++A) D,lf<|Z4 w h [] D,.sh F,.sh<|.int c,.sh<|.int z,wG,vz,zl,vA]=.ok .nx [.sh<|.lst L,.sh<|.tup [.int w,.int h],s2,s3,a4,s5,.sh<|sV<|Zd x y u v,lf<|Z4 w h (T++(A++[t])) D,lf<|Z4 w h [] D,.sh F,.sh<|.int<|c+1,.sh<|.int z,wG,EI,zl,vA]:=by
 have pl:=Z5y X (T:=T++A) (t:=t) (λq hq=>by
  rcases Ŵ.mp hq with hq|hq
  ·exact(Ŵ.mp hq).elim (Y.g q) (hA q)
  ·rw[eJ.mp hq];exact g) (by simp;omega)<|.tup [.int w,.int h]
 rw[my,hW]at pl;refine⟨.sh<|.lst<|(D.map zV).map Ϸ,.sh<|.lst W,.inr rfl,?_⟩;unfold Z4 at*;generalize Z0 w h (T++A) (D.map zV)=Y0,Z0 w h (T++(A++[t])) (D.map zV)=Y1,Z0 w h [] (D.map zV)=Y3,(D.map zV).map Ϸ=DV,sV (Zd x y u v)=EN at*;rcases h4 with rfl|rfl<;>rcases YZ with rfl|rfl<;>simp[W_,uJ,pl]
def Z6b(hT:T.length<=3)(hA:∀t∈A,Z1 t.1 t.2=Δ)(hl:A.length<=2){s3 s4:ŏ}(h3:So s3 (T.map cw))(h4:So s4 ((D.map zV).map Ϸ))(z c:Int)(s2 vz zl vA:ŏ):∃t,Z1 t.1 t.2=Δ/\∃a2 a3 a4 EI N4 N5,So a3 (T.map cw)/\So a4 ((D.map zV).map Ϸ)/\
 qX [.sh<|.lst L,.sh<|.tup [.int w,.int h],s2,s3,s4,s5,.sh<|sV<|Zd x y u v,lf<|Z4 w h (T++A) D,lf<|Z4 w h [] D,.sh F,.sh<|.int c,.sh<|.int z,wG,vz,zl,vA]=.ok .nx [.sh<|.lst L,.sh<|.tup [.int w,.int h],a2,a3,a4,s5,.sh<|sV<|Zd x y u v,lf<|Z4 w h (T++(A++[t])) D,lf<|Z4 w h [] D,.sh F,.sh<|.int<|c+1,.sh<|.int z,wG,EI,N4,N5]:=by
 have w1:=X.w1;have h1:=X.h1;obtain⟨a,ha,a0⟩:∃a:Int,(if z<0then -z else z)=a/\0<=a:=⟨_,rfl,by split<;>lia⟩;obtain⟨t,e1,e2⟩:=Z4W (a/3) (w:=(w:Int)) (h:=(h:Int)) (by lia) (by lia);have g1:=Z1F e2;have tail:=fun{t} g {s4 vz} h4 {W} hW YZ s2 s3 zl vA=>Z6a X Y L F s5 wG hA (by lia) (t:=t) g (s4:=s4) (vz:=vz) h4 (W:=W) hW YZ c z s2 s3 zl vA;obtain⟨JN,Ho⟩:∃JN,ϲ s3=Α JN:=by rcases h3 with rfl|rfl<;>exact⟨_,rfl⟩
 have hs3:Sl JN (T.map cw):=by rcases h3 with rfl|rfl<;>cases Ho<;>first|exact .inl rfl|exact .inr rfl
 have hi:=Z40 Y (n:=a/3) (by lia) hs3;obtain⟨W,hW⟩:∃W,PV.str t.1::t.2.map .int=W:=⟨_,rfl⟩;have hw:cw t=.lst W:=by rw[<-hW];rfl
 rw[hW]at e1;have pre:∀r,Ź [JN,.sh<|.int<|a/3]=.ret r->qX [.sh<|.lst L,.sh<|.tup [.int w,.int h],s2,s3,s4,s5,.sh<|sV<|Zd x y u v,lf<|Z4 w h (T++A) D,lf<|Z4 w h [] D,.sh F,.sh<|.int c,.sh<|.int z,wG,vz,zl,vA]=Of [.sh<|.lst L,.sh<|.tup [.int w,.int h],.sh<|.int a,s3,s4,s5,.sh<|sV<|Zd x y u v,lf<|Z4 w h (T++A) D,lf<|Z4 w h [] D,.sh F,.sh<|.int c,.sh<|.int z,wG,.ow W,r.slot,vA]:=λr hr=>by clear tail;generalize lf (Z4 w h (T++A) D)=Y0,lf (Z4 w h [] D)=Y3,sV (Zd x y u v)=EN at*;unfold qX;simp[ha,e1,Ho,hr]
 by_cases k:a%3=1
 ·rcases hi with hi|⟨q0,hq0,b,hgr,Yx,Yi,hi⟩
  ·refine BL λZ=>?_;obtain⟨a4,EI,k4,et⟩:=tail g1 h4 hw (.inl rfl) (.sh<|.int a) s3 (.sh .non) vA;refine Z ?_;refine⟨t,g1,_,_,_,_,_,_,h3,k4,(pre _ hi).trans (cE ?_ et)⟩;clear et tail pre;generalize lf (Z4 w h (T++A) D)=Y0,lf (Z4 w h [] D)=Y3,sV (Zd x y u v)=EN at*;simp[Of,k,tM,RV.slot]
  ·obtain⟨q,hq,q1,q2,R,lo⟩:=Z69 Y hq0 b;have g0:=Y.g _ hq0;have gq:=Y.g _ hq;have sp0:=Op g0;have spq:=Op gq;have gb:=g0;rw[sp0.1]at gb;have a1:=(X_ hgr gb (b:=1)<|by lia).1;have gh:=(X_ hgr gb (b:=b)<|by lia).2.1;have eh:cw (q0.1,q0.2.dropLast++[b])=.lst (Z7 q0++[.int b]):=by simp[cw,Z7]
   have i1:=Uc (Z7 q)<|.int<|Zu q;rw[<-spq.2]at i1;have i2:=Uc (Z7 q0)<|.int b;by_cases lt:Zu q<b
   ·have eq:q=(q0.1,q0.2.dropLast++[Zu q]):=Prod.ext q1 (by rw[<-q2];exact spq.1);have M:Mr w [q] [(q0.1,q0.2.dropLast++[b])]:=by
     rw[eq]at gq⊢;exact Z67 hgr gq gh (by lia) lt
    have ra:=Z3f X gq gh M<|.tup [.int w,.int h];rw[eh]at ra;obtain⟨a4,EI,k4,et⟩:=tail gh (s4:=.sh<|.lst<|(D.map zV).map Ϸ) (.inr rfl) eh (vz:=.sh<|.lst<|Z7 q0++[.int b]) (.inr rfl) (.sh<|.int a) (.sh<|.lst<|T.map cw) (.sh<|.lst<|Z7 q0++[.int b])<|.sh<|cw q;refine⟨_,gh,_,_,_,_,_,_,.inr rfl,k4,(pre _ hi).trans (cE ?_ et)⟩;clear et tail eh pre;generalize lf (Z4 w h (T++A) D)=Y0,Z4 w h [] D=Y3,sV (Zd x y u v)=EN,Z7 q0++[.int b]=HL,cw q=WQ,T.map cw=TW,(D.map zV).map Ϸ=DV,PV.tup [.int w,.int h]=SZ at*;rcases h3 with rfl|rfl<;>rcases h4 with rfl|rfl<;>simp[Of,k,tM,iZ,dW,lo,i1,i2,lt,i_,Jr,GZ,ra,RV.slot]
   ·obtain⟨a4,EI,k4,et⟩:=tail gh h4 eh (vz:=.sh<|.lst<|Z7 q0++[.int b]) (.inr rfl) (.sh<|.int a) (.sh<|.lst<|T.map cw) (.sh<|.lst<|Z7 q0++[.int b])<|.sh<|cw q;refine⟨_,gh,_,_,_,_,_,_,.inr rfl,k4,(pre _ hi).trans (cE ?_ et)⟩;clear et tail eh pre;generalize lf (Z4 w h (T++A) D)=Y0,lf (Z4 w h [] D)=Y3,sV (Zd x y u v)=EN,Z7 q0++[.int b]=HL,cw q=WQ,T.map cw=TW,PV.tup [.int w,.int h]=SZ at*;rcases h3 with rfl|rfl<;>simp[Of,k,tM,iZ,dW,lo,i1,i2,lt,RV.slot]
 ·obtain⟨r,hr⟩:∃r,Ź [JN,.sh<|.int<|a/3]=.ret r:=by
   rcases hi with hi|⟨_,_,_,_,_,_,hi⟩<;>exact⟨_,hi⟩
  obtain⟨a4,EI,k4,et⟩:=tail g1 h4 hw (.inl rfl) (.sh<|.int a) s3 r.slot vA;refine⟨t,g1,_,_,_,_,_,_,h3,k4,(pre _ hr).trans (cE ?_ et)⟩;clear et tail pre;generalize lf (Z4 w h (T++A) D)=Y0,lf (Z4 w h [] D)=Y3,sV (Zd x y u v)=EN,PV.tup [.int w,.int h]=SZ at*;simp[Of,k]
theorem Z42(J:T.length<=3):∀(c:List Int) (A:List Th) (s2 s3 s4 j vz a b:ŏ),(∀t∈A,Z1 t.1 t.2=Δ)->A.length+c.length<=2->So s3 (T.map cw)->So s4 ((D.map zV).map Ϸ)->∃B:List Th,(∀t∈B,Z1 t.1 t.2=Δ)/\B.length<=2/\∃s i f Y_ G E C,So i (T.map cw)/\So f ((D.map zV).map Ϸ)/\
 Ŭ (gN 11) qX (c.map .int) [.sh<|.lst L,.sh<|.tup [.int w,.int h],s2,s3,s4,s5,.sh<|sV<|Zd x y u v,lf<|Z4 w h (T++A) D,lf<|Z4 w h [] D,.sh F,.sh<|.int A.length,j,wG,vz,a,b]=.ok .nx [.sh<|.lst L,.sh<|.tup [.int w,.int h],s,i,f,s5,.sh<|sV<|Zd x y u v,lf<|Z4 w h (T++B) D,lf<|Z4 w h [] D,.sh F,.sh<|.int B.length,Y_,wG,G,E,C]
 |[],A,s2,s3,s4,j,vz,a,b,d,k,m,l=>⟨A,d,by simpa using k,s2,s3,s4,j,vz,a,b,m,l,rfl⟩|z::c,A,s2,s3,s4,j,vz,a,b,d,k,m,l=>by rw[Ė]at k;refine BL λV=>?_;obtain⟨t,g,s,i,f,G,E,C,Q,O,e⟩:=Z6b X Y L F s5 wG J d (by lia) m l z A.length s2 vz a b;obtain⟨B,b1,b2,Z,c3,W,r,p,o,n,U,R,K⟩:=Z42 J c (A++[t]) s i f (.sh<|.int z) G E C (λq hq=>(Ŵ.mp hq).elim (d q) λhq=>by rw[eJ.mp hq];exact g) (by simp;lia) Q O;refine V ?_;refine⟨B,b1,b2,Z,c3,W,r,p,o,n,U,R,?_⟩;show(qX [.sh<|.lst L,.sh<|.tup [.int w,.int h],s2,s3,s4,s5,.sh<|sV<|Zd x y u v,lf<|Z4 w h (T++A) D,lf<|Z4 w h [] D,.sh F,.sh<|.int A.length,.sh<|.int z,wG,vz,a,b]).bind _=_;rw[e];rw[ŭ]at K;exact K
theorem Z2P(G:T.length<=3)(s2 s4 l p o vz f g:ŏ){s3:ŏ}(r:So s3 (T.map cw)):∀(B:List Th) (c:List Nat) (wG:ŏ),B.length=c.length->B.length<=2->∃n,Ŭ (gN 12) BB (c.map λ(i:Nat)=>PV.int (i:Int)) [.sh<|.lst L,.sh<|.tup [.int w,.int h],s2,s3,s4,s5,.sh<|sV<|Zd x y u v,lf<|Z4 w h (T++B) D,l,.sh F,p,o,wG,vz,f,g]=.ok .nx [.sh<|.lst L,.sh<|.tup [.int w,.int h],s2,s3,s4,s5,.sh<|sV<|Zd x y u v,lf<|Z4 w h T D,l,.sh F,p,o,n,vz,f,g]
 |[],[],wG,_,_=>⟨wG,by rw[cZ];rfl⟩|[],_::_,_,e,_=>by simp at e|_::_,[],_,e,_=>by simp at e|t::B,k::c,wG,e,E=>by
  simp only[Ė]at e E;obtain⟨n,I⟩:=Z2P G s2 s4 l p o vz f g r B c (.sh<|.int k) (by lia) (by lia);refine⟨n,cE ?_ I⟩;have dl:=X.l;have s:=T6 (w:=w) (h:=h) (A:=T) (B:=B) (t:=t) (by lia) (D:=D.map zV) (by simp;lia);have q:=Zs (j:=T.length) (by lia);have nl:=(Zk q).1;have z:=Zh q;have t5:(wC "take ").length=5:=by decide+kernel
  have m:=NF (a:=wC "take ") (b:=nT (T.length:Int)) (by lia) (by lia);have H:wC "take "++nT (T.length:Int)=Q1 T.length:=by rfl
  rw[H,<-ZU]at m;change é _ (ź (T.length:Int))=_ at m;obtain⟨C,n2⟩:=XY;have J:((T.map cw).length:Int)=T.length:=by simp
  rw[â,Ŭ];rcases r with rfl|rfl<;>simp[BB,J,z,m,s,C,dE,i_,Jr,GZ,Oo,Q7,-Aj]
end
def Rt(m:M Fl)(b:ć):Prop:=∃a,m b=.ok (.rt<|.sh<|.bl Δ) a
def ZR{A B:M Fl}{ρ ρ1:ć}(h:A ρ=.ok .nx ρ1)(h2:Rt B ρ1):Rt (ä A B) ρ:=by
 obtain⟨ρ2,e⟩:=h2;exact⟨ρ2,(J7 h).trans e⟩
def Z51{i:Nat}{mi:MI}{ms:M (List ŏ)}{m2:M Fl}{ρ ρ1:ć}{as:List ŏ}{ns:List Str}{ps:List PV}(h:ms ρ=.ok as ρ1)(hd:mi as=.ok ns ps)(h2:Rt m2 (ρ1.set i<|.rc "Desk" ns ps)):Rt (qT i "Desk" mi ms m2) ρ:=by
 obtain⟨ρ2,e⟩:=h2;refine⟨ρ2.map uN,?_⟩;unfold qT;rw[h];dsimp only[Ĳ.bind];rw[hd];dsimp only;rw[e]
theorem Ue{a:Type}{f:a->PV}:∀{l:List a},(∀x∈l,Ų (f x)=Δ/\oz (f x)=0)->Ϩ (l.map f)=Δ/\jj (l.map f)=0
 |[],_=>⟨rfl,rfl⟩|x::l,h=>by obtain⟨k,j⟩:=h x (by simp);obtain⟨g,e⟩:=Ue λz i=>h z<|ð _ i;simp[Ϩ,jj,k,j,g,e]
def dS(h:DJ l):Ų (sV l)=Δ/\oz (sV l)=0:=⟨by unfold sV Ų;exact h.ok,by unfold sV oz;rfl⟩
def Z6c(X:En w h x y u v D)(T:List Th):ķ (Z5 w h x y u v D T) (Z5 w h x y u v D T)=Α (.bl Δ):=by
 obtain⟨A,z⟩:=Ue (f:=λd=>sV<|Z3 w h T d) (l:=D) λd a=>dS λc g=>by rcases ZX T d c g with rfl|rfl|rfl<;>lia
 obtain⟨t,s⟩:=Ue (f:=λk=>PV.int<|EH w h T D k) (l:=ú<|w*h) λa a=>⟨by rfl,by rfl⟩;obtain⟨r,q⟩:=Ue (f:=λd=>sV<|wD<|Zn w h (v*w+u) (y*w+x) T d) λd hd=>dS (by
  cases e:Zn w h (v*w+u) (y*w+x) T d with
  |none=>exact λc g=>by have:=(NC).2 c g;lia
  |some c=>have:=Om _ e;rw[ģ]at this;have:=(X.d d hd).2;exact λx p=>by have:=(Zk ⟨by lia,by lia⟩).2 x p;lia)
 unfold Z5 zh;exact Ei (by simp only[Ų,Ϩ,A,t,r];rfl) (by simp only[oz,jj,z,s,q];decide)
def Z5z{x y u v:Nat}(h:x<=1000/\y<=1000/\u<=1000/\v<=1000):č [.sh<|.lst [.int x,.int y,.int u,.int v]]=.ret (.sh<|sV<|Zd x y u v):=by have n:∀{j:Nat},j<=1000->ba [.int j]=Α (sV<|nT j):=λh=>Zh (Zs<|by lia);exact TR (ws:=[(.int x,nT x),(.int y,nT y),(.int u,nT u),(.int v,nT v)]) (jC (n<|by lia)<|jC (n<|by lia)<|jC (n<|by lia)<|jC (n<|by lia) Ey) (jC (ZN<|by lia)<|jC (ZN<|by lia)<|jC (ZN<|by lia)<|jC (ZN<|by lia) Ey) (by simp)
def Z2Q(h:cV [.sh<|sV t]=.ret (.sh Y)):ql [.sh<|sV t]=.ok ["yard"] [Y]:=by simp[ql,ju,putN,vq,h]
def Uf(a:Int){b:Nat}(h:0<b):∃X:Nat,a.fmod b=X/\X<b:=by obtain⟨X,e,h1,h2⟩:=fm a (b:=b) (by lia);exact⟨X.toNat,by lia,by lia⟩
def Z4O(ns:List Int)(hn:ns.length<=63):Ar [.sh<|.lst<|ns.map .int]=.ret (.sh<|.bl Δ):=by
 obtain⟨v0,k0,g0⟩:=Q0 ns 0;obtain⟨g,k1,g1⟩:=Q0 ns 1;obtain⟨j,k2,g2⟩:=Q0 ns 11;obtain⟨w,hw⟩:∃w:Nat,1+v0%3=w:=⟨(1+v0%3).toNat,by lia⟩;obtain⟨h,hh⟩:∃h:Nat,1+v0/4%3=h:=⟨(1+v0/4%3).toNat,by lia⟩;obtain⟨n,YY⟩:∃n:Nat,g%4=n:=⟨(g%4).toNat,by lia⟩;have w1:1<=w/\w<=3:=by lia
 have h1:1<=h/\h<=3:=by lia
 obtain⟨x,x1,x2⟩:=Uf j (b:=w) (by lia);obtain⟨y,y1,y2⟩:=Uf (j/4) (b:=h) (by lia);obtain⟨u,u1,u2⟩:=Uf (j/16) (b:=w) (by lia);obtain⟨v,e1,e2⟩:=Uf (j/64) (b:=h) (by lia);obtain⟨T,t1,t2,t3⟩:=Z2o ns g (w:=w) (h:=h) (by lia) (by lia) (ú n) [] .no (by simp;lia);rw[ϊ]at t1;rw[wP]at t2;obtain⟨D,d1,d2,d3,d4⟩:=Z68 ns k1 g1;have X:En w h x y u v D:=⟨w1,h1,x2,y2,u2,e2,d2,d3,d4⟩;have Y:Tg T:=⟨by lia,t3⟩;have dz:∀d∈D,Zq d:=λd hd=>(d3 d hd).1;have en:=Z5z (x:=x) (y:=y) (u:=u) (v:=v) (by lia);have tx:=Z2I (w:=w) (h:=h) (by lia) (by lia) t3 (by lia) dz (by lia) (st:=.bw<|T.map cw) (sd:=.bw<|(D.map zV).map Ϸ) (.inr rfl)<|.inr rfl;have ty:=Z2I (w:=w) (h:=h) (T:=[]) (by lia) (by lia) (by simp) (by simp) dz (by lia) (st:=.sh<|.lst []) (sd:=.bw<|(D.map zV).map Ϸ) (.inl rfl)<|.inr rfl;have dk:=Z2Q (XA (w:=w) (h:=h) (by lia) (by lia) t3 (by lia) dz (by lia) d4);have db:=Z2Q (XA (w:=w) (h:=h) (T:=[]) (by lia) (by lia) (by simp) (by simp) dz (by lia) d4);have as:=ZL X Y (sd:=.bw<|(D.map zV).map Ϸ) (s2:=.sh<|.tup [.int w,.int h])<|.inr rfl;obtain⟨zs,c1,c2⟩:∃zs:List Int,cx (ns.map PV.int) (Α 12) (Α 14)=zs.map PV.int/\zs.length<=2:=by refine⟨(ns.drop<|min 12 ns.length).take (min 14 ns.length-min 12 ns.length),?_,by simp;lia⟩;have a:=HT.mX (ns.map PV.int).length 0 12;have b:=HT.mX (ns.map PV.int).length (ns.map PV.int).length 14;unfold cx;change HT.kO _ _ (Α 12)=_ at a;change HT.kO _ _ (Α 14)=_ at b;rw[a,b,ģ,List.map_take,List.map_drop]
 obtain⟨B,b1,b2,a2,a3,a4,Y_,EI,N4,N5,j3,j4,lp⟩:=Z42 X Y (ns.map PV.int) (Z5 w h x y u v D T) (.sh<|.int j) .no (by lia) zs [] (.sh<|.int g) (.ow<|T.map cw) (.ow<|(D.map zV).map Ϸ) .no .no .no .no (by simp) (by simpa using c2) (.inl rfl) (.inl rfl);obtain⟨Ut,tk⟩:=Z2P X Y (ns.map PV.int) (Z5 w h x y u v D T) (.sh<|.int j) (by lia) a2 a4 (lf<|Z4 w h [] D) (.sh<|.int B.length) Y_ EI N4 N5 j3 B (ú B.length) .no (by simp) b2;rw[cZ]at lp;have r1:=ZI (n:=n) (by lia);have r2:=ZI (n:=B.length) (by lia);have eq:=Z6c X T;obtain⟨s4,h4⟩:∃s4,ϲ a4=Α s4:=by rcases j4 with rfl|rfl<;>exact⟨_,rfl⟩
 have ae:=ZL X Y (sd:=s4) (s2:=.sh<|.tup [.int w,.int h]) (by rcases j4 with rfl|rfl<;>cases h4<;>first|exact .inl rfl|exact .inr rfl);have w0:¬w=0:=by lia
 have h0:¬h=0:=by lia
 have ld:∀Y,ϲ (lf Y)=Α (Zj Y):=λz=>rfl;clear t3 d3 dz b1 Y X d4;change Ŭ _ _ _ [_,_,_,_,_,_,_,_,_,_,.sh<|.int 0,_,_,_,_,_]=_ at lp;unfold Z4 at*;generalize ns.map PV.int=L,T.map cw=TW,(D.map zV).map Ϸ=DV,sV (yY w h T D)=TX,sV (yY w h [] D)=TY,Z0 w h T (D.map zV)=YT,Z0 w h [] (D.map zV)=YN,Z0 w h (T++B) (D.map zV)=YB,Z5 w h x y u v D T=AK,sV (Zd x y u v)=EN,zs.map PV.int=ZS,(ú n).map (λ(i:Nat)=>PV.int (i:Int))=R1,(ú B.length).map (λ(i:Nat)=>PV.int (i:Int))=R2 at*;have key:Rt yX (Ğ 16 [.sh<|.lst L]):=by unfold yX;refine ZR (ρ1:=[.sh<|.lst L,.sh<|.tup [.int w,.int h],.no,.no,.no,.no,.no,.no,.no,.no,.no,.no,.no,.no,.no,.no]) (by simp[Ğ,ý,k0,hw,hh]) ?_;refine ZR (ρ1:=[.sh<|.lst L,.sh<|.tup [.int w,.int h],.sh<|.int g,.no,.no,.no,.no,.no,.no,.no,.no,.no,.no,.no,.no,.no]) (by simp[k1]) ?_;refine ZR (ρ1:=[.sh<|.lst L,.sh<|.tup [.int w,.int h],.sh<|.int g,.ow TW,.no,.no,.no,.no,.no,.no,.no,.no,.no,.no,.no,.no]) (by simp[YY,r1,t1,iZ,dW]) ?_;refine ZR (ρ1:=[.sh<|.lst L,.sh<|.tup [.int w,.int h],.sh<|.int g,.ow TW,.ow DV,.no,.no,.no,.no,.no,.no,.no,.no,.no,.no,.no]) (by simp[d1]) ?_;refine ZR (ρ1:=[.sh<|.lst L,.sh<|.tup [.int w,.int h],.sh<|.int g,.ow TW,.ow DV,.sh<|.int j,.no,.no,.no,.no,.no,.no,.no,.no,.no,.no]) (by simp[k2]) ?_;refine ZR (ρ1:=[.sh<|.lst L,.sh<|.tup [.int w,.int h],.sh<|.int g,.ow TW,.ow DV,.sh<|.int j,.sh EN,.no,.no,.no,.no,.no,.no,.no,.no,.no]) (by simp[x1,y1,u1,e1,w0,h0,en]) ?_;refine Z51 (as:=[.sh TX]) (ρ1:=[.sh<|.lst L,.sh<|.tup [.int w,.int h],.sh<|.int g,.ow TW,.ow DV,.sh<|.int j,.sh EN,.no,.no,.no,.no,.no,.no,.no,.no,.no]) (by simp[tx]) dk ?_;refine Z51 (as:=[.sh TY]) (ρ1:=[.sh<|.lst L,.sh<|.tup [.int w,.int h],.sh<|.int g,.ow TW,.ow DV,.sh<|.int j,.sh EN,lf YT,.no,.no,.no,.no,.no,.no,.no,.no]) (by simp[ty]) db ?_;refine ZR (ρ1:=[.sh<|.lst L,.sh<|.tup [.int w,.int h],.sh<|.int g,.ow TW,.ow DV,.sh<|.int j,.sh EN,lf YT,lf YN,.sh AK,.no,.no,.no,.no,.no,.no]) (by simp[as,ld]) ?_;refine ZR (ρ1:=[.sh<|.lst L,.sh<|.tup [.int w,.int h],.sh<|.int g,.ow TW,.ow DV,.sh<|.int j,.sh EN,lf YT,lf YN,.sh AK,.sh<|.int 0,.no,.no,.no,.no,.no]) (by simp) ?_;refine ZR (by simp[c1,lp];rfl) ?_;refine ZR (by simp[r2,tk];rfl) ?_;exact⟨_,by simp[ae,h4,eq,ld];rfl⟩
 obtain⟨c,e⟩:=key;show FR.of (yX _)=_;rw[e];rfl
def Zl{l:mV}{K:ip->Ï}(j:l.most=Α 63)(r:d.params.defaults=[])
 (n:∀(w:ã) (h:Ô),p w h->(K w.params).In h)
 (F:∀(w:ã) (mg:Str→Option Á) (c:À) (h:Ô),(K w.params).In h→h.Ns đ mg→mg d.name=Α (.ref c)→
   ∃b:ą,(∀(s:Ä) (u:Á),fV s b ⟨[u],[]⟩ [("_law_script",u)])/\∀base:Ô,(K w.params).In base->base.Ns đ mg->∃o,Ϲ l.prog w (K w.params) mg base ze 16 c b ["_law_script"] (rj ⟨K w.params,o⟩ 1 Ar))
 (hnt:∀w:ã,tD (K w.params)=Δ)(hrec:∀y,y∈lams->∃d,(sK q).find? (λe=>e.name==y)=Α d):
 tz q nV XP p l.row.toRowW d [] (λf vs=>sO f vs):=
 P.F_ j r ⟨rfl,by decide,by decide⟩ n F Z4O (λx x x x z=>z) (hnt:=λx=>hnt) (hrec:=hrec)
end
end T
open PySem PySem.W PyProof.Rows
set_option maxRecDepth 100000 in
set_option maxHeartbeats 0 in
set_option tactic.hygienic true in
theorem PySem.Challenge.cw_shadowpost_k83_whole_more_never_lights_holds : PySem.Challenge.rw_shadowpost_k83_whole_more_never_lights.Holds := by
 refine Tp ?_
 k_fill
 refine T.Zl (l:=PySem.Challenge.rw_shadowpost_k83_whole_more_never_lights) rfl rfl (λw h Y=>by first|exact PySem.W.kIn_of Y|exact PySem.W.km_in_of Y) ?F ?hnt ?hrec
 case hnt=>intro w;kernel_rfl
 case hrec=>
  intro y hy;have e:y=È "best_step":=by simpa[L2.lams]using hy
  subst e;exact⟨_,rfl⟩
 case F=>
  intro w mg fa h KX G Rf;apply T.okL (V:=⟨_,w,Tp.heap_39 w.params,mg,P.cmK<|Tp.heap_39 w.params⟩)
  any_goals first|exact Rf|apply P.WB KX G|apply P.WC KX G|apply P.WP KX G|apply P.WD KX G|apply P.WE KX G|apply P.WF KX G (by (repeat intro _);rfl)|apply P.WG KX G (by (repeat intro _);rfl)|apply P.WH (by (repeat intro _);rfl)|apply P.WI (by (repeat intro _);rfl)|apply P.WJ (by (repeat intro _);rfl)|apply P.WS|apply P.WL KX G (by (repeat intro _);rfl)|apply P.WK KX G (by (repeat intro _);rfl)|apply P.Mp|apply P.Nw
  any_goals first|kernel_rfl|(unfold P.Na L2.fu;kernel_rfl)
  all_goals skip
