import PyProof.Rows.All
import Wide.FinOn
import KE.KNestM
import KE.KIsAll
import KE.KxText
import KE.KIntText
import KE.KUnpack
import KE.KItem
import KE.BitLaws
import KE.IntBitsLaws
import PyProof.EqAt
import PyProof.EqKinds
import PyProof.TupleCall
import PySem.Challenge.RW_shadowpost_k84_whole_hours_two_ways
set_option Elab.async false
set_option linter.all false
set_option bootstrap.genMatcherCode false
set_option backward.eqns.nonrecursive false
set_option genSizeOf false
set_option maxRecDepth 100000
set_option maxHeartbeats 4000000
set_option hygiene false in
local macro_rules|`(command|#where)=>do
 let f(s:String)(l:List Nat):=l.mapM λi=>let x:=Lean.mkIdent ((`PySem.W.Fast).str ("tw"++toString ((`Tp).str (s++toString i)).hash));`(theorem $x:ident :True:=trivial)
 return Lean.mkNullNode ((<-f "o_" (List.range' 43 1095))++(<-f "tree_" [47,63,78,93,115,137,159,174,222,303,380,420,476,556,610,632,654,676,696,746,823,901,982,1036,1096,1137])++(<-f "sts_" [49,64,79,94,116,138,160,175,223,304,381,421,477,557,611,633,655,677,697,747,824,902,983,1039,1097])++(<-f "heap_" [39,46,1138])++(<-f "view_" [39])++(<-f "env_" [41])).toArray
#where
theorem PySem.W.Fast.tw6278170280725150906:True:=trivial
theorem PySem.W.Fast.tw5501762323176321805:True:=trivial
set_option maxHeartbeats 0 in
open_top Tp for PySem.Challenge.rw_shadowpost_k84_whole_hours_two_ways
noncomputable section
open Array renaming length_toList->cZ
open Bool renaming and_eq_true->ú,not_eq_true'->wm,false_ne_true->aG,or_false->wo,false_eq_true->rC,eq_iff_iff->dZ,or_eq_true->gI,false_or->wp,and_true->ŭ
open Char renaming toNat->aH
open Classical renaming choose->Bv,byContradiction->Bw
open False renaming elim->aI
open ForInStep renaming yield->gJ
open Function renaming comp_def->wq
open Inhabited renaming default->gK
open Int renaming natCast_nonneg->lr,fdiv_eq_ediv_of_nonneg->nZ,fmod_eq_emod_of_nonneg->rD,toNat_natCast->rE,le_ediv_iff_mul_le->Bx,fmod_nonneg_of_pos->By,natAbs_mul->rG,mul_nonneg->wr,eq_ofNat_of_zero_le->rH,natCast_add->wt,natCast_mul->lu,ofNat_lt->wu,mul_add->rJ
open List renaming range->ß,mem_filter->wv,mem_range->Ţ,filterMap_cons->rK,mem_cons_self->ł,mem_cons_of_mem->õ,mem_cons->þ,mem_append->Ů,mem_append_left->n_,getElem?_eq_some_iff->fC,getElem_inj->ww,getElem?_set_self->oa,getElem?_set_ne->lv,mem_filterMap->wx,mem_append_right->d_,size_toArray->Ĩ,length_cons->Ĕ,length_nil->fE,any_eq_false->wy,lookup->fF,map_cons->Ó,length_map->Ę,append_nil->jw,nodup_cons->Ž,of_mem_zip->rM,replicate->ç,length->bq,length_take->rN,getElem?_append_right->lx,getElem?_replicate->jy,getElem?_append_left->fG,getElem?_map->ů,mem_of_getElem?->wz,length_append->ő,length_set->wA,replicate_succ->fH,flatten_cons->jz,append_assoc->ly,foldl_cons->br,length_singleton->Bz,nil_append->ϕ,map_nil->ž,all_eq_true->cy,lookup_cons->Ř,forIn_cons->og,forIn_nil->wB,mem_iff_getElem->rP,getD_eq_getElem?_getD->aJ,getElem?_eq_getElem->ţ,getElem_mem->Œ,length_range->rQ,drop_zero->lz,take_of_length_le->wD,eq_nil_of_length_eq_zero->wE,map_map->ę,map_congr_left->lA,drop_eq_getElem_cons->fI,drop_eq_nil_of_le->gL,getElem?_eq_none->wF,length_eq_zero_iff->rS,contains_cons->wG,cons_append->c_,getElem?_cons_succ->oh,mem_singleton->rT,not_mem_nil->aK,any_cons->bt,findSome?_cons->lB,map_append->Ĝ,append_inj'->wH,getElem?_of_mem->BA,mem_map->Đ,nodup_append->oi,range'->aL,range'_succ->gM,take_succ_cons->BC,take_zero->rW,getElem_of_mem->wI,find?_cons->da,getElem?_set->gO,mem_map_of_mem->rX,all_cons->ſ,dropLast_concat->rY,set_cons_succ->eh,set_cons_zero->en,getElem?_cons_zero->BD,flatMap_cons->oj,forall_mem_cons->om,length_pos_iff->BE,range_eq_range'->jA,mem_of_getLast?->BF,sum_cons->ϖ,range_succ->rZ,length_filter_le->wJ,getElem_map->wK,filter_cons->r_,all_nil->ϗ,take_succ_eq_append_getElem->BG,filter_map->wL
open List.Pairwise renaming nil->BH
open List.cons renaming injEq->BI
open Nat renaming lt_of_lt_of_le->Ť,lt_irrefl->eo,ne_of_lt->Ņ,le_trans->ř,le_of_lt->on,ne_of_gt->db,le_refl->ø,le_of_eq->se,lt_succ_self->si,zero_le->bu,add_comm->oo,mul_comm->lC,lt_trans->wM,lt_succ_of_lt->sj,mul_le_mul->eA,le_succ->wN,one_mul->wO,testBit_mul_two_pow->BJ,pow_le_pow_right->sk,add_mul->sq,mod_lt->cz,mod_eq_sub_div_mul->BK,testBit_or->wP,testBit_lt_two_pow->wQ,toDigits->Ϭ,div_add_mod->wR,min_eq_left->wS
open Ne renaming symm->đ
open OfNat renaming ofNat->ϊ
open Option renaming isSome_some->BL,map_eq_some_iff->eB,bind_eq_some_iff->oq,map_some->wT
open Option.some renaming inj->Ś
open Or renaming inl->ϭ,inr->gP
open Pure renaming pure->ì
open PyProof.Rows renaming AllBare->fJ,callWith_type1->sr,envOfC->Ϙ,subscriptTail->wU,IntsAre->lE,ext_toList->BM,boot_abs->su,boot_divmod->BO,boot_str->lF,boot_list->eC,boot_all->jB,boot_int->BP,boot_tuple->BQ,boot_max->wV,boot_min->wW,boot_sum->wX
open PySem renaming Value->Á,World->Þ,Program->ä,Addr->À,Heap->Ñ,sysModules->cA,tupleKind->ou,Within->wY,mainGlobals->Ĥ,bootBuiltins->gQ,Around->ê,Shared->Ã,Scope->û,Model->fK,wpAny->Ï,Expr->È,model->Ö,backTo->Ĉ,starEach->Ð,Stmt->í,wpAny_mono->Ϯ,wpAny_execs_nil->oy,swapsWith->ņ,assign->de,assignEach->ϙ,Operator->oz,holding->cB,standAt->gR,wpAny_bind->Ò,wpAny_holding->lG,wpAny_standAt->oA,swapsWithSole->wZ,swappedStores->w_,PassesOwn->lH,wpAny_passesOwn->jC,pyNext->df,letOwnedTupleGo->sv,pyIter->gU,wpAny_pure->ĉ,rawInt->dg,foldedSetIterable->cC,binaryOp->Į,compareOp->ĭ,CmpOp->fL,behindInMarks->lI,sizeLine_eq->cD,wpAny_truthy_bool->fM,getMethod->lJ,codeAny->fN,attributeBase->dh,cLine->Ń,FuncData->ċ,BindsTo->fO,bindArgs->oB,Keyword->ϯ,NameKind->cE,cellsFrom->ś,mem_of_lookup->oC,Arguments->gW,wpAny_Call_Name_kw->lK,getItem->lL,subscripted->sw,typeIs_str->lM,sliceBounds->jD,backToKw->bv,keywordEach->bz,call_meets->jE,Params->gX,callerA->gY,call->sx,codeAny_mono->lN,DictEntry->gZ,PyData->aM,wpAny_newObj_type->xa,wpAny_pyIter_list->lO,eval->xb,wpAny_pyIter_tuple->xf,callWith->g_,ExceptHandler->oE,nums_intItems->sy,intItems->hG,numAt->di,Builtin->lP,IsEnum->bA,field->cF,wpAny_field->ϋ,wpAny_setField_rec->dm,wpAny_rule->sA,wpAny_letGo->sB,wpAny_attempt->sC,wpAny_callSpecial?_slot->lQ,wpAny_call_entry->lR,wpAny_pyIter_enum->xg,wpAny_seqItems->hU,Draws->eD,IsZip->ϰ,IsPair->œ,wpAny_onRaise->sD,wpAny_updateSeq_pair->xh,boot_len->ĩ,Str->Ϛ,evalEach->oG,intText?->oH,valueAt->jF,atKey->fP
open PySem.Around renaming under->xi
open PySem.Builtin renaming bitAnd->eE,bitOr->eG,bitNot->ac
open PySem.Builtin.Int renaming intBits->sE
open PySem.Builtin.List renaming listTooLong->sG
open PySem.Builtin.SmallTypes renaming ownedTupleIsFree->lS,ownedTupleHandOut->sI,nextOf->hV
open PySem.Builtin.Str renaming strSliceIndices->lU,occurrences->jG,strKind->lV
open PySem.Calls renaming Name_function_global->BR
open PySem.Code renaming isFrame->xj
open PySem.Data renaming fields->xk,cell->oI
open PySem.F renaming slot_list_append->bB,slot_list_extend->xl,called_enumerate->xm,slot_enumerate_next->sJ,entry_enumerate_next->BS,args_enumerate_next_1->BU,slot_tuple_iterator_next->sK,entry_tuple_iterator_next->BV,args_tuple_iterator_next_1->BW,slot_zip_next->sM,plainAttrs_list->aN,type_list_append->cG,slot_str_split->jH,entry_str_split->xn,args_str_split_2->xp,plainAttrs_str->cH,slot_str_join->lW,type_str_join->lX,slot_str_startswith->BX,type_str_startswith->BY,type_str_split->sN,type_list_extend->BZ
open PySem.Heap renaming lt_size->ā,SameBut->Ŝ,get?_push_of_some->Ă,get?_push_size->į,size_push->ϱ,get?_update_self->B_,get?_update_other->B0,ExtBut->sO
open PySem.Heap.SameBut renaming update->B1
open PySem.NameKind renaming free->cI,cell->h_
open PySem.Obj renaming mapSeq->oJ
open PySem.PassesOwn renaming leaving->ĝ
open PySem.PyData renaming eqv->ĸ,strOk->Ě,canLay0->xq,canLayAll0->jI,eqvAll->oK
open PySem.Shared renaming heap->xr
open PySem.Str renaming empty->fQ,length->bC,ofString->Å,ext'->eI,cps_append->sP
open PySem.Value renaming isStrOf->eJ,int->oM,str->lY,bool->fR,ref->ť,type->xt
open PySem.Value.type renaming inj->B3
open PySem.W renaming instObj->fS,methodObj->xu,Frag->Î,tabIn->cJ,CodeHd->xv,lookIn->sQ,plainGet->oN,hasDictIn->sR,findIn->ϛ,handedIn->B4,plainGet_of->xw,isFn->oO,plainOver->xx,takerIn->xy,makesIn->xz,emptyDict->eK,keepIn->bE,cellsFrom_some->B5,fnOf->aO,codeIn->lZ,OpenLaw->l_,WalkO->sS,noTabs->xA,callWith_K->oP,methodCall_KW->B6,nsIn->eL,mg_of->sT
open PySem.W.KIN renaming val_back->B7
open Sum renaming inl->jJ,inr->ŝ
open Sum.inr renaming inj->xB
open ToString renaming toString->bF
namespace L2
open PySem PySem.Spec PyProof.Rows
abbrev Key:=Sum Int Str
noncomputable def vf:Key->Á->Bool
 |.inl k,v=>Value.isInt k v|.inr x,v=>eJ x v
noncomputable def S4(w:Þ):Key->Int
 |.inl k=>hashInt k|.inr x=>hashStr w x
theorem Ϝ:∀{k:Key}{v:Á},vf k v=true->(∃i t,k=jJ i/\v=oM i t)\/(∃x t,k=ŝ x/\v=lY x t)
 |.inl i,v,h=>by obtain⟨t,e⟩:=Value.isInt_shape (k:=i) (v:=v) h;exact .inl ⟨i,t,rfl,e⟩|.inr x,v,h=>by obtain⟨t,e⟩:=Value.isStrOf_shape (x:=x) (v:=v) h;exact .inr ⟨x,t,rfl,e⟩
def Dj(i:Int)(t:Tok):vf (.inl i) (.int i t)=true:=by simp[vf,Value.isInt]
def Dk(x:Str)(t:Tok):vf (.inr x) (.str x t)=true:=by simp[vf,eJ]
def Kh(a b:Int):decide ((jJ a:Key)=jJ b)=(a==b):=by
 by_cases e:a=b
 ·subst e;simp
 ·have h:¬(jJ a:Key)=jJ b:=λq=>e<|Sum.inl.inj q;rw[decide_eq_false h];exact(beq_eq_false_iff_ne.mpr e).symm
def Ki(a b:Str):decide ((ŝ a:Key)=ŝ b)=decide (a=b):=by
 by_cases e:a=b
 ·subst e;simp
 ·have h:¬(ŝ a:Key)=ŝ b:=λq=>e<|xB q;rw[decide_eq_false h,decide_eq_false e]
def Kj(a:Int)(b:Str):decide ((jJ a:Key)=ŝ b)=false:=decide_eq_false<|λq=>nomatch q
def Kk(a:Str)(b:Int):decide ((ŝ a:Key)=jJ b)=false:=decide_eq_false<|λq=>nomatch q
def aP(prog:ä)(w:Þ):PySem.KeyKind prog w Key where
 is:=vf
 hash:=S4 w
 inj:=λv a b ha hb=>by
  rcases Ϝ ha with⟨i,t,rfl,rfl⟩|⟨x,t,rfl,rfl⟩
  ·rcases Ϝ hb with⟨j,u,rfl,e⟩|⟨y,u,rfl,e⟩
   ·injection e with e1 _;rw[e1]
   ·exact nomatch e
  ·rcases Ϝ hb with⟨j,u,rfl,e⟩|⟨y,u,rfl,e⟩
   ·exact nomatch e
   ·injection e with e1 _;rw[e1]
 byValue:=λk v h=>by rcases Ϝ h with⟨i,t,rfl,rfl⟩|⟨x,t,rfl,rfl⟩<;>rfl
 pyHash:=λhv h=>by
  rcases Ϝ hv with⟨i,t,rfl,rfl⟩|⟨x,t,rfl,rfl⟩
  ·exact wpAny_pyHash_int h
  ·exact wpAny_pyHash_str h
 eqBool:=λhu hv h=>by
  rcases Ϝ hu with⟨i,t,rfl,rfl⟩|⟨x,t,rfl,rfl⟩
  ·rcases Ϝ hv with⟨j,u,rfl,rfl⟩|⟨y,u,rfl,rfl⟩
   ·rw[Kh]at h;exact wpAny_eqBool_int h
   ·rw[Kj]at h;exact SeqAt.EqAt.int_str i t y u _ _ _ _ h
  ·rcases Ϝ hv with⟨j,u,rfl,rfl⟩|⟨y,u,rfl,rfl⟩
   ·rw[Kk]at h;exact SeqAt.EqAt.str_int x t j u _ _ _ _ h
   ·rw[Ki]at h;exact wpAny_eqBool_str h
 «strs» :=fun k x t v h=>by
   rcases Ϝ h with⟨i,u,rfl,e⟩|⟨y,u,rfl,e⟩
   ·exact nomatch e
   ·injection e with e1 _
    subst e1;cases v<;>rfl
def za(prog:ä)(w:Þ)(i:Int)(t:Tok):(aP prog w).is (.inl i) (.int i t)=true:=Dj i t
def zb(prog:ä)(w:Þ)(x:Str)(t:Tok):(aP prog w).is (.inr x) (.str x t)=true:=Dk x t
inductive V where
 |non|bl (b:Bool)|int (i:Int)|str (x:Str)|Jr (b:Array UInt8)|flt (b:UInt64)|ref (a:À)|ty (n:String)
 deriving DecidableEq
def RelV:V->Á->Prop
 |.non,u=>u=Value.none|.bl b,u=>u=fR b|.int i,u=>∃t,u=oM i t|.str x,u=>∃t,u=lY x t|.Jr b,u=>∃t,u=Value.bytes b t|.flt b,u=>∃t,u=Value.float b t|.ref a,u=>u=ť a|.ty n,u=>u=xt n
abbrev ĳ:List V->List Á->Prop:=Paired RelV
theorem ĳ.length{xs:List V}{us:List Á}(r:ĳ xs us):xs.length=us.length:=Paired.length r
theorem ĳ.get:∀{xs:List V}{us:List Á}{i:Nat}{x:V},ĳ xs us->xs[i]?=some x->∃u,us[i]?=some u/\RelV x u
 |_,_,_,_,.nil,e=>by simp at e|_,_,0,_,.cons r _,e=>by simp at e;subst e;exact⟨_,rfl,r⟩|_,_,i+1,x,.cons _ t,e=>by obtain⟨u,h1,h2⟩:=ĳ.get (i:=i) (x:=x) t (by simpa using e);exact⟨u,by simpa using h1,h2⟩
theorem ĳ.set{x:V}{u:Á}(r:RelV x u):∀{xs:List V}{us:List Á} (i:Nat),ĳ xs us->ĳ (xs.set i x) (us.set i u)
 |_,_,_,.nil=>.nil|_,_,0,.cons _ t=>.cons r t|_,_,i+1,.cons q t=>.cons q<|ĳ.set r i t
theorem ĳ.append:∀{xs ys:List V}{us ws:List Á},ĳ xs us->ĳ ys ws->ĳ (xs++ys) (us++ws)
 |_,_,_,_,.nil,s=>s|_,_,_,_,.cons r t,s=>.cons r<|ĳ.append t s
theorem ĳ.take:∀{xs:List V}{us:List Á} (n:Nat),ĳ xs us->ĳ (xs.take n) (us.take n)
 |_,_,0,_=>.nil|_,_,_+1,.nil=>.nil|_,_,n+1,.cons r t=>.cons r<|ĳ.take n t
theorem ĳ.drop:∀{xs:List V}{us:List Á} (n:Nat),ĳ xs us->ĳ (xs.drop n) (us.drop n)
 |_,_,0,r=>r|_,_,_+1,.nil=>.nil|_,_,n+1,.cons _ t=>ĳ.drop n t
def mO:Option V->Option Á->Prop
 |some v,some u=>RelV v u|none,none=>True|_,_=>False
def KV{κ:Type}:List (κ×V)->List (κ×Á)->Prop:=Paired λ(p:κ×V) (q:κ×Á)=>p.1=q.1/\RelV p.2 q.2
noncomputable def kV:Key->V
 |.inl i=>.int i|.inr x=>.str x
inductive HO where
 |lst (xs:List V)
 |tup (xs:List V)
 |dK (ı:List (Key×V))|dT (ı:List (List Key×V))
 |set (S:Int->Bool) (n:Nat)
 |ins (C dx:À) (fs:List (Str×V))
 |own (x:À)
 |xd (fs:List (Str×V))
 |met (f x:À)
 |rng (lo hi:Int)
 |gj (o:Obj) (u:HO)
 |am (q:Str)
 |Kl (q:Str)
 |ext (φ:Ñ->Prop)
abbrev Hp:=À->Option HO
noncomputable def upd(H:Hp)(a:À)(o:HO):Hp:=λb=>if b=a then some o else H b
def ö{H:Hp}{a:À}{o:HO}:upd H a o a=some o:=by unfold upd;rw[if_pos rfl]
def î{H:Hp}{a b:À}{o:HO}(h:b≠a):upd H a o b=H b:=by unfold upd;rw[if_neg h]
def NV{H:Hp}{a b:À}{o u:HO}(h:H a=some o)(h':H b=some u)(d:o≠u):a≠b:=by intro e;subst e;rw[h]at h';exact d<|Ś h'
def Ň{H:Hp}{a b:À}{o:HO}(h:H a=some o)(h':H b=none):a≠b:=by intro e;subst e;rw[h]at h';cases h'
section
variable(P:ä)(w:Þ)
def bS(H:Hp)(h:Ñ)(a:À):HO->Prop
 |.lst xs=>xs.length<=sizeLine/\∃(č:List Á) (n:Nat),ĳ xs č/\h.get? a=some {cls:=.type "list",data:=.seq č.toArray n}|.tup xs=>xs.length<=sizeLine/\∃č:List Á,ĳ xs č/\IsTup h a č.toArray|.dK ı=>ı.length<=sizeLine/\(a==cA)=false/\∃vs,KV ı vs/\h.DictOf (aP P w) a vs|.dT ı=>ı.length≤sizeLine∧(a==cA)=false∧∃xs:List (List Key×À×Á),
     Paired (λ(p:List Key×V) (q:List Key×À×Á)=>p.1=q.1/\H q.2.1=some (.tup<|p.1.map kV)/\RelV p.2 q.2.2) ı xs/\
     ∃o es ep,h.get? a=some o/\o.ExactDict/\o.data=.dict es ep/\es.toList=xs.map (entryOfKey<|ou<|aP P w)/\(xs.map (·.1)).Nodup
 |.set S n=>h.SetOf (intKind P w) a S n|.ins C dx fs=>H dx=some (.own a)∧fs.length≤1000∧dx≠a∧h.get? a=some (fS C dx)∧
     ∃mA,h.Ns1 dx mA/\(∀f,mO (fs.lookup f)<|mA f)/\wY mA (fs.map (·.1))
 |.own _=>∃o,h.get? a=some o|.xd fs=>∃mA,h.Ns1 a mA/\∀f,mO (fs.lookup f)<|mA f|.rng lo hi=>∃t u v,h.get? a=some {cls:=.type "range",data:=.fields #[.int lo t,.int hi u,.int 1 v]}|.gj o u=>h.get? a=some o/\bS H h a u|.am q=>∃ps:Array Á,h.get? a=some {cls:=.none,data:=.fields ps}/\TriplesOk ps.toList/\∀pos cv,codeAmong pos ps.toList=some cv->∃c,cv=.ref c/\H c=some (.Kl q)|.Kl q=>h.CodeRec (.ref a) q|.met f x=>h.get? a=some (xu (.ref f)<|.ref x)|.ext φ=>φ h/\(∃o,h.get? a=some o)/\∀h1 h2:Ñ,φ h1->(∀o,h1.get? a=some o->h2.get? a=some o)->φ h2
def kC(H:Hp)(h:Ñ):Prop:=∀a o,H a=some o->bS P w H h a o
end
section
variable{P:ä}{w:Þ}{H H':Hp}{h h':Ñ}{a:À}{o:HO}
theorem bS.lt(x:bS P w H h a o):a<h.objs.size:=by
 cases o with
 |lst xs=>obtain⟨_,_,_,_,e⟩:=x;exact ā e|tup xs=>obtain⟨_,_,_,p⟩:=x;exact p.lt|dK ı=>obtain⟨_,_,_,_,o,_,_,e,_⟩:=x;exact ā e|dT ı=>obtain⟨_,_,_,_,o,_,_,e,_⟩:=x;exact ā e|set S n=>obtain⟨o,_,_,_,e,_⟩:=x;exact ā e|ins C dx fs=>obtain⟨_,_,_,e,_⟩:=x;exact ā e|own y=>obtain⟨_,e⟩:=x;exact ā e|xd fs=>obtain⟨_,⟨_,_,_,e,_⟩,_⟩:=x;exact ā e|rng lo hi=>obtain⟨_,_,_,e⟩:=x;exact ā e|gj ob u=>obtain⟨e,_⟩:=x;exact ā e|am q=>obtain⟨_,e,_⟩:=x;exact ā e|Kl q=>obtain⟨c,o,_,_,z,e,_⟩:=x;cases z;exact ā e|met f y=>exact ā<|show h.get? a=some _ from x|ext φ=>obtain⟨_,⟨_,e⟩,_⟩:=x;exact ā e
theorem Paired.Hk{α β:Type}{F G:α->β->Prop}:∀{l₁:List α}{l₂:List β},Paired F l₁ l₂->(∀a b,F a b->G a b)->Paired G l₁ l₂
 |_,_,.nil,_=>.nil|_,_,.cons r t,f=>.cons (f _ _ r)<|Paired.Hk t f
def bS.stay(x:bS P w H h a o)(k:∀b u,(b=a\/H b=some (.own a))->h.get? b=some u->h'.get? b=some u)
 (ho:∀b,H b=some (.own a)->H' b=some (.own a))(ht:∀b xs,H b=some (.tup xs)->H' b=some (.tup xs))(hc:∀b q,H b=some (.Kl q)->H' b=some (.Kl q):=by exact λ_ _ z=>z):bS P w H' h' a o:=by
 induction o with
 |lst xs=>obtain⟨z,č,n,r,e⟩:=x;exact⟨z,č,n,r,k _ _ (.inl rfl) e⟩|tup xs=>obtain⟨z,č,r,ob,e,c⟩:=x;exact⟨z,č,r,ob,k _ _ (.inl rfl) e,c⟩|dK ı=>obtain⟨z,y,vs,r,ob,es,ep,e,c⟩:=x;exact⟨z,y,vs,r,ob,es,ep,k _ _ (.inl rfl) e,c⟩|dT ı=>obtain⟨z,y,xs,r,ob,es,ep,e,c⟩:=x;exact⟨z,y,xs,Paired.Hk r λp q z=>⟨z.1,ht _ _ z.2.1,z.2.2⟩,ob,es,ep,k _ _ (.inl rfl) e,c⟩
 |set S n=>obtain⟨ob,es,ep,t,e,c⟩:=x;exact⟨ob,es,ep,t,k _ _ (.inl rfl) e,c⟩|ins C dx fs=>obtain⟨d,z,ne,e,mA,⟨od,es,ep,e2,c⟩,r⟩:=x;exact⟨ho _ d,z,ne,k _ _ (.inl rfl) e,mA,⟨od,es,ep,k _ _ (.inr d) e2,c⟩,r⟩|own y=>obtain⟨ob,e⟩:=x;exact⟨ob,k _ _ (.inl rfl) e⟩|xd fs=>obtain⟨mA,⟨od,es,ep,e,c⟩,r⟩:=x;exact⟨mA,⟨od,es,ep,k _ _ (.inl rfl) e,c⟩,r⟩|rng lo hi=>obtain⟨t,u,v,e⟩:=x;exact⟨t,u,v,k _ _ (.inl rfl) e⟩|gj ob u ih=>obtain⟨e,q⟩:=x;exact⟨k _ _ (.inl rfl) e,ih q⟩|am q=>obtain⟨ps,e,t,r⟩:=x;exact⟨ps,k a _ (.inl rfl) e,t,λpos cv z=>let ⟨c,z1,z2⟩:=r pos cv z;⟨c,z1,hc c q z2⟩⟩
 |Kl q=>obtain⟨c,o,vs,t,z,e,r⟩:=x;cases z;exact⟨a,o,vs,t,rfl,k a _ (.inl rfl) e,r⟩|met f y=>have e:h.get? a=some (xu (.ref f)<|.ref y):=x;show h'.get? a=some (xu (.ref f)<|.ref y);exact k a _ (.inl rfl) e|ext φ=>obtain⟨p,⟨o,e⟩,st⟩:=x;exact⟨st _ _ p λo q=>k _ _ (.inl rfl) q,⟨o,k _ _ (.inl rfl) e⟩,st⟩
theorem kC.lt(x:kC P w H h)(e:H a=some o):a<h.objs.size:=(x a o e).lt
def kC.fresh(x:kC P w H h)(e:h.objs.size<=a):H a=none:=by
 cases q:H a with
 |none=>rfl|some u=>exact absurd (Ť (x.lt q) e)<|eo _
def kC.kept(x:kC P w H h)(k:∀b u,h.get? b=some u->h'.get? b=some u):kC P w H h':=λa o e=>
 (x a o e).stay (λb u _ q=>k b u q) (λ_ q=>q) λ_ _ q=>q
def kC.laid(x:kC P w H h)(k:∀b u,h.get? b=some u->h'.get? b=some u)(hp:h.objs.size<=a)(new:bS P w (upd H a o) h' a o):kC P w (upd H a o) h':=λb u e=>by
 have hn:=x.fresh hp;by_cases hb:b=a
 ·subst hb;rw[ö]at e;cases e;exact new
 ·rw[î hb]at e;exact(x b u e).stay (λc v _ q=>k c v q) (λc q=>by rw[î<|Ň q hn];exact q) (λc xs q=>by rw[î<|Ň q hn];exact q) λc xs q=>by rw[î<|Ň q hn];exact q
end
def Rd(H:Hp)(a:À)(u:HO):Prop:=H a=some u\/∃o,H a=some (.gj o u)
def Rd.ok{P:ä}{w:Þ}{H:Hp}{h:Ñ}{a:À}{u:HO}(r:Rd H a u)(x:kC P w H h):bS P w H h a u:=by
 rcases r with r|⟨o,r⟩
 ·exact x a u r
 ·obtain⟨_,q⟩:=x a _ r;exact q
def NW:Option HO->Prop
 |some (.lst _)=>True|some (.dK _)=>True|some (.dT _)=>True|some (.set _ _)=>True|some (.ins _ _ _)=>True|some (.ext _)=>True|some (.xd _)=>True|_=>False
section
variable{P:ä}{w:Þ}{H:Hp}{h h':Ñ}{x e:À}{o':HO}
def kC.write(ok:kC P w H h)(mu:NW (H x))(he:e=x\/H e=some (.own x))(k:∀b u,b≠e->h.get? b=some u->h'.get? b=some u)(NG:∃u,h'.get? e=some u)
 (new:bS P w (upd H x o') h' x o'):kC P w (upd H x o') h':=λb u q=>by
 have NX:∀c y,H c=some (.own y)->c≠x:=λc y r z=>by subst z;rw[r]at mu;exact mu
 have S5:∀c xs,H c=some (.tup xs)->c≠x:=λc xs r z=>by subst z;rw[r]at mu;exact mu
 have S6:∀c q,H c=some (.Kl q)->c≠x:=λc xs r z=>by subst z;rw[r]at mu;exact mu
 by_cases hb:b=x
 ·subst hb;rw[ö]at q;cases q;exact new
 ·rw[î hb]at q;by_cases yZ:b=e
  ·have q':H b=some (.own x):=by
    rcases he with z|z
    ·exact absurd (yZ.trans z) hb
    ·rw[yZ];exact z
   rw[q]at q';cases q';obtain⟨v,hv⟩:=NG;exact⟨v,by rw[yZ];exact hv⟩
  ·refine(ok b u q).stay (λc v hc r=>k c v ?_ r) (λc r=>by rw[î<|NX c b r];exact r) (λc xs r=>by rw[î<|S5 c xs r];exact r) λc xs r=>by rw[î<|S6 c xs r];exact r
   rcases hc with rfl|hc
   ·exact yZ
   ·rintro rfl;rcases he with z|z
    ·exact NX c b hc z
    ·rw[hc]at z;cases z;exact hb rfl
end
structure Un(fs ex:List À)(H H':Hp)(h h':Ñ):Prop where
 keep:∀b o,h.get? b=some o->H b=none->b∉fs->b∉ex->h'.get? b=some o
 slot:∀b o,h.get? b=some o->H b=none->b∈fs->b∉ex->∃sl,h'.get? b=some {o with slots:=sl}
 free:∀b o,h.get? b=some o->H b=none->b∉ex->H' b=none
 there:∀b o,h.get? b=some o->b∉ex->∃o',h'.get? b=some o'
 tups:∀b xs,H b=some (.tup xs)->H' b=some (.tup xs)
 uR:∀b o u,H b=some (.gj o u)->H' b=some (.gj o u)
 qZ:∀b q,H b=some (.am q)->H' b=some (.am q)
section
variable{fs ex:List À}{H H1:Hp}{h h1 h':Ñ}{a x e:À}{o:HO}
def Un.any(u:Un fs ex H H1 h h1){b:À}{ob:Obj}(q:h.get? b=some ob)(n:H b=none)(hx:b∉ex):∃sl,h1.get? b=some {ob with slots:=sl}:=by
 by_cases hb:b∈fs
 ·exact u.slot b ob q n hb hx
 ·exact⟨ob.slots,u.keep b ob q n hb hx⟩
def Un.kept(k:∀b u,h.get? b=some u->h'.get? b=some u):Un fs ex H H h h':=
 ⟨λb ob q _ _ _=>k b ob q,λb ob q _ _ _=>⟨ob.slots,k b ob q⟩,λ_ _ _ n _=>n,λb ob q _=>⟨ob,k b ob q⟩,λ_ _ q=>q,λ_ _ _ q=>q,λ_ _ q=>q⟩
def Un.refl:Un fs ex H H h h:=Un.kept λ_ _ q=>q
def Un.laid(k:∀b u,h.get? b=some u->h'.get? b=some u)(hp:h.objs.size<=a)(hn:H a=none):Un fs ex H (upd H a o) h h' where
 keep:=λb u q _ _ _=>k b u q
 slot:=λb u q _ _ _=>⟨u.slots,k b u q⟩
 free:=λb u q n _=>by rw[î<|Ņ<|Ť (ā q) hp];exact n
 there:=λb u q _=>⟨u,k b u q⟩
 tups:=λb xs q=>by rw[î<|Ň q hn];exact q
 uR:=λb u xs q=>by rw[î<|Ň q hn];exact q
 qZ:=λb ps q=>by rw[î<|Ň q hn];exact q
def Un.write(mu:NW (H x))(he:e=x\/H e=some (.own x))(k:∀b u,b≠e->h.get? b=some u->h'.get? b=some u)(NG:∃u,h'.get? e=some u):Un fs ex H (upd H x o) h h':=by
 have hx:∀b,H b=none->b≠x:=λb n z=>by subst z;rw[n]at mu;exact mu
 have hb:∀b,H b=none->b≠e:=λb n z=>by
  subst z;rcases he with r|r
  ·exact hx b n r
  ·rw[n]at r;cases r
 have hm:∀b u,H b=some u->¬NW (some u)->b≠x:=λb u q nm z=>by subst z;rw[q]at mu;exact nm mu
 refine⟨λb u q n _ _=>k b u (hb b n) q,λb u q n _ _=>⟨u.slots,k b u (hb b n) q⟩,λb u q n _=>by rw[î<|hx b n];exact n,λb u q _=>?_,
  λb xs q=>by rw[î<|hm b _ q λz=>z];exact q,λb u xs q=>by rw[î<|hm b _ q λz=>z];exact q,λb ps q=>by rw[î<|hm b _ q λz=>z];exact q⟩
 by_cases yZ:b=e
 ·subst yZ;exact NG
 ·exact⟨u,k b u yZ q⟩
end
noncomputable def Q6(h:Ñ)(H:Hp):List À:=(ß h.objs.size).filter λa=>(H a).isSome
def uS(h:Ñ)(H:Hp):Ñ:=PySem.W.hideAll h<|Q6 h H
def Dl(h:Ñ)(H:Hp):(uS h H).objs.size=h.objs.size:=PySem.W.hideAll_size _ _
def ED{h:Ñ}{H:Hp}{b:À}{o:Obj}(e:h.get? b=some o)(n:H b=none):(uS h H).get? b=some o:=
 PySem.W.hideAll_get _ e λhm=>by have q:(H b).isSome=true:=(wv.mp hm).2;rw[n]at q;simp at q
def Hl{h:Ñ}{H:Hp}{b:À}{o:Obj}(e:(uS h H).get? b=some o):h.get? b=some o/\H b=none:=by
 have e':h.get? b=some o:=PySem.W.of_hideAll (Q6 h H) e;refine⟨e',?_⟩;cases q:H b with
 |none=>rfl|some x=>have hm:b∈Q6 h H:=wv.mpr ⟨Ţ.mpr<|ā e',by simp[q]⟩;have z:(uS h H).get? b=none:=PySem.W.hideAll_none (Q6 h H) hm;rw[z]at e;cases e
noncomputable def Hm(g h:Ñ)(L:À):List (À×Obj):=(ß h.objs.size).filterMap λa=>if a=L\/(g.get? a).isSome=true then none else(h.get? a).map λo=>(a,o)
def rest(g h:Ñ)(L d:À):List (À×Obj):=(Hm g h L).filter λp=>decide<|p.1≠d
structure Mod(K:Î)(mg:Str->Option Á)(base:Ñ):Prop where
 Js:K.In base
 glob:base.Ns Ĥ mg
 blt:∃mb,base.Ns builtinsNs mb/\∀x:Str,x≠"__name__" ->mb x=gQ x
 nolimit:base.NoLimit
def fb:List Str:=[]
noncomputable abbrev xC(x:Str):Str:=(x++".<locals>.")++"<lambda>"
def yQ(K:Î)(mg:Str->Option Á)(base:Ñ)(H:Hp):Prop:=∀x c P,x∈fb->cJ K x=some (c,P)->xv base c P/\H P=some (.am<|xC x)/\base.BuiltinsAt mg P
structure Cx where
 prog:ä
 w:Þ
 K:Î
 mg:Str->Option Á
 base:Ñ
 A:ê
 N:List Str
 s₀:Ã
 H₀:Hp
 env:Env
 outer:List Env
 stack:List Env
 ex:List À
 fn:Str->Bool
 calm:Bool
 pn:List (À×Obj)
 xe:Á->Ã->Prop
noncomputable def GP(l:List Env):List À:=l.filterMap (·.frame)
abbrev Cx.fs(X:Cx):List À:=GP X.outer
def M8(sc:û)(x:Str):Prop:=sc.names.lookup x=some .local\/sc.names.lookup x=some .cell\/sc.names.lookup x=some .free
def Loc(sc:û)(x:Str):Prop:=sc.names.lookup x=some .local\/sc.names.lookup x=some .cell
noncomputable def Km(sc:û)(x:Str):Bool:=(sc.names.lookup x).any λk=>decide<|k=.local\/k=.cell\/k=.free
def Kn{sc:û}{x:Str}(h:Km sc x=true):M8 sc x:=by
 unfold Km at h;unfold M8;cases e:sc.names.lookup x with
 |none=>rw[e]at h;cases h|some k=>rw[e]at h;rcases of_decide_eq_true h with rfl|rfl|rfl<;>simp
noncomputable def NY(sc:û)(x:Str):Bool:=(sc.names.lookup x).any λk=>decide<|k=.local\/k=.cell
def xD{sc:û}{x:Str}(h:NY sc x=true):Loc sc x:=by
 unfold NY at h;unfold Loc;cases e:sc.names.lookup x with
 |none=>rw[e]at h;cases h|some k=>rw[e]at h;rcases of_decide_eq_true h with rfl|rfl<;>simp
def Look(env:Env)(h:Ñ)(m:Str->Option Á)(x:Str)(u:Á):Prop:=
 (env.kindOf x=some .local/\m x=some u)\/((env.kindOf x=some .cell\/env.kindOf x=some .free)/\∃c,env.cells.lookup x=some c/\h.IsCell c (some u))
structure Cx.Ok(X:Cx):Prop where
 mod:Mod X.K X.mg X.base
 kind:X.env.scope.kind=.function
 glob:X.env.globals=Ĥ
 blt:X.env.builtins=builtinsNs
 above:X.s₀.heap.objs.size<=X.env.locals
 inj:∀x y c,X.env.cells.lookup x=some c->X.env.cells.lookup y=some c->x=y
 has:∀x,(X.env.kindOf x=some .cell\/X.env.kindOf x=some .free)->∃c,X.env.cells.lookup x=some c
 cab:∀x c,X.fn x=true->X.env.cells.lookup x=some c->X.s₀.heap.objs.size<=c
 hd:X.calm=true->X.A.handled=none
 frames:X.A.frames=some X.stack
 stk:X.stack=X.outer\/(X.stack=X.env::X.outer/\X.env.frame=some X.env.locals)
 Q7:∀b∈X.ex,b≠X.env.locals/\∀x c,X.env.cells.lookup x=some c->c≠b
 bs:∀b o,X.base.get? b=some o->X.s₀.heap.get? b=some o/\X.H₀ b=none
 EE:X.base.objs.size<=X.s₀.heap.objs.size
 zc:∀b o,X.base.get? b=some o->b∉X.ex
 Do:∀b∈X.ex,b∉X.fs
 oQ:X.s₀.heap.FunFrames X.base X.outer
 Hn:∀b∈X.fs,X.H₀ b=none
 tb:yQ X.K X.mg X.base X.H₀
structure Inv(X:Cx)(Æ:List (À×Obj))(σ:List (Option V))(H:Hp)(s:Ã):Prop where
 ok:X.Ok
 os:s.os=X.s₀.os
 bare:fJ s.gens
 base:Un X.fs X.ex X.H₀ H X.s₀.heap s.heap
 loc:∃m,s.heap.Ns X.env.locals m/\∀(i:Nat) (x:Str) (v:V),X.N[i]?=some x->σ[i]?=some (some v)->M8 X.env.scope x->∃u,RelV v u/\Look X.env s.heap m x u
 cell:∀x c,X.env.cells.lookup x=some c->∃v,s.heap.IsCell c v
 free:H X.env.locals=none
 kl:∀x c,X.env.cells.lookup x=some c->H c=none
 pin:∀p∈X.pn++Æ,s.heap.get? p.1=some p.2/\H p.1=none/\p.1≠X.env.locals/\p.1∉X.fs/\∀v,p.2.data≠.cell v
 hok:kC X.prog X.w H s.heap
 len:σ.length=X.N.length
section
variable{X:Cx}{Æ:List (À×Obj)}{σ:List (Option V)}{H H':Hp}{s:Ã}{h':Ñ}
def Cx.Ok.S7(ok:X.Ok){b:À}{o:Obj}(e:X.base.get? b=some o):b∉X.fs:=λhb=>by have:=(ok.oQ.mem hb).1;rw[e]at this;cases this
theorem Inv.bs(I:Inv X Æ σ H s):∀b o,X.base.get? b=some o->s.heap.get? b=some o/\H b=none:=λb o e=>
 ⟨I.base.keep b o (I.ok.bs b o e).1 (I.ok.bs b o e).2 (I.ok.S7 e) (I.ok.zc b o e),I.base.free b o (I.ok.bs b o e).1 (I.ok.bs b o e).2 (I.ok.zc b o e)⟩
def Inv.bk(I:Inv X Æ σ H s):∀b o,X.base.get? b=some o->s.heap.get? b=some o:=λb o e=>(I.bs b o e).1
theorem Inv.tb(I:Inv X Æ σ H s):yQ X.K X.mg X.base H:=λx c P hx e=>⟨(I.ok.tb x c P hx e).1,I.base.qZ _ _ (I.ok.tb x c P hx e).2.1,(I.ok.tb x c P hx e).2.2⟩
theorem Inv.mod(I:Inv X Æ σ H s):Mod X.K X.mg X.base:=I.ok.mod
def Inv.yW(I:Inv X Æ σ H s):X.K.In s.heap:=I.ok.mod.Js.keeps I.bk
theorem Inv.lt(I:Inv X Æ σ H s):X.env.locals<s.heap.objs.size:=let ⟨_,hn,_⟩:=I.loc;hn.lt
def Inv.sz(I:Inv X Æ σ H s):X.s₀.heap.objs.size<=s.heap.objs.size:=ř I.ok.above<|on I.lt
def Inv.S8(I:Inv X Æ σ H s){a:À}(h:s.heap.objs.size<=a):a∉X.fs:=λhb=>by obtain⟨_,o,ho,_⟩:=I.ok.oQ.mem hb;exact absurd (Ť (ā ho)<|ř I.sz h)<|eo _
def Inv.Ko(I:Inv X Æ σ H s):∀x c,X.env.cells.lookup x=some c->c≠X.env.locals:=λx c e z=>by obtain⟨v,o,ho,hd⟩:=I.cell x c e;obtain⟨m,⟨o',es,ep,Bq,J3,_⟩,_⟩:=I.loc;rw[z,Bq]at ho;cases ho;rw[J3]at hd;cases hd
theorem Inv.oQ(I:Inv X Æ σ H s):s.heap.FunFrames X.base X.outer:=by
 have all:∀(l:List Env),(∀b∈GP l,b∈X.fs)->X.s₀.heap.FunFrames X.base l->s.heap.FunFrames X.base l:=by
  intro l
  induction l with
  |nil=>intro _ _;trivial|cons env r ih=>intro hs hl;obtain⟨hk,⟨L,o,hf,hn,ho,hd⟩,hr⟩:=hl;have hL:L∈X.fs:=hs L (by unfold GP;rw[rK,hf];exact ł);obtain⟨sl,e⟩:=I.base.slot L o ho (I.ok.Hn L hL) hL λz=>I.ok.Do L z hL;exact⟨hk,⟨L,_,hf,hn,e,hd⟩,ih (λb hb=>hs b (by unfold GP;rw[rK,hf];exact õ _ hb)) hr⟩
 exact all X.outer (λ_ hb=>hb) I.ok.oQ
theorem Inv.stack(I:Inv X Æ σ H s):s.heap.FunFrames X.base X.stack:=by
 rcases I.ok.stk with e|⟨e,hf⟩
 ·rw[e];exact I.oQ
 ·rw[e];obtain⟨m,hn,_⟩:=I.loc;refine .cons (by rw[I.ok.kind];decide) hf hn ?_ I.oQ;exact Heap.get?_none_of_le<|ř I.ok.EE I.ok.above
def Inv.xE(I:Inv X Æ σ H s):∀b∈GP X.stack,b∈X.env.locals::X.fs:=λb hb=>by
 rcases I.ok.stk with e|⟨e,hf⟩
 ·rw[e]at hb;exact õ _ hb
 ·rw[e]at hb;unfold GP at hb;rw[rK,hf]at hb;exact hb
def Inv.B8(I:Inv X Æ σ H s):∀b∈GP X.stack,H b=none:=λb hb=>by
 rcases þ.mp (I.xE b hb)with e|hb
 ·rw[e];exact I.free
 ·obtain⟨_,o,ho,_⟩:=I.ok.oQ.mem hb;exact I.base.free b o ho (I.ok.Hn b hb) λz=>I.ok.Do b z hb
def Inv.step{g':Array GenState}{t':Nat}{d':Drawn}{ch:List À}(I:Inv X Æ σ H s)
 (Ey:∀b∈ch,(b∈X.ex\/X.s₀.heap.objs.size<=b)/\b≠X.env.locals/\(∀x c,X.env.cells.lookup x=some c->c≠b)/\∀p∈X.pn++Æ,p.1≠b)
 (keep:∀b o,b≠X.env.locals->b∉X.fs->b∉ch->s.heap.get? b=some o->H b=none->h'.get? b=some o)
 (slot:∀b o,b≠X.env.locals->b∈X.fs->b∉ch->s.heap.get? b=some o->H b=none->∃sl,h'.get? b=some {o with slots:=sl})(free:∀b o,b∉ch->s.heap.get? b=some o->H b=none->H' b=none)
 (there:∀b o,b∉ch->s.heap.get? b=some o->∃o',h'.get? b=some o')
 (tups:∀b xs,H b=some (.tup xs)->H' b=some (.tup xs))(uR:∀b o u,H b=some (.gj o u)->H' b=some (.gj o u))(qZ:∀b q,H b=some (.am q)->H' b=some (.am q))
 (ns:∀m,s.heap.Ns X.env.locals m->h'.Ns X.env.locals m)(hok:kC X.prog X.w H' h')(hg:fJ g'):
 Inv X Æ σ H' {s with heap:=h',gens:=g',drawn:=d',toks:=t'}:=by
 have Xq:∀b o,X.s₀.heap.get? b=some o->b≠X.env.locals:=λb o e=>Ņ<|Ť (ā e) I.ok.above;have Q8:∀b o,X.s₀.heap.get? b=some o->b∉X.ex->b∉ch:=λb o e hx hb=>by
  rcases(Ey b hb).1 with z|z
  ·exact hx z
  ·exact absurd (Ť (ā e) z)<|eo _
 have J4:∀x c,X.env.cells.lookup x=some c->∀v,s.heap.IsCell c v->h'.IsCell c v:=by
  rintro x c e v ⟨o,ho,hd⟩;have NZ:c∉ch:=λz=>(Ey c z).2.2.1 x c e rfl;by_cases hc:c∈X.fs
  ·obtain⟨sl,q⟩:=slot c o (I.Ko x c e) hc NZ ho<|I.kl x c e;exact⟨_,q,hd⟩
  ·exact⟨o,keep c o (I.Ko x c e) hc NZ ho<|I.kl x c e,hd⟩
 refine⟨I.ok,I.os,hg,⟨λb o e n hb hx=>?_,λb o e n hb hx=>?_,λb o e n hx=>?_,λb o e hx=>?_,λb xs e=>tups b xs<|I.base.tups b xs e,λb o xs e=>uR b o xs<|I.base.uR b o xs e,λb ps e=>?_⟩,?_,λx c e=>?_,?_,λx c e=>?_,λp hp=>?_,hok,I.len⟩
 ·exact keep b o (Xq b o e) hb (Q8 b o e hx) (I.base.keep b o e n hb hx)<|I.base.free b o e n hx
 ·obtain⟨sl,e1⟩:=I.base.slot b o e n hb hx;obtain⟨sl',e2⟩:=slot b _ (Xq b o e) hb (Q8 b o e hx) e1<|I.base.free b o e n hx;exact⟨sl',e2⟩
 ·obtain⟨o',e1⟩:=I.base.there b o e hx;exact free b o' (Q8 b o e hx) e1<|I.base.free b o e n hx
 ·obtain⟨o',e1⟩:=I.base.there b o e hx;exact there b o' (Q8 b o e hx) e1
 ·exact qZ b ps<|I.base.qZ b ps e
 ·obtain⟨m,hn,hl⟩:=I.loc;refine⟨m,ns m hn,λi x v e1 e2 e3=>?_⟩;obtain⟨u,r,l⟩:=hl i x v e1 e2 e3;refine⟨u,r,?_⟩;rcases l with l|⟨k,c,e,z⟩
  ·exact .inl l
  ·exact .inr ⟨k,c,e,J4 x c e _ z⟩
 ·obtain⟨v,z⟩:=I.cell x c e;exact⟨v,J4 x c e v z⟩
 ·obtain⟨m,⟨o,_,_,ho,_⟩,_⟩:=I.loc;exact free _ o (λz=>(Ey _ z).2.1 rfl) ho I.free
 ·obtain⟨v,o,ho,hd⟩:=I.cell x c e;exact free c o (λz=>(Ey c z).2.2.1 x c e rfl) ho<|I.kl x c e
 ·obtain⟨e,n,ne,nf,d⟩:=I.pin p hp;have NZ:p.1∉ch:=λz=>(Ey p.1 z).2.2.2 p hp rfl;exact⟨keep p.1 p.2 ne nf NZ e n,free p.1 p.2 NZ e n,ne,nf,d⟩
def Inv.un{t':Nat}(I:Inv X Æ σ H s)(u:Un X.fs [] H H' s.heap h')(hok:kC X.prog X.w H' h'):Inv X Æ σ H' {s with heap:=h',toks:=t'}:=by obtain⟨m,⟨o,es,ep,ho,r⟩,_⟩:=id I.loc;obtain⟨sl,hL⟩:=u.any ho I.free (by simp);exact I.step (g':=s.gens) (d':=s.drawn) (ch:=[]) (λ_ z=>nomatch z) (λb o _ hb _ e n=>u.keep b o e n hb<|by simp) (λb o _ hb _ e n=>u.slot b o e n hb<|by simp) (λb o _ e n=>u.free b o e n<|by simp) (λb o _ e=>u.there b o e<|by simp) u.tups u.uR u.qZ (λm' hm=>by obtain⟨o',WJ,WK,Bq,r'⟩:=hm;rw[ho]at Bq;cases Bq;exact⟨_,WJ,WK,hL,r'⟩) hok I.bare
def Inv.call{g':Array GenState}{t':Nat}{d':Drawn}{ch:List À}(I:Inv X Æ σ H s)(u:Un (GP X.stack) ch H H' s.heap h')(hok:kC X.prog X.w H' h')(hg:fJ g')
 (Ey:∀b∈ch,(b∈X.ex\/X.s₀.heap.objs.size<=b)/\b≠X.env.locals/\(∀x c,X.env.cells.lookup x=some c->c≠b)/\∀p∈X.pn++Æ,p.1≠b):
 Inv X Æ σ H' {s with heap:=h',gens:=g',drawn:=d',toks:=t'}:=by
 obtain⟨m,⟨o,es,ep,ho,r⟩,_⟩:=id I.loc;obtain⟨sl,hL⟩:=u.any ho I.free λz=>(Ey _ z).2.1 rfl;exact I.step (ch:=ch) Ey (λb o hL hb hc e n=>u.keep b o e n (λz=>(þ.mp<|I.xE b z).elim hL hb) hc) (λb o _ _ hc e n=>u.any e n hc) (λb o hc e n=>u.free b o e n hc) (λb o hc e=>u.there b o e hc) u.tups u.uR u.qZ (λm' hm=>by obtain⟨o',WJ,WK,Bq,r'⟩:=hm;rw[ho]at Bq;cases Bq;exact⟨_,WJ,WK,hL,r'⟩) hok hg
def Inv.turned{t':Nat}{it:À}(I:Inv X Æ σ H s)(k:∀b o,b≠it->s.heap.get? b=some o->h'.get? b=some o)(hn:H it=none)(hL:it≠X.env.locals)
 (h1:it∈X.ex\/X.s₀.heap.objs.size<=it)(h2:∀x c,X.env.cells.lookup x=some c->c≠it)(h3:∀p∈X.pn++Æ,p.1≠it):Inv X Æ σ H {s with heap:=h',toks:=t'}:=by
 have N_:∀b u,H b=some u->b≠it:=λb u e z=>by rw[z,hn]at e;cases e
 refine I.step (g':=s.gens) (d':=s.drawn) (ch:=[it]) (λb hb=>?_) (λb o _ _ hc e _=>k b o (λz=>hc<|by simp[z]) e) (λb o _ _ hc e _=>⟨o.slots,k b o (λz=>hc<|by simp[z]) e⟩) (λ_ _ _ _ n=>n)
  (λb o hc e=>⟨o,k b o (λz=>hc<|by simp[z]) e⟩) (λ_ _ e=>e) (λ_ _ _ e=>e) (λ_ _ e=>e) (λm hm=>?_) (λb u e=>?_) I.bare
 ·have e:b=it:=by simpa using hb
  subst e;exact⟨h1,hL,h2,h3⟩
 ·obtain⟨o,es,ep,ho,r⟩:=hm;exact⟨o,es,ep,k _ o (đ hL) ho,r⟩
 ·refine(I.hok b u e).stay (λc v hc q=>k c v ?_ q) (λ_ q=>q) λ_ _ q=>q;rcases hc with z|z
  ·rw[z];exact N_ b u e
  ·exact N_ c _ z
def Inv.tok(I:Inv X Æ σ H s)(t:Nat):Inv X Æ σ H {s with toks:=t}:=I.un (h':=s.heap) (t':=t) Un.refl I.hok
theorem Inv.kept{t':Nat}(I:Inv X Æ σ H s)(k:∀b u,s.heap.get? b=some u->h'.get? b=some u):Inv X Æ σ H {s with heap:=h',toks:=t'}:=I.un (Un.kept k)<|I.hok.kept k
theorem Inv.laid{a:À}{o:HO}{t':Nat}(I:Inv X Æ σ H s)(k:∀b u,s.heap.get? b=some u->h'.get? b=some u)(hp:s.heap.objs.size<=a)(new:bS X.prog X.w (upd H a o) h' a o):
 Inv X Æ σ (upd H a o) {s with heap:=h',toks:=t'}:=I.un (Un.laid k hp<|I.hok.fresh hp)<|I.hok.laid k hp new
theorem Inv.write{x e:À}{o:HO}{t':Nat}(I:Inv X Æ σ H s)(mu:NW (H x))(he:e=x\/H e=some (.own x))(k:∀b u,b≠e->s.heap.get? b=some u->h'.get? b=some u)(NG:∃u,h'.get? e=some u)
 (new:bS X.prog X.w (upd H x o) h' x o):Inv X Æ σ (upd H x o) {s with heap:=h',toks:=t'}:=I.un (Un.write mu he k NG)<|I.hok.write mu he k NG new
def Inv.B9{vg:List (À×Obj)}(I:Inv X Æ σ H s)(h:∀p∈vg,s.heap.get? p.1=some p.2/\H p.1=none/\p.1≠X.env.locals/\p.1∉X.fs/\∀v,p.2.data≠.cell v):Inv X vg σ H s:=
 ⟨I.ok,I.os,I.bare,I.base,I.loc,I.cell,I.free,I.kl,λp hp=>(Ů.mp hp).elim (λz=>I.pin p<|n_ _ z) (h p),I.hok,I.len⟩
def ze{N:List Str}(hN:N.Nodup){i j:Nat}{x:Str}(a:N[i]?=some x)(b:N[j]?=some x):i=j:=by obtain⟨h1,e1⟩:=fC.mp a;obtain⟨h2,e2⟩:=fC.mp b;exact(ww hN).mp (e1.trans e2.symm)
def vh{M:fK}{A:ê}{E:Á->Ã->Prop}{i:Nat}{x:Str}{v:V}{u:Á}{Q:Unit->Ã->Prop}(I:Inv X Æ σ H s)(hN:X.N.Nodup)(hi:X.N[i]?=some x)(hx:Loc X.env.scope x)(r:RelV v u)
 (h:∀s',Inv X Æ (σ.set i<|some v) H s'->(∃a,Ŝ a s.heap s'.heap/\(a=X.env.locals\/X.env.cells.lookup x=some a))->Q () s')(hf:X.fn x=true\/X.env.scope.names.lookup x=some .local:=by first|exact .inl rfl|exact .inr rfl|assumption):Ï M A (storeName X.env x u) Q E s:=by
 obtain⟨m,hn,hl⟩:=id I.loc;have WL:(X.env.scope.kind==.class||(X.env.scope.kind==.module&&X.env.locals !=X.env.globals))=false:=by rw[I.ok.kind];rfl
 have Xr:i<σ.length:=by rw[I.len];exact(fC.mp hi).1
 have Ko:=I.Ko;have Db:∀{a:À}{h':Ñ},(∃o,s.heap.get? a=some o/\H a=none)->Ŝ a s.heap h'->kC X.prog X.w H h':=fun{a h'} ha hs b ob e=>by
  obtain⟨_,_,hfree⟩:=ha;refine(I.hok b ob e).stay (λc w' hc q=>(hs.2 c ?_).trans q) (λ_ q=>q) λ_ _ q=>q;rintro rfl;rcases hc with rfl|hc
  ·rw[hfree]at e;cases e
  ·rw[hfree]at hc;cases hc
 rcases hx with hk|hk
 ·refine wpAny_storeName_local hk hn (λh' SV hs=>?_) WL;obtain⟨oL,_,_,hoL,_⟩:=id hn;refine h _ ⟨I.ok,I.os,I.bare,⟨λb o e n hb hx=>?_,λb o e n hb hx=>?_,I.base.free,λb o e hx=>?_,I.base.tups,I.base.uR,I.base.qZ⟩,⟨_,SV,λj y v' e1 e2 e3=>?_⟩,λy c e=>?_,I.free,I.kl,λp hp=>?_,Db ⟨oL,hoL,I.free⟩ hs,by simpa using I.len⟩ ⟨_,hs,.inl rfl⟩
  ·exact(hs.2 b<|Ņ<|Ť (ā e) I.ok.above).trans (I.base.keep b o e n hb hx)
  ·obtain⟨sl,e1⟩:=I.base.slot b o e n hb hx;exact⟨sl,(hs.2 b<|Ņ<|Ť (ā e) I.ok.above).trans e1⟩
  ·obtain⟨o',e1⟩:=I.base.there b o e hx;exact⟨o',(hs.2 b<|Ņ<|Ť (ā e) I.ok.above).trans e1⟩
  ·by_cases hj:j=i
   ·subst hj;rw[hi]at e1;cases e1;rw[oa Xr]at e2;cases e2;exact⟨u,r,.inl ⟨hk,by simp⟩⟩
   ·rw[lv<|đ hj]at e2;obtain⟨u',r',q⟩:=hl j y v' e1 e2 e3;refine⟨u',r',?_⟩;rcases q with⟨k,e⟩|⟨k,c,e,z⟩
    ·refine .inl ⟨k,?_⟩;have:y≠x:=λe=>hj<|ze hN e1<|e▸hi;simp[this,e]
    ·exact .inr ⟨k,c,e,z.sameBut hs<|Ko y c e⟩
  ·obtain⟨w',z⟩:=I.cell y c e;exact⟨w',z.sameBut hs<|Ko y c e⟩
  ·obtain⟨e,n,ne,nf,d⟩:=I.pin p hp;exact⟨(hs.2 p.1 ne).trans e,n,ne,nf,d⟩
 ·have WM:X.fn x=true:=by
   rcases hf with z|z
   ·exact z
   ·rw[z]at hk;cases hk
  obtain⟨c,hc⟩:=I.ok.has x<|.inl hk;obtain⟨w',z⟩:=I.cell x c hc;refine wpAny_storeName_cell I.ok.kind hk hc z<|λh' J5 hs=>?_;obtain⟨oc,hoc,S9⟩:=id z;refine h {s with heap:=h'} ⟨I.ok,I.os,I.bare,⟨λb o e n hb hx=>?_,λb o e n hb hx=>?_,I.base.free,λb o e hx=>?_,I.base.tups,I.base.uR,I.base.qZ⟩,⟨m,hn.sameBut hs<|đ<|Ko x c hc,λj y v' e1 e2 e3=>?_⟩,λy c' e=>?_,I.free,I.kl,λp hp=>?_,Db ⟨oc,hoc,I.kl x c hc⟩ hs,by simpa using I.len⟩ ⟨c,hs,.inr hc⟩
  ·exact(hs.2 b<|Ņ<|Ť (ā e)<|I.ok.cab x c WM hc).trans (I.base.keep b o e n hb hx)
  ·obtain⟨sl,e1⟩:=I.base.slot b o e n hb hx;exact⟨sl,(hs.2 b<|Ņ<|Ť (ā e)<|I.ok.cab x c WM hc).trans e1⟩
  ·obtain⟨o',e1⟩:=I.base.there b o e hx;exact⟨o',(hs.2 b<|Ņ<|Ť (ā e)<|I.ok.cab x c WM hc).trans e1⟩
  ·by_cases hj:j=i
   ·subst hj;rw[hi]at e1;cases e1;rw[oa Xr]at e2;cases e2;exact⟨u,r,.inr ⟨.inl hk,c,hc,J5⟩⟩
   ·rw[lv<|đ hj]at e2;obtain⟨u',r',q⟩:=hl j y v' e1 e2 e3;refine⟨u',r',?_⟩;rcases q with q|⟨k,c',e,z'⟩
    ·exact .inl q
    ·refine .inr ⟨k,c',e,z'.sameBut hs ?_⟩;rintro rfl;exact hj<|ze hN e1<|I.ok.inj _ _ _ e hc▸hi
  ·by_cases hcc:c'=c
   ·subst hcc;exact⟨_,J5⟩
   ·obtain⟨w2,z2⟩:=I.cell y c' e;exact⟨w2,z2.sameBut hs hcc⟩
  ·obtain⟨e,n,ne,nf,d⟩:=I.pin p hp;refine⟨(hs.2 p.1 ?_).trans e,n,ne,nf,d⟩;intro q;rw[q,hoc]at e;have q':oc=p.2:=Ś e;exact d w' (by rw[<-q'];exact S9)
def tw{M:fK}{A:ê}{E:Á->Ã->Prop}{i:Nat}{x:Str}{v:V}{u:Á}{Q:Unit->Ã->Prop}(I:Inv X Æ σ H s)(hN:X.N.Nodup)(hi:X.N[i]?=some x)(hx:Loc X.env.scope x)(r:RelV v u)
 (h:∀s',Inv X Æ (σ.set i<|some v) H s'->Q () s')(hf:X.fn x=true\/X.env.scope.names.lookup x=some .local:=by first|exact .inl rfl|exact .inr rfl|assumption):Ï M A (storeName X.env x u) Q E s:=
 vh I hN hi hx r (λs' I' _=>h s' I') hf
def Inv.call'{s':Ã}{ch:List À}(I:Inv X Æ σ H s)(ho:s'.os=s.os)(u:Un (GP X.stack) ch H H' s.heap s'.heap)(hok:kC X.prog X.w H' s'.heap)(hg:fJ s'.gens)
 (Ey:∀b∈ch,(b∈X.ex\/X.s₀.heap.objs.size<=b)/\b≠X.env.locals/\(∀x c,X.env.cells.lookup x=some c->c≠b)/\∀p∈X.pn++Æ,p.1≠b):Inv X Æ σ H' s':=by
 obtain⟨h',g',d',t',o'⟩:=s';have e:o'=s.os:=ho;subst e;exact I.call (g':=g') (t':=t') (d':=d') u hok hg Ey
end
abbrev XK:=Á->Option À->Hp->Prop
abbrev St:=List<|Option V
abbrev Ċ:=St
abbrev VK:=V->Hp->Prop
abbrev TE:=St->Hp->VK->Prop
abbrev TT:=St->Hp->(Bool->Hp->Prop)->Prop
abbrev TA:=St->Hp->(List V->Hp->Prop)->Prop
structure Ends where
 nx:St->Hp->Prop
 rt:VK
 bk:St->Hp->Prop:=λ_ _=>False
 ct:St->Hp->Prop:=λ_ _=>False
abbrev TS:=Ends->St->Hp->Prop
def EP(X:Cx)(Æ:List (À×Obj))(a:St)(Q:VK)(u:Á)(s':Ã):Prop:=∃v H',Inv X Æ a H' s'/\RelV v u/\Q v H'
def TP(X:Cx)(Æ:List (À×Obj))(a:St)(Q:Bool->Hp->Prop)(b:Bool)(s':Ã):Prop:=∃H',Inv X Æ a H' s'/\Q b H'
def AP(X:Cx)(Æ:List (À×Obj))(a:St)(Q:List V->Hp->Prop)(us:List Á)(s':Ã):Prop:=∃vs H',Inv X Æ a H' s'/\ĳ vs us/\Q vs H'
def SP(X:Cx)(Æ:List (À×Obj))(D:Ends)(f:Flow)(s':Ã):Prop:=
 match f with
 |.next=>∃a H',Inv X Æ a H' s'/\D.nx a H'|.brk=>∃a H',Inv X Æ a H' s'/\D.bk a H'|.cont=>∃a H',Inv X Æ a H' s'/\D.ct a H'|.ret u=>∃v a H',Inv X Æ a H' s'/\RelV v u/\D.rt v H'
def PE(X:Cx)(e:È)(t:TE):Prop:=
 ∀(Æ:List (À×Obj)) (s:Ã) (a:St) (H:Hp) (Q:VK),Inv X Æ a H s->t a H Q->Ï (Ö X.prog X.w) X.A (eval e X.env) (EP X Æ a Q) X.xe s
def PT(X:Cx)(e:È)(t:TT):Prop:=
 ∀(Æ:List (À×Obj)) (s:Ã) (a:St) (H:Hp) (Q:Bool->Hp->Prop),Inv X Æ a H s->t a H Q->Ï (Ö X.prog X.w) X.A (isTrue e X.env<|eval e X.env) (TP X Æ a Q) X.xe s
def PW(X:Cx)(e:È)(t:TT):Prop:=
 ∀(whole:Sem Á) (Æ:List (À×Obj)) (s:Ã) (a:St) (H:Hp) (Q:Bool->Hp->Prop),Inv X Æ a H s->t a H Q->Ï (Ö X.prog X.w) X.A (isTrue e X.env whole) (TP X Æ a Q) X.xe s
def PW.pt{X:Cx}{e:È}{t:TT}(h:PW X e t):PT X e t:=h _
def PA(X:Cx)(es:List È)(t:TA):Prop:=
 ∀(pos:Pos) (Æ:List (À×Obj)) (s:Ã) (a:St) (H:Hp) (Q:List V->Hp->Prop),Inv X Æ a H s->t a H Q->Ï (Ö X.prog X.w) X.A (spliced<|Ĉ pos<|Ð es X.env) (AP X Æ a Q) X.xe s
def PS(X:Cx)(st:í)(t:TS):Prop:=
 ∀(Æ:List (À×Obj)) (s:Ã) (a:St) (H:Hp) (D:Ends),Inv X Æ a H s->t D a H->Ï (Ö X.prog X.w) X.A (exec st X.env) (SP X Æ D) X.xe s
def ca(X:Cx)(st:List í)(t:TS):Prop:=
 ∀(Æ:List (À×Obj)) (s:Ã) (a:St) (H:Hp) (D:Ends),Inv X Æ a H s->t D a H->Ï (Ö X.prog X.w) X.A (execs st X.env) (SP X Æ D) X.xe s
def ώ{α:Type}{t:Sem α}{Q Q':α->Ã->Prop}{M:fK}{A:ê}{E:Á->Ã->Prop}{s:Ã}(h:Ï M A t Q E s)(hQ:∀a s,Q a s->Q' a s):Ï M A t Q' E s:=Ϯ h hQ λ_ _ x=>x
section
variable{X:Cx}
def dQ(i:Nat):TE:=λa H Q=>∃v,a[i]?=some (some v)/\Q v H
def tC(v:V):TE:=λ_ H Q=>Q v H
def Kp{i:Nat}{x:Str}{pos:Pos}(hN:X.N[i]?=some x)(hv:M8 X.env.scope x)(hd:(x==("__debug__":Str))=false:=by kernel_rfl)(Ek:(x==("__classdict__":Str))=false:=by kernel_rfl):PE X (.Name x pos) (dQ i):=by
 intro Æ s a H Q I h;obtain⟨v,e,h⟩:=h;obtain⟨m,hn,hl⟩:=I.loc;obtain⟨u,r,l⟩:=hl i x v hN e hv;have lf:EP X Æ a Q u s:=⟨v,H,I,r,h⟩;rcases l with⟨hk,hm⟩|⟨hk,c,hc,hcell⟩
 ·exact wpAny_Name (wpAny_loadName_local I.ok.kind hk hn hm lf) hd
 ·rcases hk with hk|hk
  ·exact wpAny_Name (wpAny_loadName_cell I.ok.kind hk hc hcell lf) hd
  ·exact wpAny_Name (wpAny_loadName_free I.ok.kind hk hc hcell lf Ek) hd
def Dp(X:Cx)(i:Nat)(x:Str):Bool:=decide (X.N[i]?=some x)&&(Km X.env.scope x&&(!(x==("__debug__":Str))&&!(x==("__classdict__":Str))))
def mV{i:Nat}{x:Str}{pos:Pos}(h:Dp X i x=true):PE X (.Name x pos) (dQ i):=by unfold Dp at h;rw[ú,ú,ú,wm,wm,decide_eq_true_eq]at h;exact Kp h.1 (Kn h.2.1) h.2.2.1 h.2.2.2
def xF{i j pos}:PE X (.Constant (.int i) j pos) (tC<|.int i):=λ_ _ _ H _ I h=>wpAny_Constant_int ⟨.int i,H,I.tok _,⟨_,rfl⟩,h⟩
def N1{b j pos}:PE X (.Constant (.bool b) j pos) (tC<|.bl b):=λ_ _ _ H _ I h=>Constant_bool ⟨.bl b,H,I,rfl,h⟩
def Kq{j pos}:PE X (.Constant .none j pos) (tC .non):=λ_ _ _ H _ I h=>Constant_none ⟨.non,H,I,rfl,h⟩
def Kr{x j pos}:PE X (.Constant (.str x) j pos) (tC<|.str x):=λ_ _ _ H _ I h=>Calls.Constant_str ⟨.str x,H,I.tok _,⟨_,rfl⟩,h⟩
abbrev Gl(X:Cx)(x:Str):Prop:=X.env.kindOf x=some .globalImplicit
def sU{E:Á->Ã->Prop}{Æ:List (À×Obj)}{s:Ã}{a:St}{H:Hp}{x:Str}{u:Á}{pos:Pos}{Q:Á->Ã->Prop}(I:Inv X Æ a H s)(hg:Gl X x)(hm:X.mg x=some u)(h:Q u s)
 (hd:(x==("__debug__":Str))=false:=by kernel_rfl):Ï (Ö X.prog X.w) X.A (eval (.Name x pos) X.env) Q E s:=
 BR I.ok.kind hg (Calls.loadGlobal_global (by rw[I.ok.glob];exact I.mod.glob.keeps I.bk) hm h) hd
def qb{E:Á->Ã->Prop}{Æ:List (À×Obj)}{s:Ã}{a:St}{H:Hp}{x:Str}{u:Á}{pos:Pos}{Q:Á->Ã->Prop}(I:Inv X Æ a H s)(hg:Gl X x)(hm:X.mg x=none)(hv:gQ x=some u)(h:Q u s)
 (hn:x≠"__name__":=by decide)(hd:(x==("__debug__":Str))=false:=by kernel_rfl):Ï (Ö X.prog X.w) X.A (eval (.Name x pos) X.env) Q E s:=by
 obtain⟨mb,h1,h2⟩:=I.mod.blt;exact BR I.ok.kind hg (Calls.loadGlobal_builtin (by rw[I.ok.glob];exact I.mod.glob.keeps I.bk) hm (by rw[I.ok.blt];exact h1.keeps I.bk) ((h2 x hn).trans hv) h) hd
def xG{x:Str}{v:V}{u:Á}{pos:Pos}(hg:Gl X x)(hm:X.mg x=some u)(r:RelV v u)(hd:(x==("__debug__":Str))=false:=by kernel_rfl):PE X (.Name x pos) (tC v):=
 λ_ _ _ H _ I h=>sU I hg hm ⟨v,H,I,r,h⟩ hd
variable{a b:È}{ta tb:TE}{pos:Pos}
variable{tA N2:TT}{rest:List È}
def Ta(t u:TT):TT:=λd H Q=>t d H λc H1=>if c=true then u d H1 Q else Q false H1
def tOr(t u:TT):TT:=λd H Q=>t d H λc H1=>if c=true then Q true H1 else u d H1 Q
def Tb(t:TT):TT:=λd H Q=>t d H λc H1=>Q (!c) H1
def Ho(ha:PT X a tA):PW X (.BoolOp .And [a] pos) tA:=by
 intro wh Æ s d H Q I h;refine isTrue_and<|ώ (ha Æ s d H Q I h) λc s1 e=>?_;cases c with
 |true=>exact isTrue_and_nil e|false=>exact e
def Ks(ha:PT X a tA):PW X (.BoolOp .Or [a] pos) tA:=by
 intro wh Æ s d H Q I h;refine isTrue_or<|ώ (ha Æ s d H Q I h) λc s1 e=>?_;cases c with
 |false=>exact isTrue_or_nil e|true=>exact e
def Kt(ha:PT X a tA)(hb:PW X (.BoolOp .And (b::rest) pos) N2):PW X (.BoolOp .And (a::b::rest) pos) (Ta tA N2):=by
 intro wh Æ s d H Q I h;refine isTrue_and<|ώ (ha Æ s d H _ I h) λc s1 zz=>?_;obtain⟨H1,I1,q1⟩:=zz;cases c with
 |true=>exact hb wh Æ s1 d H1 Q I1 q1|false=>exact⟨H1,I1,q1⟩
def N3(ha:PT X a tA)(hb:PW X (.BoolOp .Or (b::rest) pos) N2):PW X (.BoolOp .Or (a::b::rest) pos) (tOr tA N2):=by
 intro wh Æ s d H Q I h;refine isTrue_or<|ώ (ha Æ s d H _ I h) λc s1 zz=>?_;obtain⟨H1,I1,q1⟩:=zz;cases c with
 |true=>exact⟨H1,I1,q1⟩|false=>exact hb wh Æ s1 d H1 Q I1 q1
def Ku(ha:PT X a tA):PT X (.UnaryOp .Not a pos) (Tb tA):=λÆ s d H Q I h=>isTrue_not<|ha Æ s d H (λc H1=>Q (!c) H1) I h
def Kv{op}{t:TE}(h:PE X a t):PE X (.BoolOp op [a] pos) t:=λÆ s c H Q I hw=>BoolOp_one<|h Æ s c H Q I hw
def tIf(t:TT)(ta tb:TE):TE:=λd H Q=>t d H λc H1=>if c=true then ta d H1 Q else tb d H1 Q
def EG{c:È}(hc:PT X c tA)(ha:PE X a ta)(hb:PE X b tb):PE X (.IfExp c a b pos) (tIf tA ta tb):=by
 intro Æ s e H Q I h;refine wpAny_IfExp<|ώ (hc Æ s e H _ I h) λd s1 zz=>?_;obtain⟨H1,I1,q1⟩:=zz;cases d with
 |true=>exact ha Æ s1 e H1 Q I1 q1|false=>exact hb Æ s1 e H1 Q I1 q1
end
def Ϫ(K:Î)(H:Hp)(a:À)(xs:List V):Prop:=
 Rd H a (.lst xs)\/
  ∃(o:Obj) (č:Array Á) (n:Nat),K.lookup a=some o/\o.cls=.type "list"/\o.dict=none/\o.data=.seq č n/\č.size<=sizeLine/\ĳ xs č.toList
def gk(K:Î)(H:Hp)(a:À)(xs:List V):Prop:=
 Rd H a (.tup xs)\/
  ∃(o:Obj) (č:Array Á) (n:Nat),K.lookup a=some o/\o.cls=.type "tuple"/\o.data=.seq č n/\č.size<=sizeLine/\ĳ xs č.toList
noncomputable def Tc:Á->Option V
 |.none=>some .non|.bool b=>some<|.bl b|.int i _=>some<|.int i|.str x _=>some<|.str x|.bytes b _=>some<|.Jr b|.float b _=>some<|.flt b|.ref a=>some<|.ref a|.type n=>some<|.ty n|_=>none
def RelV.abs{x:V}{u:Á}(r:RelV x u):Tc u=some x:=by
 cases x with
 |non=>cases r;rfl|bl _=>cases r;rfl|int _=>obtain⟨t,rfl⟩:=r;rfl|str _=>obtain⟨t,rfl⟩:=r;rfl|Jr _=>obtain⟨t,rfl⟩:=r;rfl|flt _=>obtain⟨t,rfl⟩:=r;rfl|ref _=>cases r;rfl|ty _=>cases r;rfl
def RelV.inj{x y:V}{u:Á}(r:RelV x u)(q:RelV y u):x=y:=Ś<|r.abs.symm.trans q.abs
theorem ĳ.inj:∀{xs ys:List V}{us:List Á},ĳ xs us->ĳ ys us->xs=ys:=by
 intro xs ys us h g
 induction h generalizing ys with
 |nil=>cases g;rfl|cons r t ih=>
  cases g with
  |cons r2 t2=>rw[r.inj r2,ih t2]
section
variable{X:Cx}{Æ:List (À×Obj)}{σ:St}{H:Hp}{s:Ã}{a:À}{xs ys:List V}
def Ϫ.of{K:Î}(h:H a=some (.lst xs)):Ϫ K H a xs:=.inl<|.inl h
def gk.of{K:Î}(h:H a=some (.tup xs)):gk K H a xs:=.inl<|.inl h
def Inv.list(I:Inv X Æ σ H s)(h:Ϫ X.K H a xs):∃č:List Á,ĳ xs č/\PlainL s.heap a č.toArray/\xs.length<=sizeLine:=by
 rcases h with h|⟨o,č,n,hk,hc,hd,hs,hz,r⟩
 ·obtain⟨z,č,n,r,e⟩:=h.ok I.hok;exact⟨č,r,⟨_,n,e,rfl,rfl,rfl⟩,z⟩
 ·refine⟨č.toList,r,⟨o,n,I.yW a o hk,hc,hd,by simpa using hs⟩,?_⟩;have e:=r.length;simp only[cZ]at e;lia
def Inv.tuple(I:Inv X Æ σ H s)(h:gk X.K H a xs):∃č:List Á,ĳ xs č/\IsTup s.heap a č.toArray/\xs.length<=sizeLine:=by
 rcases h with h|⟨o,č,n,hk,hc,hs,hz,r⟩
 ·obtain⟨z,č,r,p⟩:=h.ok I.hok;exact⟨č,r,p,z⟩
 ·refine⟨č.toList,r,⟨o,I.yW a o hk,hc,n,by simpa using hs⟩,?_⟩;have e:=r.length;simp only[cZ]at e;lia
def Inv.tz(I:Inv X Æ σ H s)(h:Ϫ X.K H a xs)(h':Ϫ X.K H a ys):xs=ys:=by
 obtain⟨č,r,⟨o,n,e,_,_,d⟩,_⟩:=I.list h;obtain⟨its',r',⟨o',n',e',_,_,d'⟩,_⟩:=I.list h';rw[e]at e';cases e';rw[d]at d';injection d' with d1 _
 have:č=its':=by simpa using congrArg Array.toList d1
 subst this;exact r.inj r'
def Inv.vi(I:Inv X Æ σ H s)(h:gk X.K H a xs)(h':gk X.K H a ys):xs=ys:=by
 obtain⟨č,r,⟨o,e,_,n,d⟩,_⟩:=I.tuple h;obtain⟨its',r',⟨o',e',_,n',d'⟩,_⟩:=I.tuple h';rw[e]at e';cases e';rw[d]at d';injection d' with d1 _
 have:č=its':=by simpa using congrArg Array.toList d1
 subst this;exact r.inj r'
end
noncomputable abbrev Cx.wish(X:Cx)(E:Á->Ã->Prop):Cx:={X with xe:=E}
abbrev Cx.ϲ(X:Cx):Cx:=X.wish λ_ _=>False
theorem Cx.Ok.wish{X:Cx}(ok:X.Ok)(E:Á->Ã->Prop):(X.wish E).Ok:=
 ⟨ok.mod,ok.kind,ok.glob,ok.blt,ok.above,ok.inj,ok.has,ok.cab,ok.hd,ok.frames,ok.stk,ok.Q7,ok.bs,ok.EE,ok.zc,ok.Do,ok.oQ,ok.Hn,ok.tb⟩
def Cx.Ok.jK{X:Cx}{E:Á->Ã->Prop}(ok:(X.wish E).Ok):X.Ok:=
 ⟨ok.mod,ok.kind,ok.glob,ok.blt,ok.above,ok.inj,ok.has,ok.cab,ok.hd,ok.frames,ok.stk,ok.Q7,ok.bs,ok.EE,ok.zc,ok.Do,ok.oQ,ok.Hn,ok.tb⟩
section
variable{X:Cx}{Æ:List (À×Obj)}{σ:St}{H:Hp}{s:Ã}{E:Á->Ã->Prop}
theorem Inv.wish(I:Inv X Æ σ H s)(E:Á->Ã->Prop):Inv (X.wish E) Æ σ H s:=⟨I.ok.wish E,I.os,I.bare,I.base,I.loc,I.cell,I.free,I.kl,I.pin,I.hok,I.len⟩
theorem Inv.jK(I:Inv (X.wish E) Æ σ H s):Inv X Æ σ H s:=⟨I.ok.jK,I.os,I.bare,I.base,I.loc,I.cell,I.free,I.kl,I.pin,I.hok,I.len⟩
theorem SP.jK{D:Ends}{f:Flow}{s':Ã}(h:SP (X.wish E) Æ D f s'):SP X Æ D f s':=by
 cases f with
 |next=>obtain⟨a,H',I,q⟩:=h;exact⟨a,H',I.jK,q⟩|brk=>obtain⟨a,H',I,q⟩:=h;exact⟨a,H',I.jK,q⟩|cont=>obtain⟨a,H',I,q⟩:=h;exact⟨a,H',I.jK,q⟩|ret u=>obtain⟨v,a,H',I,r,q⟩:=h;exact⟨v,a,H',I.jK,r,q⟩
theorem PE.ϲ{e:È}{t:TE}(h:PE X.ϲ e t):PE X e t:=λÆ s σ H Q I hw=>
 Ϯ (h Æ s σ H Q (I.wish _) hw) (λ_ _ ⟨v,H',I',r,q⟩=>⟨v,H',I'.jK,r,q⟩) λ_ _ z=>aI z
end
section
variable{X:Cx}{st:í}{rest:List í}{t u:TS}{e:È}{te:TE}{pos:Pos}
def N4:TS:=λD a H=>D.nx a H
def Td(t u:TS):TS:=λD a H=>t {D with nx:=u D} a H
def Ca:ca X [] N4:=λ_ _ a H _ I h=>oy ⟨a,H,I,h⟩
def cb(h1:PS X st t)(h2:ca X rest u):ca X (st::rest) (Td t u):=by
 intro Æ s b H D I h;refine wpAny_execs_cons<|ώ (h1 Æ s b H {D with nx:=u D} I h) λf s1 q=>?_;cases f with
 |next=>obtain⟨a,H',I',q⟩:=q;exact h2 Æ s1 a H' D I' q|ret v=>exact q|brk=>exact q|cont=>exact q
def fT(h1:PS X st t):ca X [st] t:=by
 intro Æ s a H D I h;refine wpAny_execs_cons<|ώ (h1 Æ s a H D I h) λf s1 q=>?_;cases f with
 |next=>exact oy q|ret v=>exact q|brk=>exact q|cont=>exact q
def Inv.quiet{Æ:List (À×Obj)}{a:St}{H:Hp}{s:Ã}(I:Inv X Æ a H s):interactive X.env=false:=by simp[interactive,I.ok.kind]
def qB(te:TE):TS:=λD a H=>te a H λ_ H1=>D.nx a H1
def ϝ(he:PE X e te)(hs:ņ e none pos.line X.env=ì false:=by kernel_rfl):PS X (.Expr e pos) (qB te):=λÆ s a H D I h=>wpAny_Expr_any (ώ (he Æ s a H _ I h) λv s1 ⟨x,H1,I1,r1,q1⟩=>⟨a,H1,I1,q1⟩) I.quiet hs
def Te(te:TE):TS:=λD a H=>te a H D.rt
def Kw(he:PE X e te):PS X (.Return (some e) pos) (Te te):=λÆ s a H D I h=>wpAny_Return_some<|ώ (he Æ s a H _ I h) λv s1 ⟨x,H1,I1,r1,q1⟩=>⟨x,a,H1,I1,r1,q1⟩
def Tf(c:TT)(t u:TS):TS:=λD a H=>c a H λb H1=>if b=true then t D a H1 else u D a H1
def EH{c:È}{a b:List í}{tc:TT}(hc:PT X c tc)(ha:ca X a t)(hb:ca X b u):PS X (.If c a b pos) (Tf tc t u):=by
 intro Æ s f H D I h;refine wpAny_If<|ώ (hc Æ s f H _ I h) λd s1 zz=>?_;obtain⟨H1,I1,q1⟩:=zz;cases d with
 |true=>exact ha Æ s1 f H1 D I1 q1|false=>exact hb Æ s1 f H1 D I1 q1
def Kx:TS:=λ_ _ _=>False
def EI:PS X st Kx:=λ_ _ _ _ _ _ h=>h.elim
end
abbrev TG:=V->St->Hp->(St->Hp->Prop)->Prop
abbrev EJ:=List V->St->Hp->(St->Hp->Prop)->Prop
def PG(X:Cx)(target:È)(t:TG):Prop:=
 ∀(Æ:List (À×Obj)) (s:Ã) (b:St) (H:Hp) (v:V) (u:Á) (Q:St->Hp->Prop),Inv X Æ b H s->RelV v u->t v b H Q->
  Ï (Ö X.prog X.w) X.A (de target X.env u) (λ_ s'=>∃a H',Inv X Æ a H' s'/\Q a H') X.xe s
def Ap(X:Cx)(ts:List È)(t:EJ):Prop:=
 ∀(Æ:List (À×Obj)) (s:Ã) (b:St) (H:Hp) (vs:List V) (us:List Á) (Q:St->Hp->Prop),Inv X Æ b H s->ĳ vs us->t vs b H Q->
  Ï (Ö X.prog X.w) X.A (assignInOrder ((ϙ ts X.env).map (·.2)) us) (λ_ s'=>∃a H',Inv X Æ a H' s'/\Q a H') X.xe s
abbrev Ky:=V->V->V->Hp->(Hp->Prop)->Prop
def N5(X:Cx)(t:Ky):Prop:=
 ∀(Æ:List (À×Obj)) (s:Ã) (a:St) (H:Hp) (o i v:V) (ov iv u:Á) (Q:Hp->Prop),Inv X Æ a H s->RelV o ov->RelV i iv->RelV v u->t o i v H Q->
  Ï (Ö X.prog X.w) X.A (setItem ov iv u) (λ_ s'=>∃H',Inv X Æ a H' s'/\Q H') X.xe s
abbrev Q9:=V->V->Hp->VK->Prop
def Xs(X:Cx)(op:oz)(t:Q9):Prop:=
 ∀(Æ:List (À×Obj)) (s:Ã) (a:St) (H:Hp) (x y:V) (v u:Á) (Q:VK),Inv X Æ a H s->RelV x v->RelV y u->t x y H Q->
  Ï (Ö X.prog X.w) X.A (inplaceOp op v u) (EP X Æ a Q) X.xe s
section
variable{X:Cx}{pos:Pos}
def vj(i:Nat):TG:=λv a H Q=>Q (a.set i<|some v) H
def mj{i:Nat}{x:Str}(hN:X.N.Nodup)(hi:X.N[i]?=some x)(hx:Loc X.env.scope x)(hf:X.fn x=true\/X.env.scope.names.lookup x=some .local:=by first|exact .inl rfl|exact .inr rfl|assumption):PG X (.Name x pos) (vj i):=λÆ s a H v u Q I r h=>wpAny_assign_Name<|tw I hN hi hx r (λs' I'=>⟨_,H,I',h⟩) hf
def N6:EJ:=λvs a H Q=>vs=[]/\Q a H
def EK(t:TG)(u:EJ):EJ:=λvs b H Q=>∃v r,vs=v::r/\t v b H λa H'=>u r a H' Q
def xH:Ap X [] N6:=by intro Æ s a H vs us Q I r h;obtain⟨e,h⟩:=h;subst e;cases r;exact assignInOrder_nil ⟨a,H,I,h⟩
def iP{e:È}{es:List È}{t:TG}{u:EJ}(h1:PG X e t)(h2:Ap X es u)
 (hs:(ϙ (e::es) X.env).map (·.2)=de e X.env::(ϙ es X.env).map (·.2):=by rfl):Ap X (e::es) (EK t u):=by
 intro Æ s b H vs us Q I r h;obtain⟨v,vr,e1,h⟩:=h;subst e1;cases r with
 |cons r rr=>rw[hs];refine assignInOrder_cons<|ώ (h1 Æ s b H _ _ _ I r h) λ_ s1 zz=>?_;obtain⟨a,H1,I1,q1⟩:=zz;exact h2 Æ s1 a H1 _ _ Q I1 rr q1
def N7(K:Î)(n:Nat)(t:EJ):TG:=λv b H Q=>∃a xs,v=.ref a/\gk K H a xs/\xs.length=n/\t xs b H Q
def xI{es:List È}{k:Nat}{t:EJ}{n:Nat}(hc:X.calm=true)(h:Ap X es t)
 (hn:(ϙ es X.env).length=n:=by rfl)(gi:(ϙ es X.env).findIdx? (·.1)=none:=by rfl):PG X (.Tuple es k pos) (N7 X.K n t):=by
 intro Æ s c H v u Q I r hw;obtain⟨a,xs,e1,hq,hl,hw⟩:=hw;subst e1;cases r;obtain⟨č,rv,ht,hz⟩:=I.tuple hq;refine assign_Tuple_tuple (I.ok.hd hc) ht (by simp[hn,<-hl,rv.length]) gi λh' hx=>?_;have I1:Inv X Æ c H {s with heap:=h'}:=I.kept (t':=s.toks) λb o e=>hx b o (Ņ<|ā e) e;exact h Æ _ c H xs _ Q I1 (by simpa using rv) hw
def Ti(to ti:TE)(t:Ky):TG:=λv a H Q=>to a H λo H1=>ti a H1 λi H2=>t o i v H2 λH3=>Q a H3
def Kz{o i:È}{to ti:TE}{t:Ky}(ho:PE X o to)(hi:PE X i ti)(hs:N5 X t)
 (ha:∀v,de (.Subscript o i pos) X.env v=(do
   let ov<-cB [v] (eval o X.env)
   let iv<-cB [v,ov] (eval i X.env)
   gR pos
   cB [v,ov,iv] (setItem ov iv v)
   release [v,ov,iv] []):=by intro _;rfl):PG X (.Subscript o i pos) (Ti to ti t):=by
 intro Æ s a H v u Q I r h;rw[ha];refine Ò<|lG<|ώ (ho Æ s a H _ I h) λov s1 zz=>?_;obtain⟨x,H1,I1,r1,q1⟩:=zz;refine Ò<|lG<|ώ (hi Æ s1 a H1 _ I1 q1) λiv s2 zz=>?_;obtain⟨y,H2,I2,r2,q2⟩:=zz;refine Ò<|oA<|Ò<|lG<|ώ (hs Æ s2 a H2 x y v ov iv u _ I2 r1 r2 r q2) λ_ s3 zz=>?_;obtain⟨H3,I3,q3⟩:=zz;exact wpAny_release ⟨a,H3,I3,q3⟩
def Hq(te:TE)(g:TG):TS:=λD a H=>te a H λx H1=>g x a H1 D.nx
def EL{tg e:È}{te:TE}{g:TG}(he:PE X e te)(hg:PG X tg g)(hs:wZ [tg] e pos.line X.env=ì false:=by rfl)(hw:w_ [tg] e X.env=ì none:=by rfl)
 (h1:(ϙ [tg] X.env).map (·.2)=[de tg X.env]:=by rfl):PS X (.Assign [tg] e pos) (Hq te g):=by
 intro Æ s a H D I h;refine wpAny_Assign_stores (ώ (he Æ s a H _ I h) λv s1 zz=>?_) hs hw;obtain⟨x,H1,I1,r1,q1⟩:=zz;rw[h1];exact ώ (hg Æ s1 a H1 x v _ I1 r1 q1) λ_ s2 q=>q
def tE{i:Nat}{x:Str}{e:È}{te:TE}{aY:Pos}(hN:X.N.Nodup)(hi:X.N[i]?=some x)(hx:Loc X.env.scope x)(he:PE X e te)(hs:ņ e (some<|.Name x aY) pos.line X.env=ì false:=by kernel_rfl)(hf:X.fn x=true\/X.env.scope.names.lookup x=some .local:=by first|exact .inl rfl|exact .inr rfl|assumption):
 PS X (.Assign [.Name x aY] e pos) (Hq te<|vj i):=by
 intro Æ s a H D I h;refine wpAny_Assign_Name (ώ (he Æ s a H _ I h) λv s1 zz=>?_) hs;obtain⟨y,H1,I1,r1,q1⟩:=zz;exact tw I1 hN hi hx r1 (λs2 I2=>⟨_,H1,I2,q1⟩) hf
def Tj(i:Nat)(te:TE)(ti:Q9):TS:=λD a H=>∃x,a[i]?=some (some x)/\te a H λy H1=>ti x y H1 λz H2=>D.nx (a.set i<|some z) H2
def KA{i:Nat}{x:Str}{e:È}{te:TE}{op:oz}{ti:Q9}{aY:Pos}(hN:X.N.Nodup)(hi:X.N[i]?=some x)(hx:Loc X.env.scope x)(he:PE X e te)(ho:Xs X op ti)(hf:X.fn x=true\/X.env.scope.names.lookup x=some .local:=by first|exact .inl rfl|exact .inr rfl|assumption):
 PS X (.AugAssign (.Name x aY) op e pos) (Tj i te ti):=by
 intro Æ s a H D I h;obtain⟨v,e1,h⟩:=h;obtain⟨m,hn,hl⟩:=I.loc;have vis:M8 X.env.scope x:=by rcases hx with k|k;exact .inl k;exact .inr<|.inl k
 obtain⟨u,r,l⟩:=hl i x v hi e1 vis;refine wpAny_AugAssign_Name ?_;have go:Ï (Ö X.prog X.w) X.A (eval e X.env) (λw s₂=>Ï (Ö X.prog X.w) X.A (inplaceOp op u w) (λr s₃=>Ï (Ö X.prog X.w) X.A (storeName X.env x r) (λ_=>SP X Æ D .next) X.xe s₃) X.xe s₂) X.xe s:=by refine ώ (he Æ s a H _ I h) λw s1 zz=>?_;obtain⟨y,H1,I1,r1,q1⟩:=zz;refine ώ (ho Æ s1 a H1 v y u w _ I1 r r1 q1) λz s2 zz=>?_;obtain⟨zv,H2,I2,r2,q2⟩:=zz;exact tw I2 hN hi hx r2 (λs3 I3=>⟨_,H2,I3,q2⟩) hf
 rcases l with⟨hk,hm⟩|⟨hk,c,hc,hcell⟩
 ·exact wpAny_loadName_local I.ok.kind hk hn hm go
 ·rcases hk with hk|hk
  ·exact wpAny_loadName_cell I.ok.kind hk hc hcell go
  ·rcases hx with k|k
   ·have:X.env.scope.names.lookup x=some .free:=hk;rw[k]at this;cases this
   ·have:X.env.scope.names.lookup x=some .free:=hk;rw[k]at this;cases this
def ipI(f:Int->Int->Int):Q9:=λx y H Q=>∃i j,x=.int i/\y=.int j/\Q (.int<|f i j) H
end
section
variable{X:Cx}{pos:Pos}
def KC(c:TT)(tb:TS):TS:=λD a H=>∃W:Nat->St->Hp->Prop,(∃m,W m a H)/\∀m a H,W m a H->
 c a H λb H1=>if b=true then ∃N:St->Hp->Prop,(∀d H',N d H'->∃m',m'<m/\W m' d H')/\tb {D with nx:=N,ct:=N,bk:=D.nx} a H1 else D.nx a H1
def EM{c:È}{body:List í}{tc:TT}{tb:TS}(hp:lH (Ö X.prog X.w) X.A X.env X.xe)(hc:PT X c tc)(hb:ca X body tb):PS X (.While c body [] pos) (KC tc tb):=by
 intro Æ s g H D I h;obtain⟨W,⟨m0,w0⟩,turn⟩:=h;refine wpAny_While<|codeAny_whileLoop (λn s'=>∃e H',Inv X Æ e H' s'/\W n e H') ?_ m0 ⟨g,H,I,w0⟩;rintro n s1 ⟨d,H1,I1,w1⟩;refine jC hp<|ώ (hc Æ s1 d H1 _ I1<|turn n d H1 w1) λb s2 zz=>?_;obtain⟨H2,I2,q2⟩:=zz;cases b with
 |true=>
  obtain⟨N,hN,q2⟩:=q2;rw[if_pos rfl];refine jC hp<|ώ (hb Æ s2 d H2 _ I2 q2) λf s3 q3=>?_;cases f with
  |next=>obtain⟨a,H3,I3,n3⟩:=q3;obtain⟨m',hm,w3⟩:=hN a H3 n3;exact⟨m',hm,a,H3,I3,w3⟩|cont=>obtain⟨a,H3,I3,n3⟩:=q3;obtain⟨m',hm,w3⟩:=hN a H3 n3;exact⟨m',hm,a,H3,I3,w3⟩|brk=>exact q3|ret v=>exact q3
 |false=>rw[if_neg aG];exact oy ⟨d,H2,I2,q2⟩
end
structure It where
 go:Nat->Hp->Prop
 N8:Nat->Hp->V->Hp->Prop
 stop:Nat->Hp->Prop
def nu(X:Cx)(Æ:List (À×Obj))(H:Hp)(b:À):Prop:=
 H b=none/\b≠X.env.locals/\b∉X.fs/\(b∈X.ex\/X.s₀.heap.objs.size<=b)/\(∀x c,X.env.cells.lookup x=some c->c≠b)/\∀p∈X.pn++Æ,p.1≠b
def Inv.AC{X:Cx}{Æ:List (À×Obj)}{a:St}{H H':Hp}{s:Ã}{b:À}(I:Inv X Æ a H s)(hb:s.heap.objs.size<=b)(hn:H' b=none):nu X Æ H' b:=by
 refine⟨hn,db<|Ť I.lt hb,I.S8 hb,.inr<|ř I.sz hb,λx c e z=>?_,λp hp z=>?_⟩
 ·obtain⟨v,q⟩:=I.cell x c e;exact absurd (Ť q.lt (by rw[z];exact hb))<|eo _
 ·exact absurd (Ť (ā (I.pin p hp).1) (by rw[z];exact hb))<|eo _
structure Br(P:ä)(w:Þ)(K:Î)(tg:È)(J:It)(fp:List À)(it:À)(tn:Nat->Ñ->Prop):Prop where
 mem:it∈fp
 obj:∀i h,tn i h->∀b∈fp,∃o,h.get? b=some o/\∀v,o.data≠.cell v
 keep:∀i h h',tn i h->(∀b∈fp,∀o,h.get? b=some o->h'.get? b=some o)->tn i h'
 item:∀(X:Cx),X.prog=P->X.w=w->X.K=K->X.calm=true->∀(i:Nat) (Æ:List (À×Obj)) (s:Ã) (σ:St) (H:Hp) (E:Á->Ã->Prop),Inv X Æ σ H s->(∀b∈fp,nu X Æ H b)->tn i s.heap->J.go i H->
  Ï (Ö P w) X.A (df<|.ref it) (λr s1=>∃u,r=some u/\
   Ï (Ö P w) X.A (sv tg (.ref it) u) (λ_ s2=>∃x H',Inv X Æ σ H' s2/\RelV x u/\J.N8 i H x H'/\tn (i+1) s2.heap/\∀b∈fp,H' b=none) E s1) E s
 done:∀(X:Cx),X.prog=P->X.w=w->X.K=K->X.calm=true->∀(i:Nat) (Æ:List (À×Obj)) (s:Ã) (σ:St) (H:Hp) (E:Á->Ã->Prop),Inv X Æ σ H s->(∀b∈fp,nu X Æ H b)->tn i s.heap->J.stop i H->
  Ï (Ö P w) X.A (df<|.ref it) (λr s1=>r=none/\Inv X Æ σ H s1) E s
 self:∀(A:ê) (i:Nat) (s:Ã) (Q:Á->Ã->Prop) (E:Á->Ã->Prop),tn i s.heap->Q (.ref it) s->Ï (Ö P w) A (gU<|.ref it) Q E s
abbrev TI:=St->Hp->(It->Hp->Prop)->Prop
def SW(X:Cx)(Æ:List (À×Obj))(a:St)(tg:È)(R:It->Hp->Prop)(WN:Á)(s2:Ã):Prop:=
 ∃(it:À) (fp:List À) (tn:Nat->Ñ->Prop) (J:It) (H':Hp),WN=.ref it/\Inv X Æ a H' s2/\Br X.prog X.w X.K tg J fp it tn/\tn 0 s2.heap/\(∀b∈fp,nu X Æ H' b)/\R J H'
def PI(X:Cx)(tg iter:È)(wi:TI):Prop:=
 ∀(Æ:List (À×Obj)) (s:Ã) (a:St) (H:Hp) (R:It->Hp->Prop),Inv X Æ a H s->wi a H R->
  Ï (Ö X.prog X.w) X.A (eval iter X.env) (λv s1=>Ï (Ö X.prog X.w) X.A (gU v) (SW X Æ a tg R) X.xe s1) X.xe s
def Cb{M:fK}{A:ê}{E:Á->Ã->Prop}{s:Ã}{tg:È}{it:À}{u:Á}{o:Obj}{n:String}{vs:Array Á}{Q:Unit->Ã->Prop}(ho:s.heap.get? it=some o)(hc:o.cls=.type n)(hd:o.data=.fields vs)
 (hn:["enumerate","zip","dict_itemiterator","dict_reverseitemiterator","odict_iterator","itertools.zip_longest","itertools.pairwise"].contains n=false)(hQ:Q () s):Ï M A (sv tg (.ref it) u) Q E s:=by
 unfold sv;cases tg<;>first
  |exact ĉ hQ
  |(cases u<;>first
     |exact ĉ hQ
     |(refine Ò<|wpAny_load ho ?_
       rw[hc,hd];show Ï M A (if(["enumerate","zip","dict_itemiterator","dict_reverseitemiterator","odict_iterator","itertools.zip_longest","itertools.pairwise"].contains n&&vs[0]?==some (dg _))=true then _ else _) Q E s;rw[if_neg (by intro h;rw[hn,Bool.false_and]at h;cases h)];exact ĉ hQ))
noncomputable def Jt(K:Î)(a:À):It:=
 ⟨λi H=>∃xs x,Ϫ K H a xs/\xs[i]?=some x,λi H x H'=>H'=H/\∀xs,Ϫ K H a xs->xs[i]?=some x,λi H=>∃xs,Ϫ K H a xs/\xs.length<=i⟩
noncomputable def N9(K:Î)(a:À):It:=
 ⟨λi H=>∃xs x,gk K H a xs/\xs[i]?=some x,λi H x H'=>H'=H/\∀xs,gk K H a xs->xs[i]?=some x,λi H=>∃xs,gk K H a xs/\xs.length<=i⟩
noncomputable def Ra(lo:Int)(n:Nat):It:=⟨λi _=>i<n,λi H x H'=>H'=H/\x=.int (lo+i),λi _=>n<=i⟩
def Dq{P:ä}{w:Þ}{K:Î}{tg:È}(a it:À):Br P w K tg (Jt K a) [it] it (λi h=>h.IsListIter it a i) where
 mem:=by simp
 obj:=λi h st b hb=>by
  have e:b=it:=by simpa using hb
  subst e;obtain⟨o,e,c,d⟩:=st;exact⟨o,e,λv z=>by rw[d]at z;cases z⟩
 keep:=λi h h' st k=>st.at λo e=>k it (by simp) o e
 item:=by intro X hP hw hK hc i Æ s f H E I hf st hg;subst hP hw hK;obtain⟨xs,x,hq,hx⟩:=hg;obtain⟨č,rv,p,hz⟩:=I.list hq;obtain⟨u,hu,ru⟩:=rv.get hx;obtain⟨f0,f1,f2,f3,f4,f5⟩:=hf it (by simp);refine wpAny_pyNext_list_item st p.isList (x:=u) (by simpa using hu) λh' El sb=>?_;have I1:Inv X Æ f H {s with heap:=h'}:=I.turned (t':=s.toks) (λb o hb e=>(sb.2 b hb).trans e) f0 f1 f3 f4 f5;obtain⟨o,e,c,d⟩:=id El;exact⟨u,rfl,Cb (s:={s with heap:=h'}) e c d (by decide) ⟨x,H,I1,ru,⟨rfl,λys hy=>by rw[I.tz hy hq];exact hx⟩,El,λb hb=>(hf b hb).1⟩⟩
 done:=by intro X hP hw hK hc i Æ s f H E I hf st hg;subst hP hw hK;obtain⟨xs,hq,hx⟩:=hg;obtain⟨č,rv,p,hz⟩:=I.list hq;obtain⟨f0,f1,f2,f3,f4,f5⟩:=hf it (by simp);have hl:=rv.length;exact wpAny_pyNext_list_end (I.ok.hd hc) st p.isList (by simp;lia) λh' eb=>⟨rfl,I.turned (t':=s.toks) (λb o hb e=>eb b o hb e) f0 f1 f3 f4 f5⟩
 self:=λ_ _ _ _ _ st h=>wpAny_pyIter_listiter st h
def AD{P:ä}{w:Þ}{K:Î}{tg:È}(a it:À):Br P w K tg (N9 K a) [it] it (λi h=>h.IsTupleIter it a i) where
 mem:=by simp
 obj:=λi h st b hb=>by
  have e:b=it:=by simpa using hb
  subst e;obtain⟨o,e,c,d⟩:=st;exact⟨o,e,λv z=>by rw[d]at z;cases z⟩
 keep:=λi h h' st k=>st.at λo e=>k it (by simp) o e
 item:=by intro X hP hw hK hc i Æ s f H E I hf st hg;subst hP hw hK;obtain⟨xs,x,hq,hx⟩:=hg;obtain⟨č,rv,p,hz⟩:=I.tuple hq;obtain⟨u,hu,ru⟩:=rv.get hx;obtain⟨f0,f1,f2,f3,f4,f5⟩:=hf it (by simp);refine wpAny_pyNext_tuple_item st (show s.heap.IsTuple a č.toArray from p) (x:=u) (by simpa using hu) λh' El sb=>?_;have I1:Inv X Æ f H {s with heap:=h'}:=I.turned (t':=s.toks) (λb o hb e=>(sb.2 b hb).trans e) f0 f1 f3 f4 f5;obtain⟨o,e,c,d⟩:=id El;exact⟨u,rfl,Cb (s:={s with heap:=h'}) e c d (by decide) ⟨x,H,I1,ru,⟨rfl,λys hy=>by rw[I.vi hy hq];exact hx⟩,El,λb hb=>(hf b hb).1⟩⟩
 done:=by intro X hP hw hK hc i Æ s f H E I hf st hg;subst hP hw hK;obtain⟨xs,hq,hx⟩:=hg;obtain⟨č,rv,p,hz⟩:=I.tuple hq;obtain⟨f0,f1,f2,f3,f4,f5⟩:=hf it (by simp);have hl:=rv.length;exact wpAny_pyNext_tuple_end (I.ok.hd hc) st (show s.heap.IsTuple a č.toArray from p) (by simp;lia) λh' eb=>⟨rfl,I.turned (t':=s.toks) (λb o hb e=>eb b o hb e) f0 f1 f3 f4 f5⟩
 self:=λ_ _ _ _ _ st h=>wpAny_pyIter_tupleiter st h
def AE{P:ä}{w:Þ}{K:Î}{tg:È}(it:À)(lo:Int)(n:Nat):Br P w K tg (Ra lo n) [it] it (λi h=>IsRangeIter h it (lo+(i:Nat)*1) ((n:Int)-(i:Nat)) 1) where
 mem:=by simp
 obj:=λi h st b hb=>by
  have e:b=it:=by simpa using hb
  subst e;exact⟨_,st,λv z=>by have z':xk _=oI v:=z;cases z'⟩
 keep:=λi h h' st k=>k it (by simp) _ st
 item:=by intro X hP hw hK hc i Æ s a H E I hf st hg;subst hP hw hK;obtain⟨f0,f1,f2,f3,f4,f5⟩:=hf it (by simp);have W:=Walks.range (prog:=X.prog) (w:=X.w) (I.ok.hd hc) it lo 1 n;refine W.item i s _ _ hg st λv h' tk hv El kk=>?_;obtain⟨t,rfl⟩:=hv;have I1:Inv X Æ a H {s with heap:=h',toks:=tk}:=I.turned (λb o hb e=>kk b o (by simpa using hb) e) f0 f1 f3 f4 f5;refine⟨_,rfl,Cb (s:={s with heap:=h',toks:=tk}) (n:="range_iterator") El rfl rfl (by decide) ⟨.int<|lo+i,H,I1,⟨t,?_⟩,⟨rfl,rfl⟩,El,λb hb=>(hf b hb).1⟩⟩;rw[Int.mul_one]
 done:=by intro X hP hw hK hc i Æ s a H E I hf st hg;subst hP hw hK;obtain⟨f0,f1,f2,f3,f4,f5⟩:=hf it (by simp);exact wpAny_pyNext_range_end (I.ok.hd hc) st (by have:n<=i:=hg;lia) λh' eb=>⟨rfl,I.turned (t':=s.toks) (λb o hb e=>eb b o hb e) f0 f1 f3 f4 f5⟩
 self:=λ_ _ _ _ _ st h=>wpAny_pyIter_rangeiter st h
section
variable{X:Cx}{tg:È}
def EN{Æ:List (À×Obj)}{a:St}{H:Hp}{s:Ã}{R:It->Hp->Prop}{E:Á->Ã->Prop}{lo hi:Int}{t u v:Tok}{tk:Nat}(I:Inv X Æ a H s)(h1: -(2^62)<=lo)(h2:lo<2^62)(h3: -(2^62)<=hi)(h4:hi<2^62)
 (q:R (Ra lo (hi-lo).toNat) H):Ï (Ö X.prog X.w) X.A (gU<|.ref s.heap.objs.size) (SW X Æ a tg R) E {s with heap:=s.heap.push {cls:=.type "range",data:=.fields #[.int lo t,.int hi u,.int 1 v]},toks:=tk}:=by
 refine wpAny_pyIter_range (IsRange.new ..) (small_one h1 h2 h3 h4) ?_;have I1:Inv X Æ a H {s with heap:=s.heap.push {cls:=.type "range",data:=.fields #[.int lo t,.int hi u,.int 1 v]},toks:=tk}:=I.kept λb o e=>Ă _ e;refine⟨(s.heap.push {cls:=.type "range",data:=.fields #[.int lo t,.int hi u,.int 1 v]}).objs.size,[(s.heap.push {cls:=.type "range",data:=.fields #[.int lo t,.int hi u,.int 1 v]}).objs.size],_,_,H,rfl,
  I1.kept (t':=tk) λb o e=>Ă _ e,AE _ lo (hi-lo).toNat,?_,λb hb=>?_,q⟩
 ·have e1:lo+((0:Nat):Int)*1=lo:=by simp
  have e2:(((hi-lo).toNat:Nat):Int)-((0:Nat):Int)=Builtin.Range.rangeSize lo hi 1:=by rw[rangeSize_one];split<;>lia
  show IsRangeIter _ _ (lo+((0:Nat):Int)*1) ((((hi-lo).toNat:Nat):Int)-((0:Nat):Int)) 1;rw[e1,e2];exact į _ rfl
 ·have e:b=(s.heap.push {cls:=.type "range",data:=.fields #[.int lo t,.int hi u,.int 1 v]}).objs.size:=by simpa using hb
  subst e;exact I1.AC (ø _)<|I1.hok.fresh<|ø _
def Oa(ta:TA):TI:=λa H R=>ta a H λvs H1=>∃j:Int,vs=[.int j]/\ -(2^62)<=j/\j<2^62/\R (Ra 0 j.toNat) H1
def Dr{a:È}{ta:TA}{p pos:Pos}(hg:Gl X "range")(hm:X.mg "range"=none)(ha:PA X [a] ta)(hs:Ð [a] X.env=[(false,eval a X.env)]:=by rfl):PI X tg (.Call (.Name "range" p) [a] [] pos) (Oa ta):=by
 intro Æ s b H R I h;refine Call_<|qb I hg hm boot_range<|sr (ώ (ha pos Æ s b H _ I h) λus s1 zz=>?_) hs rfl;obtain⟨vs,H1,I1,r1,q1⟩:=zz;obtain⟨j,e,q1,q2,q⟩:=q1;subst e;cases r1 with
 |cons r rr=>cases rr;obtain⟨t,rfl⟩:=r;exact call_range_1 (EN I1 (by lia) (by lia) q1 q2<|by simpa using q)
def Tk(wi:TI)(g:TG)(tb:TS):TS:=λD a H=>wi a H λJ H1=>∃W:Nat->Nat->St->Hp->Prop,(∃m,W 0 m a H1)/\∀i m a H,W i m a H->
 (J.stop i H/\D.nx a H)\/(J.go i H/\∃N:St->Hp->Prop,(∀b H',N b H'->∃m',m'<m/\W (i+1) m' b H')/\∀x H',J.N8 i H x H'->g x a H' λc H2=>tb {D with nx:=N,ct:=N,bk:=D.nx} c H2)
noncomputable def tF(fp:List À)(h:Ñ):List (À×Obj):=fp.filterMap λb=>(h.get? b).map λo=>(b,o)
def jL{fp:List À}{h:Ñ}{b:À}{o:Obj}(hb:b∈fp)(e:h.get? b=some o):(b,o)∈tF fp h:=wx.mpr ⟨b,hb,by rw[e];rfl⟩
def Dt{fp:List À}{h:Ñ}{p:À×Obj}(hp:p∈tF fp h):p.1∈fp/\h.get? p.1=some p.2:=by
 obtain⟨b,hb,e⟩:=wx.mp hp;cases q:h.get? b with
 |none=>rw[q]at e;cases e|some o=>rw[q]at e;have e':(b,o)=p:=Ś e;subst e';exact⟨hb,q⟩
def Inv.pinned{Æ:List (À×Obj)}{a:St}{H:Hp}{s:Ã}{fp:List À}(I:Inv X Æ a H s)(hf:∀b∈fp,nu X Æ H b)(ho:∀b∈fp,∃o,s.heap.get? b=some o/\∀v,o.data≠.cell v):Inv X (Æ++tF fp s.heap) a H s:=
 I.B9 fun p hp=>(Ů.mp hp).elim (fun z=>I.pin p<|d_ _ z) fun z=>by obtain⟨hb,e⟩:=Dt z;obtain⟨f0,f1,f2,_⟩:=hf p.1 hb;obtain⟨o,e',d⟩:=ho p.1 hb;rw[e]at e';cases e';exact⟨e,f0,f1,f2,d⟩
def Inv.oR{Æ pl:List (À×Obj)}{a:St}{H:Hp}{s:Ã}(I:Inv X (Æ++pl) a H s):Inv X Æ a H s:=I.B9 λp hp=>I.pin p<|d_ _<|n_ _ hp
def AF{iter:È}{body:List í}{wi:TI}{g:TG}{tb:TS}{pos:Pos}(hp:lH (Ö X.prog X.w) X.A X.env X.xe)(hc:X.calm=true)(hi:PI X tg iter wi)(hg:PG X tg g)(hb:ca X body tb)
 (hs:∀x,cC iter X.env x=ì x:=by intro _;rfl):PS X (.For tg iter body [] pos) (Tk wi g tb):=by
 intro Æ s l H D I h;refine wpAny_For (ώ (hi Æ s l H _ I h) λv s1 h1=>ώ h1 λWN s2 h2=>?_) hs;obtain⟨it,fp,tn,J,H2,e,I2,T,Hb,f2,W,⟨m0,w0⟩,turn⟩:=h2;subst e;have stat:∀{H':Hp},(∀b∈fp,H' b=none)->∀b∈fp,nu X Æ H' b:=λhn b hb=>⟨hn b hb,(f2 b hb).2⟩;refine codeAny_forLoop_any (λn s'=>∃i c H',Inv X Æ c H' s'/\tn i s'.heap/\(∀b∈fp,H' b=none)/\W i n c H') ?_ m0 ⟨0,l,H2,I2,Hb,λb hb=>(f2 b hb).1,w0⟩;rintro n s3 ⟨i,j,H3,I3,st3,Xt,w3⟩;rcases turn i n j H3 w3 with⟨stop,qn⟩|⟨go,N,hN,step⟩
 ·refine jC hp<|ώ (T.done X rfl rfl rfl hc i Æ s3 j H3 X.xe I3 (stat Xt) st3 stop) λr s4 ⟨hr,I4⟩=>?_;subst hr;exact oy ⟨j,H3,I4,qn⟩
 ·refine jC hp<|ώ (T.item X rfl rfl rfl hc i Æ s3 j H3 X.xe I3 (stat Xt) st3 go) λr s4 ⟨u,hr,h4⟩=>?_;subst hr;refine jC hp<|ώ h4 λ_ s5 zz=>?_;obtain⟨x,H5,I5,r5,y5,M9,Rb⟩:=zz;have I5':=I5.pinned (stat Rb)<|T.obj _ _ M9;refine jC hp<|ώ (hg _ s5 j H5 x u _ I5' r5<|step x H5 y5) λ_ s6 zz=>?_;obtain⟨k,H6,I6,q6⟩:=zz;refine jC hp<|ώ (hb _ s6 k H6 _ I6 q6) λf s7 q7=>?_;have again:∀{a:St}{H7:Hp},Inv X (Æ++tF fp s5.heap) a H7 s7->N a H7->∃m,m<n/\∃i c H',Inv X Æ c H' s7/\tn i s7.heap/\(∀b∈fp,H' b=none)/\W i m c H':=fun{a H7} I7 n7=>by
   obtain⟨m',hm,w7⟩:=hN a H7 n7;refine⟨m',hm,i+1,a,H7,I7.oR,T.keep _ _ _ M9 λb hb o e=>(I7.pin (b,o)<|d_ _<|d_ _<|jL hb e).1,λb hb=>?_,w7⟩;obtain⟨o,e,d⟩:=T.obj _ _ M9 b hb;exact(I7.pin (b,o)<|d_ _<|d_ _<|jL hb e).2.1
  cases f with
  |next=>obtain⟨a,H7,I7,n7⟩:=q7;exact again I7 n7|cont=>obtain⟨a,H7,I7,n7⟩:=q7;exact again I7 n7|brk=>obtain⟨a,H7,I7,q7⟩:=q7;exact⟨a,H7,I7.oR,q7⟩|ret v=>obtain⟨x7,a,H7,I7,r7,q7⟩:=q7;exact⟨x7,a,H7,I7.oR,r7,q7⟩
end
abbrev R2:=V->V->Hp->VK->Prop
def ae(X:Cx)(f:Á->Á->Sem Á)(r:R2):Prop:=
 ∀(Æ:List (À×Obj)) (s:Ã) (a:St) (H:Hp) (x y:V) (v u:Á) (Q:VK),Inv X Æ a H s->RelV x v->RelV y u->r x y H Q->
  Ï (Ö X.prog X.w) X.A (f v u) (EP X Æ a Q) X.xe s
def G0(X:Cx)(f:Á->Sem Á)(r:V->Hp->VK->Prop):Prop:=
 ∀(Æ:List (À×Obj)) (s:Ã) (a:St) (H:Hp) (x:V) (v:Á) (Q:VK),Inv X Æ a H s->RelV x v->r x H Q->
  Ï (Ö X.prog X.w) X.A (f v) (EP X Æ a Q) X.xe s
def Ŗ(X:Cx)(f:Á)(r:List V->Hp->VK->Prop):Prop:=
 ∀(Æ:List (À×Obj)) (s:Ã) (a:St) (H:Hp) (xs:List V) (us:List Á) (Q:VK),Inv X Æ a H s->ĳ xs us->r xs H Q->
  Ï (Ö X.prog X.w) X.A (call f us) (EP X Æ a Q) X.xe s
def Tl(X:Cx)(r:V->Hp->(Bool->Hp->Prop)->Prop):Prop:=
 ∀(Æ:List (À×Obj)) (s:Ã) (a:St) (H:Hp) (x:V) (v:Á) (Q:Bool->Hp->Prop),Inv X Æ a H s->RelV x v->r x H Q->
  Ï (Ö X.prog X.w) X.A (truthy v) (TP X Æ a Q) X.xe s
def Ju(r:R2)(ta tb:TE):TE:=λa H Q=>ta a H λx H1=>tb a H1 λy H2=>r x y H2 Q
def Xu(r:V->Hp->VK->Prop)(ta:TE):TE:=λa H Q=>ta a H λx H1=>r x H1 Q
def rI(C:Int->Int->Prop)(g:Int->Int->V):R2:=λx y H Q=>∃i j,x=.int i/\y=.int j/\C i j/\Q (g i j) H
def EO(g:Int->Int->V):R2:=λx y H Q=>∃i j,x=.int i/\y=.int j/\Q (g i j) H
def rU(g:Int->V):V->Hp->VK->Prop:=λx H Q=>∃i,x=.int i/\Q (g i) H
section
variable{X:Cx}{a b:È}{ta tb:TE}{pos:Pos}
def KD(ha:PE X a ta)(hb:PE X b tb){Æ:List (À×Obj)}{s:Ã}{c:St}{H:Hp}{R:V->V->Hp->Prop}(I:Inv X Æ c H s)
 (h:ta c H λx H1=>tb c H1 λy H2=>R x y H2){Q:Á->Ã->Prop}{f:Á->Á->Sem Á}
 (hf:∀v u s2 x y H2,Inv X Æ c H2 s2->RelV x v->RelV y u->R x y H2->Ï (Ö X.prog X.w) X.A (f v u) Q X.xe s2):
 Ï (Ö X.prog X.w) X.A (eval a X.env) (λv s₁=>Ï (Ö X.prog X.w) X.A (eval b X.env) (λu s₂=>Ï (Ö X.prog X.w) X.A (f v u) Q X.xe s₂) X.xe s₁) X.xe s:=by
 refine ώ (ha Æ s c H _ I h) λv s1 zz=>?_;obtain⟨x,H1,I1,r1,q1⟩:=zz;refine ώ (hb Æ s1 c H1 _ I1 q1) λu s2 zz=>?_;obtain⟨y,H2,I2,r2,q2⟩:=zz;exact hf v u s2 x y H2 I2 r1 r2 q2
def EQ{op:oz}{r:R2}(ho:ae X (Į op) r)(ha:PE X a ta)(hb:PE X b tb):PE X (.BinOp a op b pos) (Ju r ta tb):=λÆ s c H Q I h=>wpAny_BinOp<|KD ha hb I h λv u s2 x y H2 I2 rx ry q=>ho Æ s2 c H2 x y v u Q I2 rx ry q
def Jv{op:UnaryOp}{r:V->Hp->VK->Prop}(ho:G0 X (unaryOp op) r)(ha:PE X a ta):PE X (.UnaryOp op a pos) (Xu r ta):=λÆ s c H Q I h=>UnaryOp_<|ώ (ha Æ s c H _ I h) λv s1 ⟨x,H1,I1,r1,q1⟩=>ho Æ s1 c H1 x v Q I1 r1 q1
def Cc{f:Á->Á->Sem Á}{C:Int->Int->Prop}{g:Int->Int->Int}
 (rule:∀(i j:Int) (t u:Tok) (s:Ã) (Q:Á->Ã->Prop) (E:Á->Ã->Prop),C i j->Q (.int (g i j) s.toks) {s with toks:=s.toks+1}->Ï (Ö X.prog X.w) X.A (f (.int i t)<|.int j u) Q E s):
 ae X f (rI C λi j=>.int<|g i j):=by
 intro Æ s c H x y v u Q I rx ry h;obtain⟨i,j,rfl,rfl,hc,q⟩:=h;obtain⟨t,rfl⟩:=rx;obtain⟨t',rfl⟩:=ry;exact rule i j t t' s _ _ hc ⟨.int<|g i j,H,I.tok _,⟨_,rfl⟩,q⟩
def uT{f:Á->Á->Sem Á}{g:Int->Int->Int}
 (rule:∀(i j:Int) (t u:Tok) (s:Ã) (Q:Á->Ã->Prop) (E:Á->Ã->Prop),Q (.int (g i j) s.toks) {s with toks:=s.toks+1}->Ï (Ö X.prog X.w) X.A (f (.int i t)<|.int j u) Q E s):
 ae X f (EO λi j=>.int<|g i j):=by
 intro Æ s c H x y v u Q I rx ry h;obtain⟨i,j,rfl,rfl,q⟩:=h;obtain⟨t,rfl⟩:=rx;obtain⟨t',rfl⟩:=ry;exact rule i j t t' s _ _ ⟨.int<|g i j,H,I.tok _,⟨_,rfl⟩,q⟩
def Hr{f:Á->Á->Sem Á}{g:Int->Int->Bool}
 (rule:∀(i j:Int) (t u:Tok) (s:Ã) (Q:Á->Ã->Prop) (E:Á->Ã->Prop),Q (.bool<|g i j) s->Ï (Ö X.prog X.w) X.A (f (.int i t)<|.int j u) Q E s):
 ae X f (EO λi j=>.bl<|g i j):=by
 intro Æ s c H x y v u Q I rx ry h;obtain⟨i,j,rfl,rfl,q⟩:=h;obtain⟨t,rfl⟩:=rx;obtain⟨t',rfl⟩:=ry;exact rule i j t t' s _ _ ⟨.bl<|g i j,H,I,rfl,q⟩
def Ob(i j:Int):Prop:=0<j/\j<1073741824
def Du(i j:Int):Prop:=0<=j/\j<=1000000/\i.natAbs<2^64
def KE(i j:Int):Prop:=(-(2^64)<i/\i<2^64)\/(-(2^64)<j/\j<2^64)
def KE.ok{i j:Int}(h:KE i j):IntMulOk i j:=by
 rcases h with⟨h1,h2⟩|⟨h1,h2⟩
 ·exact .of_left<|intBits_le_64 h1 h2
 ·exact .of_right<|intBits_le_64 h1 h2
def AG(k:Nat):(0:Int)<=2^k:=by rw[two_pow_cast];exact lr _
def KG:ae X (Į .Add) (EO λi j=>.int<|i+j):=uT λ_ _ _ _ _ _ _ q=>add_int q
def KH:ae X (Į .Sub) (EO λi j=>.int<|i-j):=uT λ_ _ _ _ _ _ _ q=>sub_int q
def Hs:ae X (Į .Mod) (rI (λ_ j=>j≠0) λi j=>.int<|i.fmod j):=Cc λ_ _ _ _ _ _ _ hc q=>mod_int' hc q
def KI:ae X (Į .Pow) (rI Du λi j=>.int<|i^j.toNat):=Cc λ_ _ _ _ _ _ _ hc q=>pow_int_small hc.1 hc.2.1 hc.2.2 q
def KJ:ae X (Į .LShift) (rI Du λi j=>.int<|i*2^j.toNat):=Cc λ_ _ _ _ _ _ _ hc q=>lshift_int_small hc.1 hc.2.1 hc.2.2 q
def KL:ae X (Į .RShift) (rI (λ_ j=>0<=j) λi j=>.int<|i/2^j.toNat):=Cc λi j _ _ _ _ _ hc q=>
 rshift_int hc (by rw[nZ i<|AG _];exact q)
def KN:ae X (Į .BitAnd) (EO λi j=>.int<|eE i j):=uT λ_ _ _ _ _ _ _ q=>and_int q
def Oc:ae X (Į .BitOr) (EO λi j=>.int<|eG i j):=uT λ_ _ _ _ _ _ _ q=>or_int q
def unI{f:Á->Sem Á}{g:Int->Int}
 (rule:∀(i:Int) (t:Tok) (s:Ã) (Q:Á->Ã->Prop) (E:Á->Ã->Prop),Q (.int (g i) s.toks) {s with toks:=s.toks+1}->Ï (Ö X.prog X.w) X.A (f<|.int i t) Q E s):
 G0 X f (rU λi=>.int<|g i):=by
 intro Æ s c H x v Q I rx h;obtain⟨i,rfl,q⟩:=h;obtain⟨t,rfl⟩:=rx;exact rule i t s _ _ ⟨.int<|g i,H,I.tok _,⟨_,rfl⟩,q⟩
def ER:G0 X (unaryOp .USub) (rU λi=>.int<|-i):=unI λ_ _ _ _ _ q=>neg_int q
end
section
variable{X:Cx}{a b:È}{ta tb:TE}{pos:Pos}
def KO{Æ:List (À×Obj)}{c:St}{H:Hp}{s:Ã}{Q:VK}{k k':Bool}(I:Inv X Æ c H s)(q:Q (.bl k) H)(e:k=k'):EP X Æ c Q (.bool k') s:=by subst e;exact⟨.bl k,H,I,rfl,q⟩
def Od:ae X (ĭ .Lt) (EO λi j=>.bl<|decide<|i<j):=Hr λ_ _ _ _ _ _ _ q=>lt_int q
def Oe:ae X (ĭ .LtE) (EO λi j=>.bl<|decide<|i<=j):=Hr λ_ _ _ _ _ _ _ q=>le_int q
def Of:ae X (ĭ .Gt) (EO λi j=>.bl<|decide<|j<i):=Hr λ_ _ _ _ _ _ _ q=>gt_int q
def Og:ae X (ĭ .GtE) (EO λi j=>.bl<|decide<|j<=i):=Hr λ_ _ _ _ _ _ _ q=>ge_int q
def nv:ae X (ĭ .Is) (λx y H Q=>y=.non/\Q (.bl<|decide<|x=.non) H):=by
 intro Æ s c H x y v u Q I rx ry h;obtain⟨rfl,q⟩:=h;cases ry;refine is_none_gen<|KO I q ?_;cases x<;>first
  |(cases rx;rfl)
  |(obtain⟨t,rfl⟩:=rx;rfl)
def ae.or{f:Á->Á->Sem Á}{r r':R2}(h:ae X f r)(h':ae X f r'):ae X f (λx y H Q=>r x y H Q\/r' x y H Q):=by
 intro Æ s c H x y v u Q I rx ry q;rcases q with q|q
 ·exact h Æ s c H x y v u Q I rx ry q
 ·exact h' Æ s c H x y v u Q I rx ry q
def ň(b:È){op:fL}(h:op≠.In:=by decide)(h2:op≠.NotIn:=by decide):lI op b=false:=by
 have e1:(op==CmpOp.In)=false:=by cases op<;>first|rfl|exact absurd rfl h
 have e2:(op==CmpOp.NotIn)=false:=by cases op<;>first|rfl|exact absurd rfl h2
 cases b<;>simp[lI,e1,e2]
def Ht{op:fL}{r:R2}(ho:ae X (ĭ op) r)(ha:PE X a ta)(hb:PE X b tb)(hm:lI op b=false):PE X (.Compare a [op] [b] pos) (Ju r ta tb):=λÆ s c H Q I h=>wpAny_Compare1 (KD ha hb I h λv u s2 x y H2 I2 rx ry q=>ho Æ s2 c H2 x y v u Q I2 rx ry q) hm
def KP(K:Î)(x:V)(H:Hp)(k:Bool):Prop:=
 match x with
 |.non=>k=false|.bl b=>k=b|.int i=>k=(i !=0)|.str y=>y.length<=sizeLine/\k=((y.length:Int) !=0)|.Jr y=>y.size<=sizeLine/\k=((y.size:Int) !=0)|.ref p=>(∃xs,Ϫ K H p xs/\k=!xs.isEmpty)\/(∃xs,gk K H p xs/\k=!xs.isEmpty)\/∃ı,H p=some (.dK ı)/\k=!ı.isEmpty|_=>False
def AH{κ:Type}{ı:List (κ×V)}{vs:List (κ×Á)}(r:KV ı vs):(!vs.isEmpty)=!ı.isEmpty:=by cases r<;>rfl
def tH{xs:List V}{č:List Á}(r:ĳ xs č):(!č.toArray.isEmpty)=!xs.isEmpty:=by cases r<;>simp
def qc:(sizeLine:Nat)<2^63:=by rw[cD];decide
def KQ:Tl X (λx H Q=>∃k,KP X.K x H k/\Q k H):=by
 intro Æ s c H x v Q I rx h;obtain⟨k,e,q⟩:=h;have hl:=qc;have hs:sizeLine=16777216:=cD;cases x with
 |non=>cases rx;have e':k=false:=e;subst e';exact truthy_none ⟨H,I,q⟩|bl b=>cases rx;have e':k=b:=e;subst e';exact fM ⟨H,I,q⟩|int i=>obtain⟨t,rfl⟩:=rx;have e':k=(i !=0):=e;subst e';exact PySem.P.truthy_int ⟨H,I,q⟩|str y=>obtain⟨t,rfl⟩:=rx;obtain⟨hy,e'⟩:y.length<=sizeLine/\k=((y.length:Int) !=0):=e;subst e';exact PySem.P.truthy_str (by lia) ⟨H,I.tok _,q⟩|Jr y=>obtain⟨t,rfl⟩:=rx;obtain⟨hy,e'⟩:y.size<=sizeLine/\k=((y.size:Int) !=0):=e;subst e';exact PySem.W.truthy_bytes (by lia) ⟨H,I.tok _,q⟩|ref p=>
  cases rx;have e':(∃xs,Ϫ X.K H p xs/\k=!xs.isEmpty)\/(∃xs,gk X.K H p xs/\k=!xs.isEmpty)\/∃ı,H p=some (.dK ı)/\k=!ı.isEmpty:=e;rcases e' with⟨xs,hx,e'⟩|⟨xs,hx,e'⟩|⟨ı,hx,e'⟩
  ·subst e';obtain⟨č,r,pl,hz⟩:=I.list hx;have hlen:=r.length;exact wpAny_truthy_list pl.isList (by simp only[Ĩ];lia) ⟨H,I.tok _,by rw[tH r];exact q⟩
  ·subst e';obtain⟨č,r,pl,hz⟩:=I.tuple hx;have hlen:=r.length;exact truthy_tuple pl (by simp only[Ĩ];lia) ⟨H,I.tok _,by rw[tH r];exact q⟩
  ·subst e';obtain⟨hz,hS,vs,r,m⟩:ı.length<=sizeLine/\(p==cA)=false/\∃vs,KV ı vs/\s.heap.DictOf (aP X.prog X.w) p vs:=I.hok p _ hx;have hlen:ı.length=vs.length:=Paired.length r;exact wpAny_truthy_dict hS m (by lia) ⟨H,I.tok _,by rw[AH r];exact q⟩
 |_=>exact(show False from e).elim
def ES(ha:PE X a ta)(he:∀whole,isTrue a X.env whole=(do let v<-whole;gR a.pos;cB [v] (truthy v))):
 PT X a (λc H Q=>ta c H λx H'=>∃k,KP X.K x H' k/\Q k H'):=by
 intro Æ s c H Q I h;exact isTrue_plain (ώ (ha Æ s c H _ I h) λv s1 ⟨x,H1,I1,r1,q1⟩=>KQ Æ s1 c H1 x v Q I1 r1 q1)<|he _
def AI:ae X (Į .Add) (λx y H Q=>∃i j,x=.str i/\y=.str j/\i.length+j.length<=sizeLine/\Q (.str<|i++j) H):=by intro Æ s c H x y v u Q I rx ry h;obtain⟨i,j,rfl,rfl,hz,q⟩:=h;obtain⟨t,rfl⟩:=rx;obtain⟨t',rfl⟩:=ry;exact add_str (λt' tk=>⟨.str<|i++j,H,I.tok _,⟨_,rfl⟩,q⟩) hz
def vals1{x:V}{us:List Á}(r:ĳ [x] us):∃u,us=[u]/\RelV x u:=by
 cases r with
 |cons r1 r2=>cases r2;exact⟨_,rfl,r1⟩
def vals2{x y:V}{us:List Á}(r:ĳ [x,y] us):∃u w',us=[u,w']/\RelV x u/\RelV y w':=by
 cases r with
 |cons r1 r2=>
  cases r2 with
  |cons r3 r4=>cases r4;exact⟨_,_,rfl,r1,r3⟩
def ET:Ŗ X (.builtin "abs") (λxs H Q=>∃i,xs=[.int i]/\Q (.int<|if i<0then -i else i) H):=by intro Æ s c H xs us Q I r h;obtain⟨i,rfl,q⟩:=h;obtain⟨u,rfl,t,rfl⟩:=vals1 r;exact call_abs_int λu tk=>⟨.int<|if i<0then -i else i,H,I.tok _,⟨_,rfl⟩,q⟩
def Dx(hc:X.calm=true):Ŗ X (.builtin "max") (λxs H Q=>∃i j,xs=[.int i,.int j]/\Q (.int<|if j>i then j else i) H):=by
 intro Æ s c H xs us Q I r h;obtain⟨i,j,rfl,q⟩:=h;obtain⟨u,w',rfl,⟨t,rfl⟩,⟨t',rfl⟩⟩:=vals2 r;refine max_two_ints (I.ok.hd hc) λh' tk k=>⟨_,H,I.kept k,?_,q⟩;by_cases hj:j>i
 ·rw[if_pos hj,if_pos hj];exact⟨_,rfl⟩
 ·rw[if_neg hj,if_neg hj];exact⟨_,rfl⟩
def DA(hc:X.calm=true):Ŗ X (.builtin "min") (λxs H Q=>∃i j,xs=[.int i,.int j]/\Q (.int<|if j<i then j else i) H):=by
 intro Æ s c H xs us Q I r h;obtain⟨i,j,rfl,q⟩:=h;obtain⟨u,w',rfl,⟨t,rfl⟩,⟨t',rfl⟩⟩:=vals2 r;refine min_two_ints (I.ok.hd hc) λh' tk k=>⟨_,H,I.kept k,?_,q⟩;by_cases hj:j<i
 ·rw[if_pos hj,if_pos hj];exact⟨_,rfl⟩
 ·rw[if_neg hj,if_neg hj];exact⟨_,rfl⟩
def DB:Ŗ X (.type "int") (λxs H Q=>(∃i,xs=[.int i]/\Q (.int i) H)\/∃k,xs=[.bl k]/\Q (.int<|if k then 1 else 0) H):=by
 intro Æ s c H xs us Q I r h;rcases h with⟨i,rfl,q⟩|⟨k,rfl,q⟩
 ·obtain⟨u,rfl,t,rfl⟩:=vals1 r;exact call_int_int ⟨.int i,H,I,⟨_,rfl⟩,q⟩
 ·obtain⟨u,rfl,r1⟩:=vals1 r;cases r1;exact call_int_bool ⟨.int<|if k then 1 else 0,H,I.tok _,⟨_,rfl⟩,q⟩
def xJ:Ŗ X (.type "str") (λxs H Q=>∃i,xs=[.int i]/\i.natAbs.log2<1920/\Q (.str<|bF i) H):=by intro Æ s c H xs us Q I r h;obtain⟨i,rfl,hz,q⟩:=h;obtain⟨u,rfl,t,rfl⟩:=vals1 r;exact PySem.P.str_of_int hz ⟨.str _,H,I.tok _,⟨_,rfl⟩,q⟩
def Tn(K:Î)(x:V)(H:Hp)(n:Nat):Prop:=
 match x with
 |.str y=>y.length<=sizeLine/\n=y.length|.Jr y=>y.size<=sizeLine/\n=y.size|.ref p=>(∃xs,Ϫ K H p xs/\n=xs.length)\/∃xs,gk K H p xs/\n=xs.length|_=>False
def EU:Ŗ X (.builtin "len") (λxs H Q=>∃x n,xs=[x]/\Tn X.K x H n/\Q (.int n) H):=by
 intro Æ s c H xs us Q I r h;obtain⟨x,n,rfl,e,q⟩:=h;obtain⟨u,rfl,rx⟩:=vals1 r;have hl:=qc;have hs:sizeLine=16777216:=cD;cases x with
 |str y=>obtain⟨t,rfl⟩:=rx;obtain⟨hy,e'⟩:y.length<=sizeLine/\n=y.length:=e;subst e';exact len_str (by lia) ⟨.int _,H,I.tok _,⟨_,rfl⟩,q⟩|Jr y=>obtain⟨t,rfl⟩:=rx;obtain⟨hy,e'⟩:y.size<=sizeLine/\n=y.size:=e;subst e';exact PySem.W.len_bytes (by lia) ⟨.int _,H,I.tok _,⟨_,rfl⟩,q⟩|ref p=>
  cases rx;have e':(∃xs,Ϫ X.K H p xs/\n=xs.length)\/∃xs,gk X.K H p xs/\n=xs.length:=e;rcases e' with⟨xs,hx,e'⟩|⟨xs,hx,e'⟩
  ·subst e';obtain⟨č,r',pl,hz⟩:=I.list hx;have hlen:=r'.length;exact Calls.call_len_list pl.isList (by simp only[Ĩ];lia) ⟨.int xs.length,H,I.tok _,⟨_,by simp only[Ĩ];rw[hlen]⟩,q⟩
  ·subst e';obtain⟨č,r',pl,hz⟩:=I.tuple hx;have hlen:=r'.length;exact len_tuple pl (by simp only[Ĩ];lia) ⟨.int xs.length,H,I.tok _,⟨_,by simp only[Ĩ];rw[hlen]⟩,q⟩
 |_=>exact(show False from e).elim
def zf:Ŗ X (.builtin "divmod") (λxs H Q=>∃i j,xs=[.int i,.int j]/\Ob i j/\∀p,H p=none->Q (.ref p) (upd H p<|.tup [.int<|i/j,.int<|i%j])):=by intro Æ s c H xs us Q I r h;obtain⟨i,j,rfl,⟨h1,h2⟩,q⟩:=h;obtain⟨u,w',rfl,⟨t,rfl⟩,⟨t',rfl⟩⟩:=vals2 r;refine divmod_int (by lia) ?_ (.inl<|PyProof.noPylong_small<|by lia);rw[nZ i (by lia),rD i<|by lia];have hn:H s.heap.objs.size=none:=I.hok.fresh<|ø _;refine⟨.ref s.heap.objs.size,_,?_,rfl,q _ hn⟩;refine I.laid (λb o e=>Ă _ e) (ø _) ⟨by simp only[Ĕ,fE];rw[cD];decide,[.int (i/j) s.toks,.int (i%j)<|s.toks+1],.cons ⟨_,rfl⟩<|.cons ⟨_,rfl⟩ .nil,?_⟩;exact⟨_,į s.heap rfl,rfl,0,rfl⟩
end
structure AJ(h:Ñ)(x dx C:À)(mA:Str->Option Á):Prop where
 obj:h.get? x=some (fS C dx)
 ns:h.Ns1 dx mA
 ne:dx≠x
def DC{h:Ñ}{dx:À}{mA:Str->Option Á}(n:h.Ns1 dx mA):∃od,h.get? dx=some od/\∀name,sQ name od=some (mA name):=by
 obtain⟨o,es,ep,ho,hd,hk,_,hm⟩:=n;refine⟨o,ho,λname=>?_⟩;have e:=hm name;unfold nsFind findBy at e;rw[<-Array.find?_toList]at e;unfold sQ;rw[hd];dsimp only;split
 ·rename_i y q;rw[q]at e;exact congrArg some e
 ·rename_i q;rw[q]at e;have a:es.toList.any (·.refKey)=false:=by
   rw[wy];intro y hy;obtain⟨z,t,WO⟩:=hk y<|Array.mem_toList_iff.mp hy;simp[DictEntry.refKey,WO]
  have a':¬es.toList.any (·.refKey)=true:=by rw[a];exact aG
  rw[if_neg a'];exact congrArg some e
def AJ.look{h:Ñ}{x dx C:À}{mA:Str->Option Á}(I:AJ h x dx C mA):∃od,PySem.W.InstAt h x (fS C dx) C (some od)/\∀name,sQ name od=some (mA name):=
 let ⟨od,ho,hl⟩:=DC I.ns
 ⟨od,⟨I.obj,rfl,rfl,ho⟩,hl⟩
section
variable{prog:ä}{w:Þ}{A:ê}{E:Á->Ã->Prop}{s:Ã}{K:Î}{x dx C f:À}{mA:Str->Option Á}{name:Str}{v:Á}
def Je{WP:Bool}{Q:Á->Ã->Prop}(X:K.In s.heap)(I:AJ s.heap x dx C mA)(hg:oN K C name=true)(hh:sR K C=true)
 (ha:ϛ K (.ref C) name=some none)(hv:mA name=some v)(Jf:B4 v=true)(h:Q v {s with toks:=s.toks+1}):
 Ï (Ö prog w) A (getAttr (.ref x) name WP) Q E s:=by
 obtain⟨od,J,hl⟩:=I.look;exact PySem.W.get_value X J (xw hg).1 (PySem.W.findObj_own hh ha rfl<|by rw[hl,hv]) Jf h
def EV{pl:Sem Bool}{Q:Á×List Á->Ã->Prop}(X:K.In s.heap)(I:AJ s.heap x dx C mA)(hg:oN K C name=true)
 (hf:ϛ K (.ref C) name=some (some<|.ref f))(ht:oO K (.ref f)=true)(hv:mA name=none)(h:Q (.ref f,[.ref x]) s):
 Ï (Ö prog w) A (lJ (.ref x) name pl) Q E s:=by
 obtain⟨od,J,hl⟩:=I.look;exact PySem.W.method_fn X J (xw hg).1 (xw hg).2 hf (beq_iff_eq.mp ht) (by show(sQ name od).map (·.isSome)=some false;rw[hl,hv];rfl) h
def Hv{ns:List Str}{Q:Unit->Ã->Prop}(X:K.In s.heap)(I:AJ s.heap x dx C mA)
 (hs:ϛ K (.ref C) "__setattr__"=some (some<|.builtin "object.__setattr__"))(hp:xx K C=true)(ht:xy K C name=some none)(hh:sR K C=true)
 (hw:wY mA ns)(hsz:ns.length<=sizeLine)
 (h:∀h',AJ h' x dx C (λy=>if y=name then some v else mA y)->Ŝ dx s.heap h'->Q () {s with heap:=h',toks:=s.toks+2}):
 Ï (Ö prog w) A (setAttr (.ref x) name v) Q E s:=by
 obtain⟨od,J,hl⟩:=I.look;refine PySem.W.set_plain X J hs<|PySem.W.osa_open (s:={s with toks:=s.toks+1}) (r:=none) X J hp ht λb=>?_;obtain⟨cd,hc,J3⟩:=PySem.W.any_some hh;have hx:s.heap.get? x=some ⟨.ref C,some dx,.plain,#[]⟩:=I.obj;refine Ò<|ĉ<|Ò<|Ò<|wpAny_loadPart hx<|Ò<|PySem.W.Looks.here (s:={s with toks:=s.toks+1}) (PySem.W.looks_clsIn X hc) ?_;rw[J3];refine ĉ (a:=some dx)<|Ò<|ĉ<|Ò ?_;refine wpAny_nsSet1 (s:={s with toks:=s.toks+1}) I.ns λh' NH uN=>?_;obtain⟨oD,esD,epD,hoD,hdD,hcD⟩:=NH.count<|PySem.Within.cons name v hw;refine Ò (wpAny_lookBehind hoD (by rw[hdD];exact pastItsLine_dict<|ř hcD (by rw[Ĕ];lia)) ?_);exact ĉ<|h _ ⟨(uN.2 _<|đ I.ne).trans I.obj,NH,I.ne⟩ uN
def EW{R:Result->Ã->Prop}{vs:List Á}{kw:List (Str×Á)}(X:K.In s.heap)(hm:xz K C=true)
 (hi:ϛ K (.ref C) "__init__"=some (some<|.ref f))(hf:PySem.W.typeIn K (.ref f)=some (.type "function"))
 (h:fN (Ö prog w) (A.under<|.builtin "type.__call__" ⟨.ref C::vs,kw⟩) (.call (.ref f) ⟨.ref (s.heap.objs.size+1)::vs,kw⟩) (PySem.W.InitBack (s.heap.objs.size+1) R)
   {s with heap:=(s.heap.push eK).push (fS C s.heap.objs.size)}):
 fN (Ö prog w) A (.call (.ref C) ⟨vs,kw⟩) R s:=by
 obtain⟨hh,g,d,t,os⟩:=s;exact PySem.W.make_core (PySem.W.makes_of X hm) (PySem.W.looks_findIn X hi) (λself=>PySem.W.bind_fn X self hf) (.inl rfl) h
end
noncomputable def jM(f:Str)(v:V):List (Str×V)->List (Str×V)
 |[]=>[(f,v)]|(g,x)::r=>if g=f then(g,v)::r else(g,x)::jM f v r
theorem qC(f g:Str)(v:V):∀fs:List (Str×V),(jM f v fs).lookup g=if g=f then some v else fs.lookup g
 |[]=>by
   show fF g [(f,v)]=_;by_cases h:g=f
   ·have hb:(g==f)=true:=beq_iff_eq.mpr h;simp only[fF,hb,if_pos h]
   ·have hb:(g==f)=false:=beq_eq_false_iff_ne.mpr h;simp only[fF,hb,if_neg h]
 |(k,x)::r=>by
  have ih:=qC f g v r;rw[show jM f v ((k,x)::r)=(if k=f then(k,v)::r else(k,x)::jM f v r)from rfl];by_cases hk:k=f
  ·rw[if_pos hk];by_cases h:g=k
   ·have hb:(g==k)=true:=beq_iff_eq.mpr h;simp only[fF,hb,if_pos<|h.trans hk]
   ·have hb:(g==k)=false:=beq_eq_false_iff_ne.mpr h;simp only[fF,hb,if_neg (λe:g=f=>h<|e.trans hk.symm)]
  ·rw[if_neg hk];by_cases h:g=k
   ·have hb:(g==k)=true:=beq_iff_eq.mpr h;simp only[fF,hb,if_neg (λe:g=f=>hk<|h.symm.trans e)]
   ·have hb:(g==k)=false:=beq_eq_false_iff_ne.mpr h;simp only[fF,hb];exact ih
theorem qd(f:Str)(v:V):∀fs:List (Str×V),f∈(jM f v fs).map (·.1)/\∀g,g∈fs.map (·.1)->g∈(jM f v fs).map (·.1)
 |[]=>⟨by simp[jM],λg h=>by simp at h⟩
 |(k,x)::r=>by
  obtain⟨i1,i2⟩:=qd f v r;rw[show jM f v ((k,x)::r)=(if k=f then(k,v)::r else(k,x)::jM f v r)from rfl];by_cases hk:k=f
  ·rw[if_pos hk];subst hk;exact⟨by simp,λg h=>by simpa using h⟩
  ·rw[if_neg hk];refine⟨?_,λg h=>?_⟩
   ·rw[Ó];exact õ _ i1
   ·rw[Ó]at h⊢;rcases þ.mp h with e|e
    ·exact þ.mpr<|.inl e
    ·exact õ _<|i2 g e
theorem qD(f:Str)(v:V):∀fs:List (Str×V),(jM f v fs).length<=fs.length+1
 |[]=>by simp[jM]|(k,x)::r=>by
  have ih:=qD f v r;rw[show jM f v ((k,x)::r)=(if k=f then(k,v)::r else(k,x)::jM f v r)from rfl];by_cases hk:k=f
  ·rw[if_pos hk,Ĕ,Ĕ];lia
  ·rw[if_neg hk,Ĕ,Ĕ];lia
def mO.some_of{v:V}{o:Option Á}(r:mO (some v) o):∃u,o=some u/\RelV v u:=by
 cases o with
 |none=>exact(show False from r).elim|some u=>exact⟨u,rfl,r⟩
def mO.none_of{o:Option Á}(r:mO none o):o=none:=by
 cases o with
 |none=>rfl|some u=>exact(show False from r).elim
def DE{v:V}{u:Á}(r:RelV v u):B4 u=true:=by
 cases v with
 |non=>cases(show u=Value.none from r);rfl|bl b=>cases(show u=fR b from r);rfl|int i=>obtain⟨t,e⟩:=(show ∃t,u=oM i t from r);cases e;rfl|str x=>obtain⟨t,e⟩:=(show ∃t,u=lY x t from r);cases e;rfl|Jr b=>obtain⟨t,e⟩:=(show ∃t,u=Value.bytes b t from r);cases e;rfl|flt b=>obtain⟨t,e⟩:=(show ∃t,u=Value.float b t from r);cases e;rfl|ref a=>cases(show u=ť a from r);rfl|ty n=>cases(show u=xt n from r);rfl
section
variable{P:ä}{w:Þ}{H:Hp}{h:Ñ}{a C dx:À}{fs:List (Str×V)}
def xK(hok:kC P w H h)(e:H a=some (.ins C dx fs)):∃mA,AJ h a dx C mA/\(∀f,mO (fs.lookup f)<|mA f)/\wY mA (fs.map (·.1))/\fs.length<=1000/\H dx=some (.own a):=by obtain⟨d,z,ne,ob,mA,n,r,q⟩:=(show bS P w H h a (.ins C dx fs)from hok a _ e);exact⟨mA,⟨ob,n,ne⟩,r,q,z,d⟩
end
structure Az(K:Î)(C:À):Prop where
 pg:oN K C fQ=true
 hd:sR K C=true
 po:xx K C=true
 sa:ϛ K (.ref C) "__setattr__"=some (some<|.builtin "object.__setattr__")
def Az.get{K:Î}{C:À}(c:Az K C)(f:Str):oN K C f=true:=c.pg
def ff(K:Î)(C:À)(f:Str):Prop:=ϛ K (.ref C) f=some none
def ff.taker{K:Î}{C:À}{f:Str}(n:ff K C f):xy K C f=some none:=by unfold xy;rw[show ϛ K (.ref C) f=some none from n];rfl
structure Em(K:Î)(C:À)(m:Str)(f:À):Prop where
 at_:ϛ K (.ref C) m=some (some<|.ref f)
 fn:oO K (.ref f)=true
 kp:bE K (.ref f)=true
section
variable{X:Cx}{Æ:List (À×Obj)}{σ:St}{H:Hp}{s:Ã}{a C dx:À}{fs:List (Str×V)}{f:Str}{v:V}{A:ê}{E:Á->Ã->Prop}
def AK{b:Bool}{Q:Á->Ã->Prop}(I:Inv X Æ σ H s)(e:H a=some (.ins C dx fs))(c:Az X.K C)(n:ff X.K C f)(l:fs.lookup f=some v)
 (h:∀u s',Inv X Æ σ H s'->RelV v u->Q u s'):Ï (Ö X.prog X.w) A (getAttr (.ref a) f b) Q E s:=by
 obtain⟨mA,O,r,_,_,_⟩:=xK I.hok e;obtain⟨u,hu,ru⟩:=mO.some_of (v:=v) (o:=mA f) (by rw[<-l];exact r f);exact Je I.yW O (c.get f) c.hd n hu (DE ru)<|h u _ (I.tok _) ru
def tJ{m:Str}{g:À}{pl:Sem Bool}{Q:Á×List Á->Ã->Prop}(I:Inv X Æ σ H s)(e:H a=some (.ins C dx fs))(c:Az X.K C)(k:Em X.K C m g)(l:fs.lookup m=none)
 (h:Q (.ref g,[.ref a]) s):Ï (Ö X.prog X.w) A (lJ (.ref a) m pl) Q E s:=by
 obtain⟨mA,O,r,_,_,_⟩:=xK I.hok e;have hn:mA m=none:=mO.none_of (by rw[<-l];exact r m);exact EV I.yW O (c.get m) k.at_ k.fn hn h
def AL{y:V}{u:Á}{Q:Unit->Ã->Prop}(I:Inv X Æ σ H s)(e:H a=some (.ins C dx fs))(c:Az X.K C)(n:ff X.K C f)(hl:fs.length<1000)(ry:RelV y u)
 (h:∀s',Inv X Æ σ (upd H a<|.ins C dx<|jM f y fs) s'->Q () s'):Ï (Ö X.prog X.w) A (setAttr (.ref a) f u) Q E s:=by
 obtain⟨mA,O,r,wi,_,ho⟩:=xK I.hok e;have hz:(fs.map (·.1)).length<=sizeLine:=by rw[Ę,cD];lia
 refine Hv I.yW O c.sa c.po n.taker c.hd wi hz λh' O' sb=>h _ ?_;have hd:∃o,h'.get? dx=some o:=let ⟨o,_,_,e',_⟩:=O'.ns;⟨o,e'⟩;refine I.write (x:=a) (e:=dx) (by rw[e];exact True.intro) (.inr ho) (λb q hb z=>(sb.2 b hb).trans z) hd ?_;refine⟨by rw[î O.ne];exact ho,?_,O.ne,O'.obj,_,O'.ns,λg=>?_,λg hg=>?_⟩
 ·have:=qD f y fs;lia
 ·show mO ((jM f y fs).lookup g) (if g=f then some u else mA g);rw[qC];by_cases q:g=f
  ·rw[if_pos q,if_pos q];exact ry
  ·rw[if_neg q,if_neg q];exact r g
 ·by_cases q:g=f
  ·rw[q];exact(qd f y fs).1
  ·refine(qd f y fs).2 g (wi g λz=>hg ?_);show(if g=f then some u else mA g)=none;rw[if_neg q];exact z
def Inv.made(I:Inv X Æ σ H s):Inv X Æ σ (upd (upd H s.heap.objs.size<|.own<|s.heap.objs.size+1) (s.heap.objs.size+1)<|.ins C s.heap.objs.size [])
 {s with heap:=(s.heap.push eK).push (fS C s.heap.objs.size)}:=by
 have e1:(s.heap.push eK).get? s.heap.objs.size=some eK:=į s.heap rfl;have e2:((s.heap.push eK).push (fS C s.heap.objs.size)).get? (s.heap.objs.size+1)=some (fS C s.heap.objs.size):=by
  have:=į (s.heap.push eK) (o:=fS C s.heap.objs.size) rfl
  rwa [ϱ]at this
 have e3:(s.heap.push eK).Ns s.heap.objs.size (λ_=>none):=⟨eK,#[],_,e1,rfl,(λe he=>absurd he<|by simp),λ_=>rfl⟩;have I1:=I.laid (a:=s.heap.objs.size) (o:=.own<|s.heap.objs.size+1) (h':=s.heap.push eK) (t':=s.toks) (λb u q=>Ă _ q) (ø _) ⟨_,e1⟩;refine I1.laid (a:=s.heap.objs.size+1) (o:=.ins C s.heap.objs.size []) (t':=s.toks) (λb u q=>Ă _ q) (se<|ϱ _ _) ?_;have ne:s.heap.objs.size≠s.heap.objs.size+1:=Ņ<|si _;refine⟨by rw[î ne,ö],bu _,ne,e2,λ_=>none,(Heap.Ns1.of_empty e3).at λo q=>Ă _ q,λ_=>True.intro,λy hy=>absurd rfl hy⟩
def Hw{prog:ä}{w:Þ}{env:Env}{e:È}{f:Str}{pos:Pos}{s:Ã}{Q:Á->Ã->Prop}(hb:dh e f env (eval e env)=eval e env)
 (h:Ï (Ö prog w) A (eval e env) (λo s₁=>Ï (Ö prog w) A (getAttr o f true) Q E s₁) E s):Ï (Ö prog w) A (eval (.Attribute e f pos) env) Q E s:=
 Attribute_any_ h (by rw[arm_eval_Attribute,hb])
end
def To(K:Î)(ta:TE)(f:Str):TE:=λb H Q=>ta b H λx H1=>∃a C dx fs v,x=.ref a/\H1 a=some (.ins C dx fs)/\Az K C/\ff K C f/\fs.lookup f=some v/\Q v H1
def Tp(K:Î)(ta tv:TE)(f:Str):TS:=λD b H=>tv b H λy H1=>ta b H1 λx H2=>∃a C dx fs,x=.ref a/\H2 a=some (.ins C dx fs)/\Az K C/\ff K C f/\fs.length<1000/\
 D.nx b (upd H2 a<|.ins C dx<|jM f y fs)
section
variable{X:Cx}{o e value:È}{f:Str}{pos aY:Pos}{ta tv:TE}
def KR(he:PE X e ta)(hb:dh e f X.env (eval e X.env)=eval e X.env):PE X (.Attribute e f pos) (To X.K ta f):=by intro Æ s b H Q I h;refine Hw hb<|ώ (he Æ s b H _ I h) λu s1 zz=>?_;obtain⟨x,H1,I1,rx,a,C,dx,fs,v,ex,ea,c,n,l,q⟩:=zz;subst ex;obtain rfl:u=ť a:=rx;exact AK I1 ea c n l λu' s2 I2 ru=>⟨v,H1,I2,ru,q⟩
def KS(ha:PE X o ta)(hv:PE X value tv)(hs:ņ value (some<|.Attribute o f aY) pos.line X.env=ì false):PS X (.Assign [.Attribute o f aY] value pos) (Tp X.K ta tv f):=by intro Æ s b H D I h;refine plainObj_wpAny_Assign_Attribute (ώ (hv Æ s b H _ I h) λu s1 ⟨y,H1,I1,ry,q⟩=>ώ (ha Æ s1 b H1 _ I1 q) λov s2 zz=>?_) hs;obtain⟨x,H2,I2,rx,a,C,dx,fs,ex,ea,c,n,l,q2⟩:=zz;subst ex;obtain rfl:ov=ť a:=rx;exact AL I2 ea c n l ry λs3 I3=>⟨b,_,I3,q2⟩
end
structure ϫ(k:Nat)(A:ê):Prop where
 hd:A.handled=none
 dp:A.depth+3*k+5<recursionLimit
 un:A.units+16*k+200<Ń
def ϫ.mono{j k:Nat}{A:ê}(r:ϫ k A)(h:j<=k):ϫ j A:=⟨r.hd,by have:=r.dp;lia,by have:=r.un;lia⟩
theorem ϫ.deeper{k:Nat}{A:ê}(r:ϫ (k+1) A)(env:Env):ϫ k (A.deeper env):=
 ⟨r.hd,by have:=r.dp;show A.depth+1+3*k+5<_;lia,by have:=r.un;show A.units+3+16*k+200<_;lia⟩
def AM{A:ê}{C:À}{us:List Á}{kw:List (Str×Á)}:(A.under<|.builtin "type.__call__" ⟨.ref C::us,kw⟩).depth=A.depth+1:=by first|rfl|simp[xi,Code.weight,Code.isCreation,Code.isGuard,Code.isCaller,Code.frames,xj,guardIds]
def AN{A:ê}{C:À}{us:List Á}{kw:List (Str×Á)}:(A.under<|.builtin "type.__call__" ⟨.ref C::us,kw⟩).units=A.units+1:=by first|rfl|simp[xi,Code.cUnits,Code.frames,xj]
def ϫ.make{k:Nat}{A:ê}(r:ϫ (k+1) A)(C:À)(us:List Á)(kw:List (Str×Á)):ϫ k (A.under<|.builtin "type.__call__" ⟨.ref C::us,kw⟩):=
 ⟨r.hd,by have:=r.dp;rw[AM];lia,by have:=r.un;rw[AN];lia⟩
theorem ϫ.depth{k:Nat}{A:ê}(r:ϫ k A):A.depth<recursionLimit:=by have:=r.dp;lia
theorem ϫ.units{k:Nat}{A:ê}(r:ϫ k A):A.units+64<Ń:=by have:=r.un;lia
def DF:TA:=λ_ H Q=>Q [] H
def EX(ta:TE)(tr:TA):TA:=λa H Q=>ta a H λx H1=>tr a H1 λxs H2=>Q (x::xs) H2
section
variable{X:Cx}{e:È}{es:List È}{te:TE}{t:TA}{pos:Pos}
def bZ:PA X [] DF:=λ_ _ _ _ H Q I h=>Calls.spliced_nil ⟨[],H,I,.nil,h⟩
def ϳ(ha:PE X e te)(hr:PA X es t)(hs:Ð (e::es) X.env=(false,eval e X.env)::Ð es X.env:=by rfl):PA X (e::es) (EX te t):=by intro pos Æ s a H Q I h;rw[hs];show Ï _ _ (spliced ((false,eval e X.env)::Ĉ pos (Ð es X.env))) _ _ s;refine Calls.spliced_cons<|ώ (ha Æ s a H _ I h) λu s1 zz=>?_;obtain⟨x,H1,I1,r1,q1⟩:=zz;exact ώ (hr pos Æ s1 a H1 _ I1 q1) λus s2 ⟨xs,H2,I2,r2,q2⟩=>⟨x::xs,H2,I2,.cons r1 r2,q2⟩
def Tq(t:TA):TE:=λa H Q=>t a H λxs H1=>xs.length<=sizeLine/\∀p,H1 p=none->Q (.ref p) (upd H1 p<|.tup xs)
def Hx(t:TA):TE:=λa H Q=>t a H λxs H1=>xs.length<=sizeLine/\∀p,H1 p=none->Q (.ref p) (upd H1 p<|.lst xs)
def EY{x1}(h:PA X es t):PE X (.Tuple es x1 pos) (Tq t):=by intro Æ s a H Q I hq;refine wpAny_Tuple_spliced (ώ (h pos Æ s a H _ I hq) λus s1 ⟨xs,H1,I1,r,z,q⟩=>⟨by rw[<-r.length];exact z,?_⟩);have hf:H1 s1.heap.objs.size=none:=I1.hok.fresh<|ø _;refine⟨.ref s1.heap.objs.size,upd H1 s1.heap.objs.size<|.tup xs,I1.laid (t':=s1.toks) (λb u e=>Ă _ e) (ø _) ?_,rfl,q _ hf⟩;exact⟨z,us,r,⟨_,į _ rfl,rfl,_,rfl⟩⟩
def tK(h:PA X es t):PE X (.List es pos) (Hx t):=by intro Æ s a H Q I hq;refine wpAny_List_spliced (ώ (h pos Æ s a H _ I hq) λus s1 ⟨xs,H1,I1,r,z,q⟩=>⟨by rw[<-r.length];exact z,?_⟩);have hf:H1 s1.heap.objs.size=none:=I1.hok.fresh<|ø _;refine⟨.ref s1.heap.objs.size,upd H1 s1.heap.objs.size<|.lst xs,I1.laid (t':=s1.toks) (λb u e=>Ă _ e) (ø _) ?_,rfl,q _ hf⟩;exact⟨z,us,0,r,į _ rfl⟩
end
abbrev Sp:=List V->Hp->VK->XK->Prop
abbrev ia:=List Env->Hp->Ã->XK->Á->Ã->Prop
structure zg(P:ä)(w:Þ)(K:Î)(mg:Str->Option Á)(base:Ñ)(A:ê)(outer:List Env)(s:Ã)(H:Hp):Prop where
 frames:A.frames=some outer
 mod:Mod K mg base
 bs:∀b o,base.get? b=some o->s.heap.get? b=some o/\H b=none
 EE:base.objs.size<=s.heap.objs.size
 oQ:s.heap.FunFrames base outer
 Hn:∀b∈GP outer,H b=none
 hok:kC P w H s.heap
 bare:fJ s.gens
 tb:yQ K mg base H
def CE(outer:List Env)(P:ä)(w:Þ)(H:Hp)(s:Ã)(Q:VK)(u:Á)(s':Ã):Prop:=
 ∃v H',s'.os=s.os/\fJ s'.gens/\Un (GP outer) [] H H' s.heap s'.heap/\kC P w H' s'.heap/\RelV v u/\Q v H'
def CR(CX:ia)(outer:List Env)(P:ä)(w:Þ)(H:Hp)(s:Ã)(Q:VK)(E:XK)(r:Result)(s':Ã):Prop:=
 match r with
 |.ok (.ret u)=>CE outer P w H s Q u s'|.ok _=>False|.error e=>CX outer H s E e s'
structure b_(P:ä)(w:Þ)(K:Î)(mg:Str->Option Á)(base:Ñ)(CX:ia)(k:Nat)(f:À)(fd:ċ)(ps:List Str)(sp:Sp):Prop where
 len:∀vs H Q E,sp vs H Q E->vs.length=ps.length
 run:∀(A:ê) (outer:List Env) (s:Ã) (H:Hp) (args:Args) (us:List Á) (vs:List V) (Q:VK) (E:XK),ϫ k A->zg P w K mg base A outer s H->fO s fd args (ps.zip us)->ĳ vs us->sp vs H Q E->
  fN (Ö P w) A (.call (.ref f) args) (CR CX outer P w H s Q E) s
theorem b_.mono{P:ä}{w:Þ}{K:Î}{mg:Str->Option Á}{base:Ñ}{CX:ia}{j k:Nat}{f:À}{fd:ċ}{ps:List Str}{sp:Sp}(F:b_ P w K mg base CX j f fd ps sp)(h:j<=k):
 b_ P w K mg base CX k f fd ps sp:=⟨F.len,λA outer s H args us vs Q E hr=>F.run A outer s H args us vs Q E<|hr.mono h⟩
def b_.imp{P:ä}{w:Þ}{K:Î}{mg:Str->Option Á}{base:Ñ}{CX:ia}{k:Nat}{f:À}{fd:ċ}{ps:List Str}{sp Xv:Sp}(F:b_ P w K mg base CX k f fd ps sp)
 (h:∀vs H Q E,Xv vs H Q E->sp vs H Q E):b_ P w K mg base CX k f fd ps Xv:=
 ⟨λvs H Q E q=>F.len vs H Q E<|h _ _ _ _ q,λA outer s H args us vs Q E hr he hb hv hs=>F.run A outer s H args us vs Q E hr he hb hv<|h _ _ _ _ hs⟩
def zg.make{P:ä}{w:Þ}{K:Î}{mg:Str->Option Á}{base:Ñ}{A:ê}{outer:List Env}{s:Ã}{H:Hp}(e:zg P w K mg base A outer s H)(C:À)(us:List Á)(kw:List (Str×Á)):
 zg P w K mg base (A.under<|.builtin "type.__call__" ⟨.ref C::us,kw⟩) outer s H:=⟨by first|exact e.frames|(simpa[xi,Code.envs,xj,pushEnvs]using e.frames),e.mod,e.bs,e.EE,e.oQ,e.Hn,e.hok,e.bare,e.tb⟩
section
variable{X:Cx}{Æ:List (À×Obj)}{σ:St}{H:Hp}{s s':Ã}
def Inv.env0(I:Inv X Æ σ H s):zg X.prog X.w X.K X.mg X.base X.A X.stack s H:=
 ⟨I.ok.frames,I.ok.mod,I.bs,ř I.ok.EE I.sz,I.stack,I.B8,I.hok,I.bare,I.tb⟩
def Inv.after{Q:VK}{u:Á}(I:Inv X Æ σ H s)(h:CE X.stack X.prog X.w H s Q u s'):EP X Æ σ Q u s':=by obtain⟨v,H',os,bare,un,hok,r,q⟩:=h;obtain⟨hh,g,d,t,os'⟩:=s';obtain rfl:os'=s.os:=os;exact⟨v,H',I.call (h':=hh) (g':=g) (d':=d) (t':=t) (ch:=[]) un hok bare (λb z=>absurd z<|by simp),r,q⟩
end
def Binds(K:Î)(fd:ċ)(ps:List Str)(ds:List Á):Prop:=
 ∀(s:Ã) (us:List Á),K.In s.heap->(us++ds).length=ps.length->fO s fd ⟨us,[]⟩ (ps.zip<|us++ds)
def Binds.all{K:Î}{fd:ċ}{ps:List Str}(h:∀us:List Á,us.length=ps.length->oB fd ⟨us,[]⟩=ì (ps.zip us)):Binds K fd ps []:=λs us _ hl=>by rw[jw]at hl⊢;exact .of_eq<|h us hl
section
variable{f C:À}
structure Mk(K:Î)(C f:À):Prop where
 makes:xz K C=true
 init:ϛ K (.ref C) "__init__"=some (some<|.ref f)
 fn:oO K (.ref f)=true
 kp:bE K (.ref C)=true
end
structure ό(N P:List Str)(sc:û):Prop where
 kind:sc.kind=.function
 co:sc.isCoroutine=false
 gen:sc.isGenerator=false
 nd:N.Nodup
 pre:N.take P.length=P
 par:∀x∈P,sc.names.lookup x=some .local\/sc.names.lookup x=some .cell
 KU:∀y∈sc.names,y.2≠.free
theorem vm{kindOf:Str->Option cE}{x:Str}:∀{binds:List (Str×Á)}{m:Str->Option Á},(∀v,(x,v)∉binds)->bindL kindOf binds m x=m x
 |[],_,_=>rfl|(n,v)::r,m,h=>by
  unfold bindL;rw[vm λw hw=>h w<|õ _ hw];split
  ·have:x≠n:=by rintro rfl;exact h v ł
   simp[this]
  ·rfl
theorem vn{kindOf:Str->Option cE}{x:Str}:∀{binds:List (Str×Á)}{m:Str->Option Á},(∀v,(x,v)∉binds)->bindC kindOf binds m x=m x
 |[],_,_=>rfl|(n,v)::r,m,h=>by
  unfold bindC;rw[vn λw hw=>h w<|õ _ hw];split
  ·rfl
  ·have:x≠n:=by rintro rfl;exact h v ł
   simp[this]
theorem vo{kindOf:Str->Option cE}{x:Str}{v:Á}:∀{P:List Str}{vs:List Á}{i:Nat}{m:Str->Option Á},P.Nodup->P[i]?=some x->vs[i]?=some v->kindOf x=some .local->
 bindL kindOf (P.zip vs) m x=some v
 |[],_,_,_,_,h,_,_=>by simp at h|_::_,[],_,_,_,_,h,_=>by simp at h|p::P,w::vs,0,m,nd,h1,h2,hk=>by simp at h1 h2;subst h1;subst h2;show bindL kindOf ((p,w)::P.zip vs) m p=_;unfold bindL;rw[vm λv hv=>(Ž.mp nd).1 (rM hv).1,if_pos hk];simp
 |p::P,w::vs,i+1,m,nd,h1,h2,hk=>by show bindL kindOf ((p,w)::P.zip vs) m x=_;unfold bindL;exact vo (i:=i) (Ž.mp nd).2 (by simpa using h1) (by simpa using h2) hk
theorem vp{kindOf:Str->Option cE}{x:Str}{v:Á}:∀{P:List Str}{vs:List Á}{i:Nat}{m:Str->Option Á},P.Nodup->P[i]?=some x->vs[i]?=some v->kindOf x≠some .local->
 bindC kindOf (P.zip vs) m x=some v
 |[],_,_,_,_,h,_,_=>by simp at h|_::_,[],_,_,_,_,h,_=>by simp at h|p::P,w::vs,0,m,nd,h1,h2,hk=>by simp at h1 h2;subst h1;subst h2;show bindC kindOf ((p,w)::P.zip vs) m p=_;unfold bindC;rw[vn λv hv=>(Ž.mp nd).1 (rM hv).1,if_neg hk];simp
 |p::P,w::vs,i+1,m,nd,h1,h2,hk=>by show bindC kindOf ((p,w)::P.zip vs) m x=_;unfold bindC;exact vp (i:=i) (Ž.mp nd).2 (by simpa using h1) (by simpa using h2) hk
noncomputable def start(N:List Str)(vs:List V):St:=vs.map some++ç (N.length-vs.length) none
noncomputable def tM(CX:ia)(P:ä)(w:Þ)(K:Î)(mg:Str->Option Á)(base:Ñ)(N:List Str)(Ő:Str)(scope:û)(f:À)(cd:Á)(A:ê)(outer:List Env)(s:Ã)(H:Hp)(E:XK):Cx where
 prog:=P
 w:=w
 K:=K
 mg:=mg
 base:=base
 A:=A.deeper (Ϙ Ő scope s.heap.objs.size f cd)
 N:=N
 s₀:=s
 H₀:=H
 env:=Ϙ Ő scope s.heap.objs.size f cd
 outer:=outer
 stack:=Ϙ Ő scope s.heap.objs.size f cd::outer
 ex:=[]
 calm:=true
 fn:=λ_=>true
 pn:=[]
 xe:=λe s'=>Ï (Ö P w) (A.deeper<|Ϙ Ő scope s.heap.objs.size f cd) (leaving (Ϙ Ő scope s.heap.objs.size f cd) e) (λ_ WQ=>CX outer H s E e WQ) (λe' WQ=>CX outer H s E e' WQ) s'
def oS{sc:û}{n:Nat}{x:Str}(h:sc.names.lookup x=some .cell):∃c,(ś n sc.names []).lookup x=some c:=by have q:=B5 sc.names n [] (.inl h);exact Option.isSome_iff_exists.mp q
def DG{CX:ia}{P:ä}{w:Þ}{K:Î}{mg:Str->Option Á}{base:Ñ}{N ps:List Str}{Ő:Str}{scope:û}{f:À}{cd:Á}{A:ê}{outer:List Env}{s s1:Ã}{H:Hp}{E:XK}{us:List Á}{vs:List V}
 (S:ό N ps scope)(hd:A.handled=none)(e0:zg P w K mg base A outer s H)(hl:vs.length=ps.length)(r:ĳ vs us)
 (x:InCallC s s.heap.objs.size (bindL (Ϙ Ő scope s.heap.objs.size f cd).kindOf (ps.zip us) λ_=>none) (ś (s.heap.objs.size+1) scope.names []) (bindC (Ϙ Ő scope s.heap.objs.size f cd).kindOf (ps.zip us) λ_=>none) s1):
 Inv (tM CX P w K mg base N Ő scope f cd A outer s H E) [] (start N vs) H s1:=by
 have hpl:ps.length<=N.length:=by have:=congrArg bq S.pre;rw[rN]at this;lia
 obtain⟨h1,tk,rfl,hk⟩:=x.done;have Oh:∀b:À,b∉(tM CX P w K mg base N Ő scope f cd A outer s H E).ex:=λb z=>absurd (show b∈([]:List À)from z) (by simp);refine⟨⟨e0.mod,S.kind,rfl,rfl,ø _,λy z c h1 h2=>?_,λy hy=>?_,λy c _ h=>?_,λ_=>hd,Around.frames_deeper e0.frames,.inr ⟨rfl,rfl⟩,λb z=>absurd z<|Oh b,e0.bs,e0.EE,λb _ _=>Oh b,λb z=>absurd z<|Oh b,e0.oQ,e0.Hn,e0.tb⟩,
  rfl,e0.bare,Un.kept hk,⟨_,x.toInCall.ns,λi y v h1 h2 h3=>?_⟩,λy c h=>⟨_,x.cell y c h⟩,e0.hok.fresh<|ø _,λy c h=>?_,λp hp=>absurd (show p∈([]:List (À×Obj))from hp) (by simp),e0.hok.kept hk,?_⟩
 ·exact name_of_addr x.apart (oC h1)<|oC h2
 ·have hy:scope.names.lookup y=some .cell\/scope.names.lookup y=some .free:=hy;rcases hy with hy|hy
  ·exact oS hy
  ·exact absurd rfl<|S.KU _<|oC hy
 ·exact on<|x.above y c<|oC h
 ·have hi:i<vs.length:=by
   unfold start at h2;by_cases hi:i<vs.length
   ·exact hi
   ·rw[lx<|by simpa using hi]at h2;rw[jy]at h2;split at h2<;>cases h2
  have ha:vs[i]?=some v:=by
   unfold start at h2;rw[fG (by simpa using hi),ů]at h2;cases e:vs[i]?with
   |none=>rw[e]at h2;cases h2|some a=>rw[e]at h2;cases h2;rfl
  obtain⟨u,hu,rv⟩:=r.get ha;have hp:ps[i]?=some y:=by rw[<-S.pre,List.getElem?_take_of_lt<|by lia];exact h1
  have Xx:ps.Nodup:=by rw[<-S.pre];exact S.nd.sublist<|List.take_sublist _ _
  refine⟨u,rv,?_⟩;rcases S.par y (wz hp)with k|k
  ·exact .inl ⟨k,vo Xx hp hu k⟩
  ·obtain⟨c,e⟩:=oS (n:=s.heap.objs.size+1) k;refine .inr ⟨.inl k,c,e,?_⟩;have q:=x.cell y c e;rw[vp Xx hp hu (by show scope.names.lookup y≠_;rw[k];decide)]at q;exact q
 ·exact e0.hok.fresh<|on<|x.above y c<|oC h
 ·unfold start;show _=N.length;rw[ő,Ę,List.length_replicate];lia
def EZ{CX:ia}{P:ä}{w:Þ}{K:Î}{mg:Str->Option Á}{base:Ñ}{k:Nat}{f:À}{name Ő:Str}{params:gW}{body:List í}{scope:û}{dV kV doc pm cdv ct oc:Á}{an od:Option À}
 {Hd:Array (Option Á)}{N ps:List Str}{sp:Sp}(lk:K.lookup f=some ⟨oc,od,.func<|aO name Ő params body scope dV kV doc pm an cdv ct,Hd⟩)(Ek:lZ K cdv Ő=true)(S:ό N ps scope)
 (len:∀vs H Q E,sp vs H Q E->vs.length=ps.length)
 (li:∀(A:ê) (outer:List Env) (s:Ã) (H:Hp) (vs:List V) (Q:VK) (E:XK),ϫ k (A.deeper<|Ϙ Ő scope s.heap.objs.size f cdv)→sp vs H Q E→
   ∃t,ca (tM CX P w K mg base N Ő scope f cdv A outer s H E) body t/\t {nx:=λ_ H'=>Q .non H',rt:=Q} (start N vs) H):
 b_ P w K mg base CX (k+1) f (aO name Ő params body scope dV kV doc pm an cdv ct) ps sp:=by
 refine⟨len,λA outer s H args us vs Q E hr e0 hb r Ez=>?_⟩;have hl:=len _ _ _ _ Ez;have KX:K.In s.heap:=e0.mod.Js.keeps λb o e=>(e0.bs b o e).1;have lim:s.heap.NoLimit:=e0.mod.nolimit.keeps λb o e=>(e0.bs b o e).1;have QG:∀y∈ps.zip us,scope.names.lookup y.1=some .local\/(scope.names.lookup y.1=some .cell/\((ś (s.heap.objs.size+1) scope.names []).lookup y.1).isSome=true):=by
  rintro ⟨n,v⟩ hy;rcases S.par n (rM hy).1 with q|q
  ·exact .inl q
  ·exact .inr ⟨q,B5 _ _ _<|.inl q⟩
 refine codeAny_call_function hr.depth (KX _ _ lk) rfl S.co S.gen rfl (PySem.W.codeRec_of KX Ek)<|hb _ _ _ _ ?_;refine wpAny_newFunctionEnv_cells S.kind QG λenv he s1 x=>?_;subst he;refine⟨lim.keeps x.toInCall.keep,codeAny_func ?_⟩;obtain⟨t,ht,hq⟩:=li A outer s H vs Q E (hr.deeper _) Ez;have I:Inv (tM CX P w K mg base N Ő scope f cdv A outer s H E) [] (start N vs) H s1:=DG S hr.hd e0 hl r x;refine Ϯ (ht [] s1 (start N vs) H _ I hq) (λfl s' hs=>?_) λe s' hs=>hs;have lf:∀{a:St}{H':Hp}{v:V}{u:Á},Inv (tM CX P w K mg base N Ő scope f cdv A outer s H E) [] a H' s'->RelV v u->Q v H'->CE outer P w H s Q u s':=
  fun{a H' v u} J rv q=>⟨v,H',J.os,J.bare,J.base,J.hok,rv,q⟩
 cases fl with
 |ret u=>obtain⟨v,a,H',J,rv,q⟩:=hs;exact lf J rv q|next=>obtain⟨a,H',J,q⟩:=hs;exact lf (v:=V.non) (u:=Value.none) J rfl q|brk=>obtain⟨_,_,_,q⟩:=hs;exact aI q|cont=>obtain⟨_,_,_,q⟩:=hs;exact aI q
section
variable{X:Cx}{x:Str}{p pos:Pos}{e:È}{es:List È}{t:TA}{id T:String}{r:List V->Hp->VK->Prop}
def Rc(r:List V->Hp->VK->Prop)(t:TA):TE:=λa H Q=>t a H λvs H1=>r vs H1 Q
def tN(hc:Ŗ X (.builtin id) r)(hg:Gl X x)(hm:X.mg x=none)(hv:gQ x=some (.builtin id))(ha:PA X (e::es) t)(hn:x≠"__name__":=by decide)(qz:(x==("__debug__":Str))=false:=by kernel_rfl)
 (he:Ð (e::es) X.env=(false,eval e X.env)::Ð es X.env:=by rfl)(hpl:(Ĉ pos<|Ð es X.env).any (·.1)=false:=by kernel_rfl):PE X (.Call (.Name x p) (e::es) [] pos) (Rc r t):=by
 intro Æ s a H Q I h;refine lK<|qb I hg hm hv ?_ hn qz;exact PyProof.Rows.callWith_builtin1 (ώ (ha pos Æ s a H _ I h) λus s1 ⟨vs,H1,I1,r1,q1⟩=>hc Æ s1 a H1 vs us Q I1 r1 q1) he hpl
def vq(hc:Ŗ X (.type T) r)(hg:Gl X x)(hm:X.mg x=none)(hv:gQ x=some (.type T))(ha:PA X (e::es) t)(hn:x≠"__name__":=by decide)(qz:(x==("__debug__":Str))=false:=by kernel_rfl)
 (he:Ð (e::es) X.env=(false,eval e X.env)::Ð es X.env:=by rfl)(hpl:(Ĉ pos<|Ð es X.env).any (·.1)=false:=by kernel_rfl):PE X (.Call (.Name x p) (e::es) [] pos) (Rc r t):=by
 intro Æ s a H Q I h;refine lK<|qb I hg hm hv ?_ hn qz;exact sr (ώ (ha pos Æ s a H _ I h) λus s1 ⟨vs,H1,I1,r1,q1⟩=>hc Æ s1 a H1 vs us Q I1 r1 q1) he hpl
end
end L2
namespace HT
open PySem PyProof.Rows
section
open PySem.SeqAt
open PySem.AutoSeq1 (wpAny_loadPart')
open PySem.MeetsSeq PySem.MeetsSeq2 PySem.MeetsSeq3
end
noncomputable def mq(n d:Nat):Option Int->Nat
 |none=>d|some v=>if v<0then(v+(n:Int)).toNat else min v.toNat n
def E_(n d:Nat):mq n d none=d:=rfl
def xL(n d k:Nat):mq n d (some (k:Int))=min k n:=by show(if(k:Int)<0then((k:Int)+(n:Int)).toNat else min (k:Int).toNat n)=min k n;rw[if_neg (by lia),rE]
def E0(n d:Nat)(hd:d<=n)(o:Option Int):mq n d o<=n:=by
 cases o with
 |none=>exact hd|some v=>
  show(if v<0then(v+(n:Int)).toNat else min v.toNat n)<=n;by_cases hv:v<0
  ·rw[if_pos hv];lia
  ·rw[if_neg hv];exact Nat.min_le_right _ _
end HT
namespace L2
open PySem PySem.Spec PyProof.Rows
abbrev TO:=St->Hp->(Option Int->Hp->Prop)->Prop
def PO(X:Cx)(e:Option È)(t:TO):Prop:=
 ∀(Æ:List (À×Obj)) (s:Ã) (a:St) (H:Hp) (Q:Option Int->Hp->Prop),Inv X Æ a H s->t a H Q->
  Ï (Ö X.prog X.w) X.A (evalPart e X.env) (λu s'=>∃o H',Inv X Æ a H' s'/\IsPart u o/\Q o H') X.xe s
def Hy:TO:=λ_ H Q=>Q none H
section
variable{X:Cx}{e:È}{te:TE}{lo hi:Option È}{tl th:TO}{pos p2:Pos}
def Hz:PO X none Hy:=by intro Æ s a H Q I h;rw[evalPart_none];exact ĉ ⟨none,H,I,.none,h⟩
def Cd(X:Cx)(r:V->Option Int->Option Int->Hp->VK->Prop):Prop:=
 ∀(Æ:List (À×Obj)) (s:Ã) (a:St) (H:Hp) (x:V) (v vl vu:Á) (lo hi:Option Int) (sl:À) (Q:VK),Inv X Æ a H s->RelV x v->s.heap.IsSliceOf sl vl vu .none->IsPart vl lo->IsPart vu hi->r x lo hi H Q->
  ∃T id,typeLookup (.type T) "__getitem__"=ì (some<|.builtin id)/\s.TypeIs v T/\Ï (Ö X.prog X.w) X.A (lL v<|.ref sl) (EP X Æ a Q) X.xe s
def Cd.or{r r':V->Option Int->Option Int->Hp->VK->Prop}(h:Cd X r)(h':Cd X r'):Cd X (λx lo hi H Q=>r x lo hi H Q\/r' x lo hi H Q):=by
 intro Æ s a H x v vl vu lo hi sl Q I rx hs pl pu q;rcases q with q|q
 ·exact h Æ s a H x v vl vu lo hi sl Q I rx hs pl pu q
 ·exact h' Æ s a H x v vl vu lo hi sl Q I rx hs pl pu q
def tSl(r:V->Option Int->Option Int->Hp->VK->Prop)(te:TE)(tl th:TO):TE:=λa H Q=>te a H λx H1=>tl a H1 λl H2=>th a H2 λu H3=>r x l u H3 Q
def E1{r:V->Option Int->Option Int->Hp->VK->Prop}(hr:Cd X r)(he:PE X e te)(hl:PO X lo tl)(hu:PO X hi th):PE X (.Subscript e (.Slice lo hi none p2) pos) (tSl r te tl th):=by intro Æ s a H Q I h;refine Subscript_<|ώ (he Æ s a H _ I h) λv s1 zz=>?_;obtain⟨x,H1,I1,r1,q1⟩:=zz;refine wpAny_Slice<|ώ (hl Æ s1 a H1 _ I1 q1) λvl s2 ⟨l,H2,I2,pl,q2⟩=>ώ (hu Æ s2 a H2 _ I2 q2) λvu s3 zz=>?_;obtain⟨u,H3,I3,pu,q3⟩:=zz;rw[evalPart_none];refine ĉ ?_;have I4:Inv X Æ a H3 {s3 with heap:=s3.heap.push {cls:=.type "slice",data:=.fields #[vl,vu,.none]}}:=I3.kept (t':=s3.toks) λb ob q=>Ă _ q;obtain⟨T,id,hT,ht,hg⟩:=hr Æ {s3 with heap:=s3.heap.push {cls:=.type "slice",data:=.fields #[vl,vu,.none]}} a H3 x v vl vu l u s3.heap.objs.size Q I4 r1 (Heap.IsSliceOf.new ..) pl pu q3;show Ï (Ö X.prog X.w) X.A (wU e (.Slice lo hi none p2) v<|.ref s3.heap.objs.size) (EP X Æ a Q) X.xe {s3 with heap:=s3.heap.push {cls:=.type "slice",data:=.fields #[vl,vu,.none]}};exact tail_any (ops:=[.ref s3.heap.objs.size,v]) ht hT hg (by with_unfolding_all rfl)
def zh(xs:List V)(lo hi:Option Int):List V:=(xs.drop<|HT.mq xs.length 0 lo).take (HT.mq xs.length xs.length hi-HT.mq xs.length 0 lo)
def zi(xs:List V)(lo hi:Option Int):(zh xs lo hi).length<=xs.length:=by unfold zh;rw[rN,List.length_drop];lia
end
noncomputable def DH(n:Nat)(i:Int):Option Nat:=if 0<=i then(if i<n then some i.toNat else none)else if -(n:Int)<=i then some (i+n).toNat else none
def nY{α:Type}(xs:List α)(i:Int):Option α:=(DH xs.length i).bind λj=>xs[j]?
def Ce{n:Nat}{i:Int}{j:Nat}(h:DH n i=some j):seqIndex? i n=some j/\j<n/\ -(n:Int)<=i/\i<n:=by
 unfold DH at h;by_cases h0:0<=i
 ·rw[if_pos h0]at h;by_cases h1:i<n
  ·rw[if_pos h1]at h;have e:i.toNat=j:=Ś h;exact⟨by rw[seqIndex_of h0 h1,e],by lia,by lia,h1⟩
  ·rw[if_neg h1]at h;cases h
 ·rw[if_neg h0]at h;by_cases h1: -(n:Int)<=i
  ·rw[if_pos h1]at h;have e:(i+n).toNat=j:=Ś h;exact⟨by rw[seqIndex_neg (by lia) h1,e],by lia,h1,by lia⟩
  ·rw[if_neg h1]at h;cases h
def xM{α:Type}{xs:List α}{i:Int}{v:α}(h:nY xs i=some v):∃j,seqIndex? i xs.length=some j/\xs[j]?=some v/\j<xs.length/\ -(xs.length:Int)<=i/\i<xs.length:=by
 unfold nY at h;cases e:DH xs.length i with
 |none=>rw[e]at h;cases h|some j=>rw[e]at h;obtain⟨h1,h2,h3,h4⟩:=Ce e;exact⟨j,h1,h,h2,h3,h4⟩
def sW(b:È):Prop:=∀o i,sw b false o i=operate [o,i] (lL o i)
def Aq(X:Cx)(r:R2):Prop:=
 ∀(value slice:È) (Æ:List (À×Obj)) (s:Ã) (a:St) (H:Hp) (x y:V) (v u:Á) (Q:VK),Inv X Æ a H s->RelV x v->RelV y u->r x y H Q->
  sw slice false v u=operate [v,u] (lL v u)->Ï (Ö X.prog X.w) X.A (wU value slice v u) (EP X Æ a Q) X.xe s
def Nc(X:Cx)(id:String)(r:V->List V->Hp->VK->Prop):Prop:=
 ∀(Æ:List (À×Obj)) (s:Ã) (a:St) (H:Hp) (x:V) (xs:List V) (v:Á) (us:List Á) (Q:VK),Inv X Æ a H s->RelV x v->ĳ xs us->r x xs H Q->
  Ï (Ö X.prog X.w) X.A (call (.builtin id) (v::us)) (EP X Æ a Q) X.xe s
section
variable{X:Cx}{a b:È}{ta tb:TE}{pos:Pos}
def Aq.or{r r':R2}(h:Aq X r)(h':Aq X r'):Aq X (λx y H Q=>r x y H Q\/r' x y H Q):=by
 intro value slice Æ s c H x y v u Q I rx ry q hs;rcases q with q|q
 ·exact h value slice Æ s c H x y v u Q I rx ry q hs
 ·exact h' value slice Æ s c H x y v u Q I rx ry q hs
def E2{r:R2}(hr:Aq X r)(ha:PE X a ta)(hb:PE X b tb)(hs:sW b):PE X (.Subscript a b pos) (Ju r ta tb):=λÆ s c H Q I h=>Subscript_<|KD ha hb I h λv u s2 x y H2 I2 rx ry q=>hr a b Æ s2 c H2 x y v u Q I2 rx ry q<|hs _ _
def Oi(K:Î):R2:=λx y H Q=>∃p xs i v,x=.ref p/\y=.int i/\Ϫ K H p xs/\nY xs i=some v/\Q v H
def Oj(K:Î):R2:=λx y H Q=>∃p xs i v,x=.ref p/\y=.int i/\gk K H p xs/\nY xs i=some v/\Q v H
def Ol:R2:=λx y H Q=>∃z i c,x=.str z/\y=.int i/\z.length<=sizeLine/\nY z.cps.toList i=some c/\Q (.str ⟨#[c]⟩) H
def HA:Aq X (Oi X.K):=by
 intro value slice Æ s c H x y v u Q I rx ry h hs;obtain⟨p,xs,i,z,rfl,rfl,hq,he,q⟩:=h;cases rx;obtain⟨t,rfl⟩:=ry;obtain⟨č,r,pl,hz⟩:=I.list hq;obtain⟨j,h1,h2,h3,h4,h5⟩:=xM he;obtain⟨w,ew,HC⟩:=r.get h2;have hl:=r.length;have hn:=qc;have lf:EP X Æ c Q w s:=⟨z,H,I,HC,q⟩;by_cases h0:0<=i
 ·have hj:i.toNat=j:=by
   rw[seqIndex_of h0 h5]at h1;exact Ś h1
  exact item_listR pl.isList h0 (by lia) (by rw[hj];simpa using ew) lf hs
 ·have hj:(i+(č.toArray.size:Int)).toNat=j:=by
   rw[seqIndex_neg (by lia) h4]at h1;rw[Ĩ,<-hl];exact Ś h1
  exact subscriptTail_builtinR (x:=w) pl.isList.typeIs slot_list_getitem.lookup
   (wpAny_getItem_list_neg (Q:=λr s'=>r=w/\EP X Æ c Q r s') pl.isList (by lia) (by rw[Ĩ]<;>lia) (by lia) (by rw[hj];simpa using ew) ⟨rfl,lf⟩) hs
def KW:Aq X (Oj X.K):=by
 intro value slice Æ s c H x y v u Q I rx ry h hs;obtain⟨p,xs,i,z,rfl,rfl,hq,he,q⟩:=h;cases rx;obtain⟨t,rfl⟩:=ry;obtain⟨č,r,pl,hz⟩:=I.tuple hq;obtain⟨j,h1,h2,h3,h4,h5⟩:=xM he;obtain⟨w,ew,HC⟩:=r.get h2;have hl:=r.length;have hn:=qc;have lf:EP X Æ c Q w s:=⟨z,H,I,HC,q⟩;exact subscriptTail_builtinR (x:=w) pl.typeIs slot_tuple_getitem.lookup
  (getItem_tuple (j:=j) (Q:=λr s'=>r=w/\EP X Æ c Q r s') pl (by lia) (by lia) (by rw[Ĩ,<-hl];exact h1) (by simpa using ew) ⟨rfl,lf⟩) hs
def KY:Aq X Ol:=by
 intro value slice Æ s d H x y v u Q I rx ry h hs;obtain⟨z,i,c,rfl,rfl,hz,he,q⟩:=h;obtain⟨t,rfl⟩:=rx;obtain⟨t',rfl⟩:=ry;obtain⟨j,h1,h2,h3,h4,h5⟩:=xM he;have hl:z.cps.toList.length=z.length:=by simp[bC]
 rw[hl]at h1 h4 h5;have hn:=qc;exact tail_any (lM s z t) slot_str_getitem.lookup (getItem_str (c:=c) (by
  have e1:decide (i< -(2^63:Int))=false:=decide_eq_false (by lia);have e2:decide (i>=2^63)=false:=decide_eq_false (by lia);rw[e1,e2,wo]) (by rw[h1];simpa using h2) ⟨.str ⟨#[c]⟩,H,I.tok _,⟨_,rfl⟩,q⟩) hs
def Tr(K:Î):R2:=λx y H Q=>Oi K x y H Q\/Oj K x y H Q\/Ol x y H Q
def AO:Aq X (Tr X.K):=HA.or<|KW.or KY
def AQ(č:List Á)(n j:Nat)(u:Á):oJ (·.setIfInBounds j u) {cls:=.type "list",data:=.seq č.toArray n}={cls:=.type "list",data:=.seq (č.set j u).toArray n}:=by simp[oJ]
theorem Inv.lst{Æ:List (À×Obj)}{c:St}{H:Hp}{s:Ã}{p:À}{xs:List V}(I:Inv X Æ c H s)(h:H p=some (.lst xs)):
 ∃(č:List Á) (n:Nat),ĳ xs č/\s.heap.get? p=some {cls:=.type "list",data:=.seq č.toArray n}/\xs.length<=sizeLine:=by
 obtain⟨z,č,n,r,e⟩:=I.hok p _ h;exact⟨č,n,r,e,z⟩
def Inv.KZ{Æ:List (À×Obj)}{c:St}{H:Hp}{s:Ã}{p:À}{xs ys:List V}{č its':List Á}{n n':Nat}{f:Obj->Obj}(I:Inv X Æ c H s)(h:H p=some (.lst xs))
 (ho:s.heap.get? p=some {cls:=.type "list",data:=.seq č.toArray n})(hf:f {cls:=.type "list",data:=.seq č.toArray n}={cls:=.type "list",data:=.seq its'.toArray n'})(r:ĳ ys its')(hz:ys.length<=sizeLine)(t:Nat):
 Inv X Æ c (upd H p<|.lst ys) {s with heap:=s.heap.update p f,toks:=t}:=by
 have e:(s.heap.update p f).get? p=some {cls:=.type "list",data:=.seq its'.toArray n'}:=by rw[B_ f ho (by rw[hf]<;>rfl),hf]
 refine I.write (x:=p) (e:=p) (by rw[h];trivial) (.inl rfl) (λb u hb q=>(B0 _ _<|đ hb).trans q) ⟨_,e⟩ ?_;exact⟨hz,its',n',r,e⟩
def Om:V->V->V->Hp->(Hp->Prop)->Prop:=λo i v H Q=>∃p xs k j,o=.ref p/\i=.int k/\H p=some (.lst xs)/\DH xs.length k=some j/\Q (upd H p<|.lst<|xs.set j v)
def GR:N5 X Om:=by
 intro Æ s c H o i v ov iv u Q I ro ri rv h;obtain⟨p,xs,k,j,rfl,rfl,hp,hj,q⟩:=h;cases ro;obtain⟨t,rfl⟩:=ri;obtain⟨č,n,r,ho,hz⟩:=I.lst hp;obtain⟨h1,h2,h3,h4⟩:=Ce hj;have hl:=r.length;have hn:=qc;have I':Inv X Æ c (upd H p<|.lst<|xs.set j v) {s with heap:=s.heap.update p (oJ (·.setIfInBounds j u))}:=
  I.KZ hp ho (AQ č n j u) (r.set rv j) (by rw[wA];exact hz) s.toks
 by_cases h0:0<=k
 ·have hk:k.toNat=j:=by
   rw[seqIndex_of h0 h4]at h1;exact Ś h1
  exact PySem.W.ki_setAt ho h0 (by lia) (by rw[Ĩ,<-hl];exact h4) (by rw[hk];exact⟨_,I',q⟩)
 ·have hk:(k+(č.toArray.size:Int)).toNat=j:=by
   rw[seqIndex_neg (by lia) h3]at h1;rw[Ĩ,<-hl];exact Ś h1
  exact PySem.W.ki_setBack ho (by lia) (by rw[Ĩ,<-hl];exact h3) (by lia) (by rw[hk];exact⟨_,I',q⟩)
def xN(lo hi:Option Int)(n:Nat):(jD lo hi none n).1=((HT.mq n 0 lo:Nat):Int)/\(jD lo hi none n).2.1=((HT.mq n n hi:Nat):Int)/\(jD lo hi none n).2.2=1:=by
 refine⟨?_,?_,rfl⟩
 ·cases lo with
  |none=>simp[jD,HT.mq]|some i=>
   simp only[jD,HT.mq,Option.getD_none,show(1:Int)>0 by decide,if_true];by_cases h:i<0
   ·simp only[h,if_true]<;>lia
   ·simp only[h,if_false]<;>lia
 ·cases hi with
  |none=>simp[jD,HT.mq]|some i=>
   simp only[jD,HT.mq,Option.getD_none,show(1:Int)>0 by decide,if_true];by_cases h:i<0
   ·simp only[h,if_true]<;>lia
   ·simp only[h,if_false]<;>lia
def uU(č:List Á)(lo hi:Option Int):slicePick č.toArray lo hi none=((č.drop<|HT.mq č.length 0 lo).take (HT.mq č.length č.length hi-HT.mq č.length 0 lo)).toArray:=by obtain⟨h1,h2,h3⟩:=xN lo hi č.toArray.size;unfold slicePick;rw[h1,h2,h3];simp only[sliceRange_one,pick_run,Ĩ]<;>rfl
def Ts(K:Î):V->Option Int->Option Int->Hp->VK->Prop:=λx lo hi H Q=>∃a xs,x=.ref a/\Ϫ K H a xs/\∀p,H p=none->Q (.ref p) (upd H p<|.lst<|zh xs lo hi)
def HD:Cd X (Ts X.K):=by intro Æ s c H x v vl vu lo hi sl Q I rx hs pl pu h;obtain⟨a,xs,rfl,hx,q⟩:=h;cases rx;obtain⟨č,r,ht,hz⟩:=I.list hx;have hlen:=r.length;refine⟨"list",_,slot_list_getitem.lookup,ht.isList.typeIs,?_⟩;refine wpAny_getItem_list_slice ht.isList hs pl pu .none (by simp) ?_ (by rw[Ĩ]<;>lia);rw[uU,<-hlen];refine⟨.ref s.heap.objs.size,_,I.laid (t':=s.toks) (o:=.lst<|zh xs lo hi) (λb ob q=>Ă _ q) (ø _) ?_,rfl,q _<|I.hok.fresh<|ø _⟩;exact⟨ř (zi xs lo hi) hz,_,0,(r.drop<|HT.mq xs.length 0 lo).take (HT.mq xs.length xs.length hi-HT.mq xs.length 0 lo),į _ rfl⟩
def xO:Ŗ X (.type "list") (λxs H Q=>∃p ys,xs=[.ref p]/\(Ϫ X.K H p ys\/gk X.K H p ys)/\∀l,H l=none->Q (.ref l) (upd H l<|.lst ys)):=by
 intro Æ s c H xs us Q I r h;obtain⟨p,ys,rfl,hq,q⟩:=h;obtain⟨u,rfl,rx⟩:=vals1 r;cases rx;have lf:∀(č:List Á),ĳ ys č->ys.length<=sizeLine->∀(h':Ñ) (c':Nat),(∀b o',s.heap.get? b=some o'->h'.get? b=some o')->
  h'.get? s.heap.objs.size=some {cls:=.type "list",dict:=none,data:=.seq č.toArray c',slots:=#[]}->EP X Æ c Q (.ref s.heap.objs.size) {s with heap:=h'}:=λč r' hz h' c' kp e=>
  ⟨.ref s.heap.objs.size,_,I.laid (t':=s.toks) kp (ø _)<|show bS X.prog X.w _ h' _ (.lst ys)from⟨hz,č,c',r',e⟩,rfl,q _<|I.hok.fresh<|ø _⟩
 rcases hq with hq|hq
 ·obtain⟨č,r',pl,hz⟩:=I.list hq;have hlen:=r'.length;obtain⟨o,ho,hc,n,hd⟩:=pl.isList;exact call_list_seq p (.inl rfl) ho hc hd (λh' c' kp e=>lf č r' hz h' c' kp e) (by simp only[Ĩ]<;>lia)
 ·obtain⟨č,r',pl,hz⟩:=I.tuple hq;have hlen:=r'.length;obtain⟨o,ho,hc,n,hd⟩:=pl;exact call_list_seq p (.inr rfl) ho hc hd (λh' c' kp e=>lf č r' hz h' c' kp e) (by simp only[Ĩ]<;>lia)
def uV:Ŗ X (.type "tuple") (λxs H Q=>∃p ys,xs=[.ref p]/\((Ϫ X.K H p ys/\∀l,H l=none->Q (.ref l) (upd H l<|.tup ys))\/(gk X.K H p ys/\Q (.ref p) H))):=by
 intro Æ s c H xs us Q I r h;obtain⟨p,ys,rfl,h⟩:=h;obtain⟨u,rfl,rx⟩:=vals1 r;cases rx;rcases h with⟨hq,q⟩|⟨hq,q⟩
 ·obtain⟨č,r',pl,hz⟩:=I.list hq;have hlen:=r'.length;refine call_tuple_list pl.isList (λh' kp=>?_) (by simp only[Ĩ]<;>lia);have I1:Inv X Æ c H {s with heap:=h'}:=I.kept (t':=s.toks) kp;have I2:Inv X Æ c (upd H h'.objs.size<|.tup ys) {s with heap:=h'.push {cls:=.type "tuple",data:=.seq č.toArray}}:=
   I1.laid (t':=s.toks) (λb o e=>Ă _ e) (ø _) (show bS X.prog X.w _ _ _ (.tup ys)from⟨hz,č,r',IsTup.new _ _⟩)
  exact⟨.ref h'.objs.size,_,I2,rfl,q _<|I1.hok.fresh<|ø _⟩
 ·obtain⟨č,r',pl,hz⟩:=I.tuple hq;exact call_tuple_same pl ⟨.ref p,H,I,rfl,q⟩
def Xy(K:Î)(T:String)(x:V)(H:Hp):Prop:=match x with
 |.str _=>T="str"|.int _=>T="int"|.ref p=>(T="list"∧∃xs,Ϫ K H p xs)∨(T="tuple"∧∃o,K.lookup p=some o∧o.cls=.type "tuple"∧o.dict=none)∨
     (T="dict"/\((∃ı,H p=some (.dK ı))\/∃ı,H p=some (.dT ı)))\/(T="set"/\∃S n,H p=some (.set S n))
 |_=>False
def K_{Æ:List (À×Obj)}{d:St}{H:Hp}{s:Ã}{T:String}{x:V}{v:Á}(I:Inv X Æ d H s)(r:RelV x v)(ty:Xy X.K T x H):
 s.TypeIs v T/\∀a,v=.ref a->∃ob,s.heap.get? a=some ob/\ob.dict=none:=by
 cases x with
 |str z=>obtain⟨t,rfl⟩:=r;cases(show T="str"from ty);exact⟨lM s z t,λ_ e=>nomatch e⟩
 |int i=>obtain⟨t,rfl⟩:=r;cases(show T="int"from ty);exact⟨typeIs_int s i t,λ_ e=>nomatch e⟩
 |ref p=>
  cases r;rcases ty with⟨rfl,xs,hq⟩|⟨rfl,o,hk,hc,hd⟩|⟨rfl,hk⟩|⟨rfl,S,n,hk⟩
  ·obtain⟨č,_,pl,_⟩:=I.list hq;refine⟨pl.isList.typeIs,λa e=>?_⟩;cases e;obtain⟨o,n,e,c,hd,_⟩:=pl;exact⟨o,e,hd⟩
  ·refine⟨⟨o,I.yW p o hk,hc⟩,λa e=>?_⟩;cases e;exact⟨o,I.yW _ o hk,hd⟩
  ·have z:∃o,s.heap.get? p=some o∧o.ExactDict:=by
    rcases hk with⟨ı,hk⟩|⟨ı,hk⟩
    ·obtain⟨_,_,_,_,o,_,_,e,ex,_⟩:=I.hok p _ hk;exact⟨o,e,ex⟩
    ·obtain⟨_,_,_,_,o,_,_,e,ex,_⟩:=I.hok p _ hk;exact⟨o,e,ex⟩
   obtain⟨o,e,ex⟩:=z;refine⟨⟨o,e,ex.1⟩,λa e2=>?_⟩;cases e2;exact⟨o,e,ex.2.1⟩
  ·obtain⟨o,_,_,_,e,ex,_⟩:=I.hok p _ hk;refine⟨⟨o,e,ex.1⟩,λa e2=>?_⟩;cases e2;exact⟨o,e,ex.2.1⟩
 |_=>exact aI ty
def K0(K:Î)(T:String)(r:V->List V->Hp->VK->Prop)(to:TE)(t:TA):TE:=λc H Q=>to c H λx H1=>Xy K T x H1/\t c H1 λxs H2=>r x xs H2 Q
variable{o e:È}{es:List È}{to:TE}{t:TA}{name:Str}{dI gf:Pos}{T id:String}{r:V->List V->Hp->VK->Prop}
def fk(pa:PlainAttrs T)(slot:Slot T name id)(lm:typeOf (.builtin id)=ì (.type "method_descriptor"))(hm:Nc X id r)(ho:PE X o to)(ha:PA X (e::es) t)
 (jq:dh o name X.env (eval o X.env)=eval o X.env:=by kernel_rfl)
 (qA:((Ĉ gf<|Ð (e::es) X.env).all (fun x=>!x.1)&&(bv gf<|bz [] X.env).all (fun x=>x.1.isSome)
   &&decide ((e::es).length+([]:List ϯ).length+(if([]:List ϯ).isEmpty then 0 else 1)<30))=true:=by rfl)
 (jr:(dI.endLine==gf.line)=true:=by rfl)(hs:Ð (e::es) X.env=(false,eval e X.env)::Ð es X.env:=by rfl)(nW:(Ĉ gf<|Ð es X.env).any (·.1)=false:=by kernel_rfl):
 PE X (.Call (.Attribute o name dI) (e::es) [] gf) (K0 X.K T r to t):=by
 intro Æ s c H Q I h;refine wpAny_Call_method_late jq qA jr rfl<|ώ (ho Æ s c H _ I h) λv s1 zz=>?_;obtain⟨x,H1,I1,r1,ty,q1⟩:=zz;obtain⟨h1,h2⟩:=K_ I1 r1 ty;refine⟨T,id,pa,slot,lm,h1,h2,?_⟩;have hA:=ha gf Æ s1 c H1 _ I1 q1;rw[hs]at hA⊢;refine Calls.callWith_builtin (by show(false||(Ĉ gf<|Ð es X.env).any (·.1))=false;rw[nW]<;>rfl)<|Calls.evalArgs_plain ?_;exact ώ hA λus s2 ⟨vs,H2,I2,r2,q2⟩=>hm Æ s2 c H2 x vs v us Q I2 r1 r2 q2
end
def Xz(X:Cx)(id:String)(r:V->List V->Hp->VK->Prop):Prop:=
 ∀(Æ:List (À×Obj)) (s:Ã) (a:St) (H:Hp) (x:V) (xs:List V) (v:Á) (us:List Á) (Q:VK),Inv X Æ a H s->RelV x v->ĳ xs us->r x xs H Q->
  Ï (Ö X.prog X.w) X.A (call (.builtin id) (v::us)) (EP X Æ a Q) X.xe s
def ĳ.one:∀{x:V}{us:List Á},ĳ [x] us->∃u,us=[u]/\RelV x u:=by
 intro x us h;cases h with
 |cons r t=>cases t;exact⟨_,rfl,r⟩
theorem ĳ.rep{xs:List V}{us:List Á}(h:ĳ xs us):∀k:Nat,ĳ (ç k xs).flatten (ç k us).flatten
 |0=>.nil|k+1=>by rw[fH,fH,jz,jz];exact ĳ.append h<|ĳ.rep h k
theorem foldl_rep(č:List Á):∀(k:Nat) (acc:List Á),
 List.foldl (λx1 x2=>x1++x2) acc.toArray (ç k č.toArray)=(acc++(ç k č).flatten).toArray
 |0,acc=>by simp|k+1,acc=>by
  have e:acc.toArray++č.toArray=(acc++č).toArray:=by simp
  have e2:(acc++č)++(ç k č).flatten=acc++(ç (k+1) č).flatten:=by rw[fH,jz,ly]
  rw[<-e2,<-foldl_rep č k (acc++č),<-e,fH,br]
section
variable{X:Cx}{Æ:List (À×Obj)}{σ:St}{H:Hp}{s:Ã}{l:À}{xs ys:List V}
def Inv.On{č its':List Á}{n:Nat}{f:Array Á->Array Á}{t':Nat}(I:Inv X Æ σ H s)(hH:H l=some (.lst xs))
 (e:s.heap.get? l=some {cls:=.type "list",data:=.seq č.toArray n})(hf:f č.toArray=its'.toArray)(hv:ĳ ys its')(hz:ys.length<=sizeLine):
 Inv X Æ σ (upd H l<|.lst ys) {s with heap:=s.heap.update l<|oJ f,toks:=t'}:=by
 have q:=PySem.IsL.update e f;rw[hf]at q;refine I.write (x:=l) (e:=l) (by rw[hH];exact trivial) (.inl rfl) (λb' u hb hu=>(B0 s.heap (oJ f)<|đ hb).trans hu) ⟨_,q⟩ ?_;exact⟨hz,its',_,hv,q⟩
def Inv.Oo{č:List Á}{t':Nat}(I:Inv X Æ σ H s)(hv:ĳ ys č)(hz:ys.length<=sizeLine):
 Inv X Æ σ (upd H s.heap.objs.size<|.lst ys) {s with heap:=s.heap.push {cls:=.type "list",data:=.seq č.toArray},toks:=t'}:=
 I.laid (λ_ _ q=>Ă _ q) (ø _) ⟨hz,č,0,hv,į _ rfl⟩
theorem Inv.fresh(I:Inv X Æ σ H s):H s.heap.objs.size=none:=I.hok.fresh<|ø _
def Inv.HE(I:Inv X Æ σ H s)(hH:H l=some (.lst xs)):xs.length<=sizeLine/\∃(č:List Á) (n:Nat),ĳ xs č/\xs.length=č.length/\s.heap.get? l=some {cls:=.type "list",data:=.seq č.toArray n}:=by obtain⟨z,č,n,r,e⟩:=I.hok l _ hH;exact⟨z,č,n,r,r.length,e⟩
def zj{n:Nat}(h:n<=sizeLine):sG n=false:=by unfold sG;exact decide_eq_false (by lia)
end
section
variable{X:Cx}
def my:V->List V->Hp->VK->Prop:=λx vs H Q=>∃l xs y,x=.ref l/\vs=[y]/\H l=some (.lst xs)/\xs.length<sizeLine/\Q .non (upd H l<|.lst<|xs++[y])
def Ŵ:Xz X "list.append" my:=by intro Æ s a H x vs v us Q I rx rv h;obtain⟨l,xs,y,rfl,rfl,hH,hz,q⟩:=h;cases rx;obtain⟨u,rfl,ru⟩:=rv.one;obtain⟨z,č,n,r,hl,e⟩:=I.HE hH;refine jE bB ⟨_,e,rfl⟩ F.entry_list_append (F.args_list_append_2 _ _) (PySem.list_append l č.toArray n u (by rw[Ĩ];lia)) ⟨e,?_⟩;refine⟨.non,_,I.On (its':=č++[u]) hH e (by simp) (r.append<|.cons ru .nil) ?_,rfl,q⟩;rw[ő,Bz];lia
def Cf:V->List V->Hp->VK->Prop:=λx vs H Q=>∃l b xs zs,x=.ref l/\vs=[.ref b]/\H l=some (.lst xs)/\H b=some (.lst zs)/\xs.length+zs.length<=sizeLine/\Q .non (upd H l<|.lst<|xs++zs)
def vt:Xz X "list.extend" Cf:=by
 intro Æ s a H x vs v us Q I rx rv h;obtain⟨l,b,xs,zs,rfl,rfl,hH,hB,hz,q⟩:=h;cases rx;obtain⟨u,rfl,ru⟩:=rv.one;cases ru;obtain⟨z,č,n,r,hl,e⟩:=I.HE hH;obtain⟨z2,gH,n2,r2,EA,e2⟩:=I.HE hB;have hsz:č.toArray.size+gH.toArray.size<=sizeLine:=by rw[Ĩ,Ĩ];lia
 have E3:¬(!č.toArray.isEmpty&&sG (č.toArray.size+gH.toArray.size))=true:=by rw[zj hsz,Bool.and_false];exact aG
 refine jE xl ⟨_,e,rfl⟩ F.entry_list_extend (F.args_list_extend_2 _ _)
  (AutoSeq1.list_extend_list_list_0 l č.toArray n b gH.toArray n2 E3 (by rw[Ĩ];lia)<|by lia) ⟨e,e2,?_⟩
 refine⟨.non,_,I.On (its':=č++gH) hH e (by simp) (r.append r2) ?_,rfl,q⟩;rw[ő];lia
def Tt:R2:=λx y H Q=>∃l k xs,x=.ref l/\y=.int k/\H l=some (.lst xs)/\ -(2^63)<=k/\k<2^63/\xs.length*k.toNat<=sizeLine/\
 ∀p,H p=none->Q (.ref p) (upd H p<|.lst (ç k.toNat xs).flatten)
def Jg{α:Type}(xs:List α)(k:Nat):(ç k xs).flatten.length=k*xs.length:=by
 induction k with
 |zero=>simp|succ k ih=>rw[fH,jz,ő,ih,Nat.succ_mul,oo]
def K1:ae X (Į .Mult) Tt:=by
 intro Æ s b H x y v u Q I rx ry h;obtain⟨l,k,xs,rfl,rfl,hH,h1,h2,hz,q⟩:=h;cases rx;obtain⟨t,rfl⟩:=ry;obtain⟨z,č,n,r,hl,e⟩:=I.HE hH;have hlen:č.toArray.size*k.toNat<=sizeLine:=by rw[Ĩ,<-hl];exact hz
 have hcap:¬č.toArray.size*k.toNat>(2^63-1)/8:=by
  have:(sizeLine:Nat)<=(2^63-1)/8:=by decide
  lia
 have WS:¬(!Builtin.List.listFitsIndex k)=true:=by rw[fitsIndex_both h1 h2];exact aG
 have E3:¬sG (č.toArray.size*k.toNat)=true:=by rw[zj hlen];exact aG
 have WT:List.foldl (λx1 x2=>x1++x2) #[] (ç (if č.toArray.isEmpty=true then 0 else k.toNat) č.toArray)=(ç k.toNat č).flatten.toArray:=by
  have f0:∀m:Nat,List.foldl (λx1 x2=>x1++x2) #[] (ç m č.toArray)=(ç m č).flatten.toArray:=λm=>by have:=foldl_rep č m [];rw[ϕ]at this;exact this
  rw[f0];cases č with
  |nil=>simp|cons a r'=>rw[if_neg<|by simp]
 refine wpAny_binaryOp_repeat_ref (T:="list") (U:="int") (by decide) ⟨_,e,rfl⟩ (λs'=>typeIs_int s' k t) noFill_list_mul F.fills_int_mul F.slot_int_rmul repeat_list F.slot_int_index.lookup
  (jE F.slot_int_rmul (typeIs_int s k t) F.entry_int_rmul (F.args_int_rmul_2 _ _) (int___rmul___int_list k t l č.toArray n)
    ⟨e,rfl,⟨_,e,rfl⟩,jE F.slot_list_mul ⟨_,e,rfl⟩ F.entry_list_mul (F.args_list_mul_2 _ _) (AutoListH.list___mul___list_int_3 l č.toArray n k t WS hcap E3) ⟨e,?_⟩⟩)
 rw[WT];exact⟨.ref _,_,I.Oo (t':=s.toks) (r.rep k.toNat) (by rw[Jg,lC];exact hz),rfl,q _ I.fresh⟩
end
end L2
namespace Rf
open PySem PySem.W PySem.Calls PyProof.Rows
def q_{P:gX}{h:Ñ}:∀(ns:List Int) (vs:List Á),WellAll P h vs (ns.map WData.int)->lE vs ns:=by
 intro ns
 induction ns with
 |nil=>intro vs w;rw[ž]at w;cases w;exact .nil|cons n ns ih=>
  intro vs w;rw[Ó]at w;cases w with
  |cons a b=>cases a;exact .cons _ _<|ih _ b
def DJ{l:l_}{n:Nat}(hn:l.most=some n){P:gX}{h:Ñ}{args:List WData}{ML:List Á}
 (Jh:l.row.toRowW.claim.pre args=true)(WU:WellAll P h ML args):
 ∃a vs ns,ML=[ť a]/\args=[WData.list<|ns.map WData.int]/\h.get? a=some {cls:=.type "list",data:=.seq vs.toArray}/\lE vs ns/\ns.length<=n:=by
 have hsh:WShape.hasAll [] args [.list .int]=true:=(pre_splitW Jh).1;have hc:l.pre.holds [] {args:=args}=true:=(pre_splitW Jh).2;obtain⟨d,r,rfl,h1,h2⟩:=hasAllW_cons hsh;obtain rfl:=hasAllW_nil h2;obtain⟨xs,rfl,h3⟩:=hasW_list h1;obtain⟨ns,rfl⟩:=items_int h3;have hlen:ns.length<=n:=by
  unfold OpenLaw.pre at hc;have h4:(WTm.not<|.lt (.lit<|.int (n:Int))<|.len<|.arg 0).holds [] {args:=[.list<|ns.map .int]}=true:=by have h4:=(holds_andW hc).1;rw[hn]at h4;exact h4
  have h5:=condW_of h4<|w_not<|w_lt w_lit<|w_len_list<|w_arg rfl;rw[Ę]at h5;refine Nat.le_of_not_lt λq=>?_;have q':(n:Int)<((ns.length:Nat):Int):=by lia
  first
   |(rw[decide_eq_true q']at h5;exact absurd h5<|by decide)
   |(simp at h5;lia)
 cases WU with
 |cons w1 w2=>
  cases w2;cases w1 with
  |list ho iM=>exact⟨_,_,ns,rfl,rfl,ho,q_ ns _ iM,hlen⟩
def DK(l:l_)(args:List WData):l.row.toRowW.claim.post args (.bool true) args=true:=
 postW_of (r:=l.row.toRowW) (X:=(true==true))
  (show WShape.has [] (.bool true) .bool=true by first|rfl|decide|simp[WShape.has,WShape.arms,WShape.armsAll])
  (show(WTm.eq .res<|.lit<|.bool true).value [] {args:=args,res:=some<|.bool true,after:=args}=some (.bool<|true==true)from w_eq_bool (w_res rfl) w_lit) rfl
def zk{l:l_}{n:Nat}{q:ä}{nr:List Str}{XP:(Str->Option Á)->Ñ->Prop}{YP:Þ->Ñ->Prop}{d:DefRec}
 (hn:l.most=some n)(MN:d.params.defaults=[])
 (call:∀(w:Þ) (s₀ s₁:Ã) (mg mb:Str→Option Á) (fa:À) (o:Obj) (pm cd doc:Á) (a:À) (vs:List Á) (ns:List Int),
   Ground q nr [] XP w s₀ mg mb s₁.heap->YP w s₁.heap->
   s₁.heap.get? fa=some o->o.data=.func (docDef d.name d.params d.body d.scope pm cd doc)->s₁.heap.CodeRec cd d.name->mg d.name=some (.ref fa)->
   s₁.heap.get? a=some {cls:=.type "list",data:=.seq vs.toArray}->lE vs ns->ns.length<=n->s₁.gens= #[]->
   fN (Ö l.prog w) gY (.call (.ref fa) ⟨[.ref a],[]⟩) (λr s'=>r=.ok (.ret<|.bool true)/\OldK s₁.heap s'.heap/\s'.os=s₁.os/\fJ s'.gens) s₁):
 sS q nr XP YP l.row.toRowW d [] (λf vs=>sx f vs):=by
 intro w s₀ s₁ mg mb G Y fa o pm cd doc dV kV ho hd Ek hD QH hg args ML as Jh Zak hrd WU hlo;obtain rfl:dV=.none:=Dflts.none hD MN;obtain rfl:kV=.none:=Dflts.noKw hD;obtain⟨a,vs,ns,rfl,rfl,MO,GS,hlen⟩:=DJ hn Jh WU;refine enter_call<|lN (call w s₀ s₁ mg mb fa o pm cd doc a vs ns G Y ho (fd_plain hd) Ek QH MO GS hlen hg) λr s' hq=>?_;obtain⟨rfl,h2,h3,h4⟩:=hq;exact⟨.inl ⟨.bool true,.bool true,[],rfl,λ_=>rfl,.bool true,DK l _,λ_=>⟨BH,λ_ hm=>(nomatch hm)⟩⟩,h2,h3,h4⟩
end Rf
namespace L2
open PySem PySem.Spec PyProof.Rows
theorem cP:∀{vs:List Á}{ns:List Int},lE vs ns->ĳ (ns.map V.int) vs
 |_,_,.nil=>.nil|_,_,.cons n t h=>.cons ⟨t,rfl⟩<|cP h
def MP(H:Hp):Prop:=∀b,H b=none\/(∃o xs,H b=some (.gj o<|.lst xs))\/∃q,H b=some (.am q)
noncomputable def kD(K:Î):List Str->Hp
 |[]=>λ_=>none
 |y::r=>λb=>match cJ K y with
  |some (_,P)=>if b=P then some (.am<|xC y)else kD K r b|none=>kD K r b
theorem ib{K:Î}:∀{l:List Str}{b:À}{u:HO},kD K l b=some u->∃y c,y∈l/\cJ K y=some (c,b)/\u=.am (xC y)
 |[],_,_,h=>by cases(show(none:Option HO)=some _ from h)|y::r,b,u,h=>by
  have h':(match cJ K y with
   |some (_,P)=>if b=P then some (.am<|xC y)else kD K r b|none=>kD K r b)=some u:=h
  have rc:kD K r b=some u->∃z c,z∈y::r/\cJ K z=some (c,b)/\u=.am (xC z):=λq=>
   let ⟨z,c,h1,h2,h3⟩:=ib q
   ⟨z,c,õ _ h1,h2,h3⟩
  cases e:cJ K y with
  |none=>rw[e]at h';exact rc h'|some p=>
   obtain⟨c,P⟩:=p;rw[e]at h';have h2:(if b=P then some (HO.am<|xC y)else kD K r b)=some u:=h';by_cases hb:b=P
   ·rw[if_pos hb]at h2;cases h2;exact⟨y,c,ł,by rw[hb];exact e,rfl⟩
   ·rw[if_neg hb]at h2;exact rc h2
theorem Cg{K:Î}{y:Str}{c P:À}(e:cJ K y=some (c,P)):∀{l:List Str},(∀z∈l,z=y)->y∈l->kD K l P=some (.am<|xC y)
 |[],_,h=>by cases h|z::r,h1,_=>by
  have hz:=h1 z ł;subst hz;show(match cJ K z with
   |some (_,Q)=>if P=Q then some (HO.am<|xC z)else kD K r P|none=>kD K r P)=_
  rw[e];exact if_pos rfl
def E4{P:ä}{w:Þ}{K:Î}{mg mb:Str->Option Á}{CX:ia}{k:Nat}{fa a:À}{fd:ċ}{x:Str}{sp:Sp}{s₁:Ã}{vs:List Á}{ns:List Int}
 (KX:K.In s₁.heap)(Am:s₁.heap.Ns Ĥ mg)(hb:s₁.heap.Ns builtinsNs mb)(hbb:∀x:Str,x≠"__name__" ->mb x=gQ x)(WV:s₁.heap.NoLimit)(hg:s₁.gens= #[])
 (ha:s₁.heap.get? a=some {cls:=.type "list",data:=.seq vs.toArray})(hi:lE vs ns)(hl:ns.length<=sizeLine)(hr:ϫ k gY)
 (F:∀base:Ñ,K.In base->base.Ns Ĥ mg->b_ P w K mg base CX k fa fd [x] sp)(QI:∀(s:Ã) (u:Á),fO s fd ⟨[u],[]⟩ [(x,u)])
 (Ez:∀H:Hp,MP H->Ϫ K H a (ns.map V.int)->sp [.ref a] H (λv _=>v=.bl true) λ_ _ _=>False)
 (Op:∀H e s',CX [] H s₁ (λ_ _ _=>False) e s'->False)
 (QJ:fb≠[]->xA K=true)(En:∀y z,y∈fb->z∈fb->y=z)(He:∀y c Pt,y∈fb->cJ K y=some (c,Pt)->xv s₁.heap c Pt/\s₁.heap.get? Pt=some (PySem.W.tabObj #[])/\s₁.heap.BuiltinsAt mg Pt):
 fN (Ö P w) gY (.call (.ref fa) ⟨[.ref a],[]⟩) (λr s'=>r=.ok (.ret<|.bool true)/\OldK s₁.heap s'.heap/\s'.os=s₁.os/\fJ s'.gens) s₁:=by
 have rv:=cP hi;have WW:=hi.length;have QK:∀H:Hp,MP H->Ϫ K H a (ns.map V.int)->kC P w H s₁.heap->(∀b,H b≠none->b=a\/∃y c,y∈fb/\cJ K y=some (c,b))->(H a≠none->K.lookup a=none)->(∀y c Pt,y∈fb->cJ K y=some (c,Pt)->H Pt=some (.am<|xC y))->
  fN (Ö P w) gY (.call (.ref fa) ⟨[.ref a],[]⟩) (λr s'=>r=.ok (.ret<|.bool true)/\OldK s₁.heap s'.heap/\s'.os=s₁.os/\fJ s'.gens) s₁:=by
  intro H hO hS hok hA hK hT;have sX:∀{b:À}{o:Obj},s₁.heap.get? b=some o->H b=none->(uS s₁.heap H).get? b=some o:=λe n=>ED e n;have Oh:∀{b:À}{o:Obj}{es:Array gZ}{ep:Nat},s₁.heap.get? b=some o->o.data=.dict es ep->H b=none:=fun{b o es ep} e d=>by
   cases q:H b with
   |none=>rfl|some u=>
    rcases hA b (by rw[q];simp)with e'|⟨y,c,hy,lm⟩
    ·subst e';rw[ha]at e;cases e;have d':Data.seq vs.toArray _=Data.dict es ep:=d;cases d'
    ·have e2:=(He y c b hy lm).2.1;rw[e]at e2;cases e2;cases d
  have Rg:∀{b:À}{m:Str->Option Á},s₁.heap.Ns b m->(uS s₁.heap H).Ns b m:=fun{b m} ⟨o,es,ep,e,d,r⟩=>⟨o,es,ep,sX e<|Oh e d,d,r⟩;have XA:K.In (uS s₁.heap H):=λb o e=>sX (KX b o e) (by
   cases q:H b with
   |none=>rfl|some u=>
    rcases hA b (by rw[q];simp)with e'|⟨y,c,hy,lm⟩
    ·subst e';rw[hK (by rw[q];simp)]at e;cases e
    ·have e2:=(He y c b hy lm).2.1;rw[KX b o e]at e2;cases e2;have h2:=cy.mp (QJ (λz=>by rw[z]at hy;cases hy)) (b,_)<|PySem.W.mem_of_lookupK e;exact absurd (show false=true from h2) aG)
  have hM:Mod K mg (uS s₁.heap H):=⟨XA,Rg Am,⟨mb,Rg hb,hbb⟩,let ⟨mc,h1,h2⟩:=WV;⟨mc,Rg h1,h2⟩⟩;have hTB:yQ K mg (uS s₁.heap H) H:=λy c Pt hy lm=>by
   obtain⟨⟨o,us,file,tf,J6,tg,inF,text,tt,e1,r1,r2⟩,_,bm,ob,b1,b2,b3,b4,b5,b6,b7⟩:=He y c Pt hy lm;refine⟨⟨o,us,file,tf,J6,tg,inF,text,tt,sX e1 ?_,r1,r2⟩,hT y c Pt hy lm,bm,ob,b1,b2,b3,b4,sX b5 ?_,b6,b7⟩
   rotate_left
   ·cases q:H bm with
    |none=>rfl|some u=>
     rcases hA bm (by rw[q];simp)with e'|⟨z,c2,hz,Tu⟩
     ·rw[e',ha]at b5;cases b5;exact absurd (B3 b6) (by decide)
     ·have e2:=(He z c2 bm hz Tu).2.1;rw[b5]at e2;cases e2;cases b6
   cases q:H c with
   |none=>rfl|some u=>
    rcases hA c (by rw[q];simp)with e'|⟨z,c2,hz,Tu⟩
    ·rw[e',ha]at e1;cases e1;exact absurd (B3 r1) (by decide)
    ·have e2:=(He z c2 c hz Tu).2.1;rw[e1]at e2;cases e2;cases r1
  have e0:zg P w K mg (uS s₁.heap H) gY [] s₁ H:=⟨rfl,hM,λb o e=>Hl e,se<|Dl _ _,trivial,λb hb=>absurd (show b∈([]:List À)from hb) (by simp),hok,.of_eq hg,hTB⟩;refine lN ((F _ XA<|Rg Am).run gY [] s₁ H ⟨[.ref a],[]⟩ [.ref a] [.ref a] _ _ hr e0 (QI s₁<|.ref a) (.cons rfl .nil) (Ez H hO hS)) λr s' h=>?_;cases r with
  |error e=>exact(Op H e s' h).elim|ok fl=>
   cases fl with
   |next=>exact aI h|brk=>exact aI h|cont=>exact aI h|ret u=>
    obtain⟨v,H',os,bare,un,MQ,r',q⟩:=h;have q':v=.bl true:=q;subst q';obtain rfl:u=fR true:=r';have rm:∀b o,s₁.heap.get? b=some o->(∀t,H b≠some (.am t))->s'.heap.get? b=some o:=?_
    ·refine⟨rfl,⟨λb o e=>?_,λb o e=>?_⟩,os,bare⟩
     ·by_cases ht:∃t,H b=some (.am t)
      ·obtain⟨t,ht⟩:=ht;obtain⟨ps,e1,_⟩:=MQ b _<|un.qZ b t ht;rcases hA b (by rw[ht];simp)with e'|⟨y,c,hy,lm⟩
       ·subst e';obtain⟨ps2,e3,_⟩:=hok b _ ht;rw[ha]at e3;cases e3
       ·obtain⟨⟨o2,us,file,tf,J6,tg,inF,text,tt,f1,f2,f3,f4,_⟩,e2,_⟩:=He y c b hy lm;rw[e]at e2;cases e2;exact .inr (.inl ⟨⟨c,o2,us,f1,f2,f3,f4⟩,rfl,#[],ps,rfl,by rw[e1];simp⟩)
      ·exact .inl<|rm b o e λt z=>ht ⟨t,z⟩
     ·by_cases ht:∃t,H b=some (.am t)
      ·obtain⟨t,ht⟩:=ht;obtain⟨ps,e1,_⟩:=MQ b _<|un.qZ b t ht;exact⟨_,e1⟩
      ·exact⟨o,rm b o e λt z=>ht ⟨t,z⟩⟩
    intro b o e nt;cases q:H b with
    |none=>exact un.keep b o e q (by intro z;exact absurd (show b∈([]:List À)from z)<|by simp) (by simp)|some u=>
     rcases hO b with z|⟨ob,xs,z⟩|⟨t,z⟩
     ·rw[q]at z;cases z
     rotate_left
     ·exact absurd z<|nt t
     ·have z2:=un.uR b ob _ z;obtain⟨e1,_⟩:=hok b _ z;obtain⟨e2,_⟩:=MQ b _ z2;rw[e]at e1;cases e1;exact e2
 cases hk:K.lookup a with
 |some o=>
  have e:=KX a o hk;rw[ha]at e;cases e;refine QK (kD K fb) (λb=>?_) (.inr ⟨_,vs.toArray,_,hk,rfl,rfl,rfl,by rw[Ĩ,WW];exact hl,by simpa using rv⟩) (λb u z=>?_) (λb z=>?_) (λz=>?_) λy c Pt hy lm=>Cg lm (λz hz=>En z y hz hy) hy
  ·cases q:kD K fb b with
   |none=>exact .inl rfl|some u=>obtain⟨y,c,_,_,rfl⟩:=ib q;exact .inr<|.inr ⟨_,rfl⟩
  ·obtain⟨y,c,hy,lm,rfl⟩:=ib z;exact⟨#[],(He y c b hy lm).2.1,trivial,λpos cv z=>by cases z⟩
  ·cases q:kD K fb b with
   |none=>exact absurd q z|some u=>obtain⟨y,c,hy,lm,_⟩:=ib q;exact .inr ⟨y,c,hy,lm⟩
  ·cases q:kD K fb a with
   |none=>exact absurd q z|some u=>obtain⟨y,c,hy,lm,_⟩:=ib q;have e2:=(He y c a hy lm).2.1;rw[ha]at e2;cases e2
 |none=>
  refine QK (λb=>if b=a then some (.gj {cls:=.type "list",data:=.seq vs.toArray} (.lst<|ns.map V.int))else kD K fb b) (λb=>?_) (.inl<|.inr ⟨{cls:=.type "list",data:=.seq vs.toArray},if_pos rfl⟩) (λb u z=>?_) (λb z=>?_) (λ_=>hk) λy c Pt hy lm=>?_
  ·by_cases hb:b=a
   ·exact .inr<|.inl ⟨_,_,if_pos hb⟩
   ·cases q:kD K fb b with
    |none=>exact .inl<|(if_neg hb).trans q|some u=>obtain⟨y,c,_,_,rfl⟩:=ib q;exact .inr<|.inr ⟨_,(if_neg hb).trans q⟩
  ·by_cases hb:b=a
   ·have z':=(if_pos hb).symm.trans z;cases z';subst hb;exact⟨ha,by rw[Ę];exact hl,vs,_,rv,ha⟩
   ·have z':=(if_neg hb).symm.trans z;obtain⟨y,c,hy,lm,rfl⟩:=ib z';exact⟨#[],(He y c b hy lm).2.1,trivial,λpos cv z=>by cases z⟩
  ·by_cases hb:b=a
   ·exact .inl hb
   ·cases q:kD K fb b with
    |none=>exact absurd ((if_neg hb).trans q) z|some u=>obtain⟨y,c,hy,lm,_⟩:=ib q;exact .inr ⟨y,c,hy,lm⟩
  ·have ne:Pt≠a:=fun z=>by
    subst z;have e2:=(He y c _ hy lm).2.1;rw[ha]at e2;cases e2
   exact(if_neg ne).trans (Cg lm (λz hz=>En z y hz hy) hy)
def HF{p:ä}{nr:List Str}{WX:ExcName->Option Á}{mg mb:Str->Option Á}{h:Ñ}{K:Î}{d:DefRec}{x:Str}{c P:À}(T:Top p nr WX mg mb h)(X:K.In h)(hr:(recsOf p).find? (λe=>e.name==x)=some d)(ht:cJ K x=some (c,P)):
 xv h c P/\h.get? P=some (PySem.W.tabObj #[])/\h.BuiltinsAt mg P:=by
 obtain⟨h1,h2⟩:=PySem.W.tab_of T X hr ht;obtain⟨bm,ob,b1,b2,b3,b4,b5,b6⟩:=T.bmain;have hbP:bm≠P:=λq=>by rw[q,h2]at b3;cases b3;cases b4
 have hbG:bm≠Ĥ:=λq=>by obtain⟨o,es,ep,e,hd,_⟩:=T.g;rw[q,e]at b3;cases b3;rw[hd]at b6;cases b6
 exact⟨h1,h2,bm,ob,b1,b2,hbG,hbP,b3,b4,b5,b6⟩
def HG{l:l_}{n k:Nat}{q:ä}{nr:List Str}{XP:(Str->Option Á)->Ñ->Prop}{YP:Þ->Ñ->Prop}{d:DefRec}{K:gX->Î}{CX:Þ->ia}{sp:Þ->Sp}{x:Str}
 (hn:l.most=some n)(NH:n<=sizeLine)(MN:d.params.defaults=[])(hr:ϫ k gY)
 (hY:∀(w:Þ) (h:Ñ),YP w h->(K w.params).In h)
 (F:∀(w:Þ) (mg:Str→Option Á) (fa:À) (h:Ñ),(K w.params).In h→h.Ns Ĥ mg→mg d.name=some (.ref fa)→
   ∃fd:ċ,(∀(s:Ã) (u:Á),fO s fd ⟨[u],[]⟩ [(x,u)])/\
    ∀base:Ñ,(K w.params).In base->base.Ns Ĥ mg->b_ l.prog w (K w.params) mg base (CX w) k fa fd [x] (sp w))
 (Ez:∀(w:Þ) (H:Hp) (a:À) (ns:List Int),ns.length<=n->MP H->Ϫ (K w.params) H a (ns.map V.int)->sp w [.ref a] H (λv _=>v=.bl true) λ_ _ _=>False)
 (Op:∀(w:Þ) (H:Hp) (s:Ã) (e:Á) (s':Ã),CX w [] H s (λ_ _ _=>False) e s'->False)
 (QJ:fb≠[]->∀w:Þ,xA (K w.params)=true:=by intro z;exact absurd rfl z)(En:∀y z,y∈fb->z∈fb->y=z:=by simp[fb])(MS:∀y,y∈fb->∃d,(recsOf q).find? (λe=>e.name==y)=some d:=by simp[fb]):
 sS q nr XP YP l.row.toRowW d [] (λf vs=>sx f vs):=by
 refine Rf.zk hn MN λw s₀ s₁ mg mb fa o pm cd doc a vs ns G Y ho hd Ek QH MO GS hlen hg=>?_;have KX:=hY w _ Y;obtain⟨fd,hb,hF⟩:=F w mg fa _ KX G.T.g QH;exact E4 KX G.T.g G.T.b G.T.builtins G.T.nolimit hg MO GS (ř hlen NH) hr hF hb (λH hO hS=>Ez w H a ns hlen hO hS) (λH e s'=>Op w H s₁ e s') (λz=>QJ z w) En λy c Pt hy lm=>let ⟨_,hr'⟩:=MS y hy;HF G.T KX hr' lm
noncomputable def ak(s:í)(j:Nat):í:=match s with
 |.ClassDef _ _ _ body _ _ _ _ _ _ _=>body.getD j<|.Pass ⟨0,0,0,0⟩|_=>.Pass ⟨0,0,0,0⟩
noncomputable def bG(s:í):gW:=match s with
 |.FunctionDef _ a _ _ _ _ _ _ _ _=>a|_=>{posonlyargs:=[],args:=[],vararg:=none,kwonlyargs:=[],kw_defaults:=[],kwarg:=none,defaults:=[]}
noncomputable def ύ(s:í):List í:=match s with
 |.FunctionDef _ _ b _ _ _ _ _ _ _=>b|_=>[]
noncomputable def ÿ(s:í):û:=match s with
 |.FunctionDef _ _ _ _ _ _ sc _ _ _=>sc|_=>{kind:=.function,names:=[],isGenerator:=false,isCoroutine:=false}
abbrev DM:ia:=λ_ _ _ _ _ _=>False
structure G1(K:Î)(x Ő:Str)(st:í)(f:À)(fd:ċ):Prop where
 ex:∃(oc:Á) (od:Option À) (kV doc pm:Á) (an:Option À) (cdv ct:Á) (Hd:Array (Option Á)),
   fd=aO x Ő (bG st) (ύ st) (ÿ st) .none kV doc pm an cdv ct/\K.lookup f=some ⟨oc,od,.func fd,Hd⟩/\lZ K cdv Ő=true
 kp:bE K (.ref f)=true
section
variable{K:Î}
def G1.binds{x Ő:Str}{st:í}{f:À}{fd:ċ}{ps:List Str}(F:G1 K x Ő st f fd)
 (h:∀(kV doc pm:Á) (an:Option À) (cdv ct:Á) (us:List Á),us.length=ps.length->oB (aO x Ő (bG st) (ύ st) (ÿ st) .none kV doc pm an cdv ct) ⟨us,[]⟩=ì (ps.zip us)):Binds K fd ps []:=by
 obtain⟨oc,od,kV,doc,pm,an,cdv,ct,Hd,rfl,lk,Ek⟩:=F.ex;exact .all<|h kV doc pm an cdv ct
def E5{x Ő:Str}{st:í}{f:À}{oc:Á}{od an:Option À}{Hd:Array (Option Á)}{kV doc pm cdv ct:Á}(l:K.lookup f=some ⟨oc,od,.func<|aO x Ő (bG st) (ύ st) (ÿ st) .none kV doc pm an cdv ct,Hd⟩)
 (c:lZ K cdv Ő=true)(k:bE K (.ref f)=true):G1 K x Ő st f (aO x Ő (bG st) (ύ st) (ÿ st) .none kV doc pm an cdv ct):=⟨⟨oc,od,kV,doc,pm,an,cdv,ct,Hd,rfl,l,c⟩,k⟩
end
section
variable{X:Cx}
def pv(i:Nat){x:Str}{pos:Pos}(hk:Dp X i x=true:=by kernel_rfl):PE X (.Name x pos) (dQ i):=mV hk
end
def Ù(H H':Hp):Prop:=∀b o,H b=some o->H' b=some o
def Ù.refl(H:Hp):Ù H H:=λ_ _ h=>h
def Č{H:Hp}:Ù H H:=Ù.refl H
def Ù.trans{H H1 H2:Hp}(a:Ù H H1)(b:Ù H1 H2):Ù H H2:=λc o h=>b c o<|a c o h
def Ù.free{H H':Hp}(e:Ù H H'){l:À}(h:H' l=Option.none):H l=Option.none:=by
 cases q:H l with
 |none=>rfl|some o=>rw[e l o q]at h;cases h
def Ù.seq{K:Î}{H H':Hp}{a:À}{xs:List V}(e:Ù H H')(h:Ϫ K H a xs):Ϫ K H' a xs:=by
 rcases h with(h|⟨o,h⟩)|h
 ·exact .inl<|.inl<|e _ _ h
 ·exact .inl<|.inr ⟨o,e _ _ h⟩
 ·exact .inr h
end L2
namespace M2
open PySem PySem.Spec PyProof.Rows L2
section
variable{X:Cx}{a b c e:È}{ta tb tc te:TE}{pos:Pos}
def PE.wk{t t':TE}(h:PE X e t)(i:∀d H Q,t' d H Q->t d H Q):PE X e t':=λÆ s d H Q I q=>h Æ s d H Q I<|i d H Q q
def PS.wk{st:í}{t t':TS}(h:PS X st t)(i:∀D d H,t' D d H->t D d H):PS X st t':=λÆ s d H D I q=>h Æ s d H D I<|i D d H q
def ae.wk{f:Á->Á->Sem Á}{r r':R2}(h:ae X f r)(i:∀x y H Q,r' x y H Q->r x y H Q):ae X f r':=λÆ s d H x y v u Q I rx ry q=>h Æ s d H x y v u Q I rx ry<|i x y H Q q
def G0.wk{f:Á->Sem Á}{r r':V->Hp->VK->Prop}(h:G0 X f r)(i:∀x H Q,r' x H Q->r x H Q):G0 X f r':=λÆ s d H x v Q I rx q=>h Æ s d H x v Q I rx<|i x H Q q
def Ŗ.wk{f:Á}{r r':List V->Hp->VK->Prop}(h:Ŗ X f r)(i:∀xs H Q,r' xs H Q->r xs H Q):Ŗ X f r':=λÆ s d H xs us Q I r q=>h Æ s d H xs us Q I r<|i xs H Q q
def Aq.wk{r r':R2}(h:Aq X r)(i:∀x y H Q,r' x y H Q->r x y H Q):Aq X r':=λva sl Æ s d H x y v u Q I rx ry q=>h va sl Æ s d H x y v u Q I rx ry<|i x y H Q q
def Cd.wk{r r':V->Option Int->Option Int->Hp->VK->Prop}(h:Cd X r)(i:∀x lo hi H Q,r' x lo hi H Q->r x lo hi H Q):Cd X r':=λÆ s d H x v vl vu lo hi sl Q I rx hs pl pu q=>h Æ s d H x v vl vu lo hi sl Q I rx hs pl pu<|i x lo hi H Q q
def K2(i:Nat):TE:=λd H Q=>match d[i]?with
 |some (some v)=>Q v H|_=>False
def HH{i:Nat}{d:Ċ}{H:Hp}{Q:VK}(h:K2 i d H Q):dQ i d H Q:=by
 unfold K2 at h;split at h
 ·exact⟨_,by assumption,h⟩
 ·exact h.elim
def mv(i:Nat){x:Str}{pos:Pos}(hk:Dp X i x=true:=by kernel_rfl):PE X (.Name x pos) (K2 i):=PE.wk (mV hk) λ_ _ _ h=>HH h
def Nd(x:V)(k:Bool->Prop):Prop:=match x with
 |.bl c=>k c|_=>False
def ny{x:V}{k:Bool->Prop}(h:Nd x k):∃c,x=.bl c/\k c:=by
 cases x with
 |bl c=>exact⟨c,rfl,h⟩|_=>exact h.elim
def E6(t:TE):TT:=λd H Q=>t d H λx H1=>Nd x λc=>Q c H1
def K3{op:fL}{r:R2}(ho:ae X (ĭ op) r)(ha:PE X a ta)(hb:PE X b tb)(hm:lI op b=false):PT X (.Compare a [op] [b] pos) (E6<|Ju r ta tb):=by
 intro Æ s d H Q I h;refine wpAny_isTrue_Compare1 (ώ (ha Æ s d H _ I h) λv s1 ⟨x,H1,I1,r1,q1⟩=>ώ (hb Æ s1 d H1 _ I1 q1) λu s2 ⟨y,H2,I2,r2,q2⟩=>
  ώ (ho Æ s2 d H2 x y v u _ I2 r1 r2 q2) λc s3 ⟨z,H3,I3,r3,q3⟩=>?_) hm
 obtain⟨k,e,q3⟩:=ny q3;subst e;cases r3;exact fM ⟨H3,I3,q3⟩
def AR(r r':R2)(ta tb tc:TE):TE:=λd H Q=>ta d H λx H1=>tb d H1 λy H2=>r x y H2 λz H3=>Nd z λk=>
 (if k=true then tc d H3 λw' H4=>r' y w' H4 Q else Q (.bl false) H3)
def E7{op Bs:fL}{r r':R2}(ho:ae X (ĭ op) r)(Bq:ae X (ĭ Bs) r')(ha:PE X a ta)(hb:PE X b tb)(hc:PE X c tc)
 (hm:lastMarks [op,Bs] [b,c]=false:=by with_unfolding_all rfl):PE X (.Compare a [op,Bs] [b,c] pos) (AR r r' ta tb tc):=by
 intro Æ s f H Q I h;refine Compare_chain (ώ (ha Æ s f H _ I h) λv s1 ⟨x,H1,I1,r1,q1⟩=>chain_link (ώ (hb Æ s1 f H1 _ I1 q1) λu s2 ⟨y,H2,I2,r2,q2⟩=>
  ώ (ho Æ s2 f H2 x y v u _ I2 r1 r2 q2) λd s3 ⟨z,H3,I3,r3,q3⟩=>?_)) hm
 obtain⟨k,e,q3⟩:=ny q3;subst e;cases r3;refine fM ?_;cases k with
 |false=>exact ite_ff ⟨.bl false,H3,I3,rfl,q3⟩|true=>exact ite_tt<|chain_last<|ώ (hc Æ s3 f H3 _ I3 q3) λw' s4 ⟨z',H4,I4,r4,q4⟩=>Bq Æ s4 f H4 y z' u w' Q I4 r2 r4 q4
def E8{op Bs:fL}{r r':R2}(ho:ae X (ĭ op) r)(Bq:ae X (ĭ Bs) r')(ha:PE X a ta)(hb:PE X b tb)(hc:PE X c tc)
 (hm:lastMarks [op,Bs] [b,c]=false:=by with_unfolding_all rfl):PT X (.Compare a [op,Bs] [b,c] pos) (E6<|AR r r' ta tb tc):=by
 intro Æ s f H Q I h;refine isTrue_chain (ώ (ha Æ s f H _ I h) λv s1 ⟨x,H1,I1,r1,q1⟩=>test_link (ώ (hb Æ s1 f H1 _ I1 q1) λu s2 ⟨y,H2,I2,r2,q2⟩=>
  ώ (ho Æ s2 f H2 x y v u _ I2 r1 r2 q2) λd s3 ⟨z,H3,I3,r3,q3⟩=>?_)) hm
 obtain⟨k,e,q3⟩:=ny q3;subst e;cases r3;refine fM ?_;cases k with
 |false=>exact ite_ff ⟨H3,I3,q3⟩|true=>refine ite_tt<|test_last<|ώ (hc Æ s3 f H3 _ I3 q3) λw' s4 ⟨z',H4,I4,r4,q4⟩=>ώ (Bq Æ s4 f H4 y z' u w' _ I4 r2 r4 q4) λd' s5 zz=>?_;obtain⟨z2,H5,I5,r5,q5⟩:=zz;obtain⟨k2,e2,q5⟩:=ny q5;subst e2;cases r5;exact fM ⟨H5,I5,q5⟩
def Oq(ta tb:TE):TE:=λd H Q=>ta d H λx H1=>Nd x λc=>if c=true then tb d H1 Q else Q (.bl false) H1
def Tw(ta tb:TE):TE:=λd H Q=>ta d H λx H1=>Nd x λc=>if c=true then Q (.bl true) H1 else tb d H1 Q
def Ot(ta:TE):TE:=λd H Q=>ta d H λx H1=>Nd x λc=>Q (.bl<|!c) H1
variable{rest:List È}
def K4(ha:PE X a ta)(hb:PE X (.BoolOp .And (b::rest) pos) tb):PE X (.BoolOp .And (a::b::rest) pos) (Oq ta tb):=by
 intro Æ s d H Q I h;refine BoolOp_and<|ώ (ha Æ s d H _ I h) λv s1 zz=>?_;obtain⟨x,H1,I1,r1,q1⟩:=zz;obtain⟨c,rfl,q1⟩:=ny q1;cases r1;refine fM ?_;cases c with
 |true=>exact hb Æ s1 d H1 Q I1 q1|false=>exact⟨.bl false,H1,I1,rfl,q1⟩
def Ou(ha:PE X a ta)(hb:PE X (.BoolOp .Or (b::rest) pos) tb):PE X (.BoolOp .Or (a::b::rest) pos) (Tw ta tb):=by
 intro Æ s d H Q I h;refine BoolOp_or<|ώ (ha Æ s d H _ I h) λv s1 zz=>?_;obtain⟨x,H1,I1,r1,q1⟩:=zz;obtain⟨c,rfl,q1⟩:=ny q1;cases r1;refine fM ?_;cases c with
 |false=>exact hb Æ s1 d H1 Q I1 q1|true=>exact⟨.bl true,H1,I1,rfl,q1⟩
def K5(ha:PE X a ta):PE X (.UnaryOp .Not a pos) (Ot ta):=by intro Æ s d H Q I h;refine UnaryOp_<|ώ (ha Æ s d H _ I h) λv s1 zz=>?_;obtain⟨x,H1,I1,r1,q1⟩:=zz;obtain⟨c,rfl,q1⟩:=ny q1;cases r1;exact not_of<|fM ⟨.bl<|!c,H1,I1,rfl,q1⟩
def mI(C:Int->Int->Prop)(g:Int->Int->V):R2:=λx y H Q=>match x,y with
 |.int i,.int j=>C i j/\Q (g i j) H|_,_=>False
def zl(g:Int->Int->V):R2:=λx y H Q=>match x,y with
 |.int i,.int j=>Q (g i j) H|_,_=>False
def vv{C:Int->Int->Prop}{g:Int->Int->V}(x y:V)(H:Hp)(Q:VK)(h:mI C g x y H Q):rI C g x y H Q:=by
 cases x with
 |int i=>
  cases y with
  |int j=>exact⟨i,j,rfl,rfl,h.1,h.2⟩|_=>exact h.elim
 |_=>exact h.elim
def nA{g:Int->Int->V}(x y:V)(H:Hp)(Q:VK)(h:zl g x y H Q):EO g x y H Q:=by
 cases x with
 |int i=>
  cases y with
  |int j=>exact⟨i,j,rfl,rfl,h⟩|_=>exact h.elim
 |_=>exact h.elim
def Ov:R2:=λx y H Q=>match x,y with
 |.int i,.int j=>Q (.int<|i+j) H|.str i,.str j=>i.length+j.length<=sizeLine/\Q (.str<|i++j) H|_,_=>False
def K6:ae X (Į .Add) Ov:=ae.wk (KG.or AI) λx y H Q h=>by
 cases x with
 |int i=>
  cases y with
  |int j=>exact .inl ⟨i,j,rfl,rfl,h⟩|_=>exact h.elim
 |str i=>
  cases y with
  |str j=>exact .inr ⟨i,j,rfl,rfl,h.1,h.2⟩|_=>exact h.elim
 |_=>exact h.elim
def K7:ae X (Į .Sub) (zl λi j=>.int<|i-j):=ae.wk KH nA
def vw(i j:Int):Prop:=KE i j\/(sE i<=1048576/\sE j<=1048576)
theorem vw.ok{i j:Int}(h:vw i j):IntMulOk i j:=by
 rcases h with h|⟨h1,h2⟩
 ·exact h.ok
 ·exact IntMulOk.of_le h1 h2 (by decide)
def K8:ae X (Į .Mult) (mI vw λi j=>.int<|i*j):=ae.wk (Cc (C:=vw) (g:=λi j=>i*j) λ_ _ _ _ _ _ _ hc q=>mul_int q hc.ok) vv
def DN(_ j:Int):Prop:=j≠0/\sE j<=8000
def DN.py{i j:Int}(h:DN i j):Builtin.divisionGoesByPylong i j=false:=by
 refine PyProof.noPylong_of_log2 ?_;have hb:=intBits_le_iff.mp h.2;have h0:j.natAbs≠0:=by have:=h.1;lia
 exact Ť ((Nat.log2_lt h0).mpr hb) (by decide)
def HI:ae X (Į .FloorDiv) (mI DN λi j=>.int<|i.fdiv j):=ae.wk (Cc (C:=DN) (g:=λi j=>i.fdiv j) λ_ _ _ _ _ _ _ hc q=>floordiv_int hc.1 q<|.inl hc.py) vv
def K9:ae X (Į .Mod) (mI (λ_ j=>j≠0) λi j=>.int<|i.fmod j):=ae.wk Hs vv
def xP:ae X (Į .Pow) (mI Du λi j=>.int<|i^j.toNat):=ae.wk KI vv
def iQ:ae X (ĭ .Lt) (zl λi j=>.bl<|decide<|i<j):=ae.wk Od nA
def bT:ae X (ĭ .LtE) (zl λi j=>.bl<|decide<|i<=j):=ae.wk Oe nA
def Cj:ae X (ĭ .Gt) (zl λi j=>.bl<|decide<|j<i):=ae.wk Of nA
def Ow:ae X (ĭ .GtE) (zl λi j=>.bl<|decide<|j<=i):=ae.wk Og nA
def mU(g:Int->V):V->Hp->VK->Prop:=λx H Q=>match x with
 |.int i=>Q (g i) H|_=>False
def kE:G0 X (unaryOp .USub) (mU λi=>.int<|-i):=G0.wk ER λx H Q h=>by
 cases x with
 |int i=>exact⟨i,rfl,h⟩|_=>exact h.elim
def MT:List V->Hp->VK->Prop:=λxs H Q=>match xs with
 |[.int i]=>Q (.int<|if i<0then -i else i) H|_=>False
def xQ:Ŗ X (.builtin "abs") MT:=Ŗ.wk ET λxs H Q h=>by
 unfold MT at h;split at h
 ·exact⟨_,rfl,h⟩
 ·exact h.elim
def E9:List V->Hp->VK->Prop:=λxs H Q=>match xs with
 |[.int i,.int j]=>Q (.int<|if j<i then j else i) H|_=>False
def HJ(hc:X.calm=true):Ŗ X (.builtin "min") E9:=Ŗ.wk (DA hc) λxs H Q h=>by
 unfold E9 at h;split at h
 ·exact⟨_,_,rfl,h⟩
 ·exact h.elim
def Fa:List V->Hp->VK->Prop:=λxs H Q=>match xs with
 |[.int i,.int j]=>Q (.int<|if j>i then j else i) H|_=>False
def HK(hc:X.calm=true):Ŗ X (.builtin "max") Fa:=Ŗ.wk (Dx hc) λxs H Q h=>by
 unfold Fa at h;split at h
 ·exact⟨_,_,rfl,h⟩
 ·exact h.elim
def La(K:Î):List V->Hp->VK->Prop:=λxs H Q=>match xs with
 |[.str y]=>y.length<=sizeLine/\Q (.int (y.length:Int)) H|[.ref p]=>∃ys,(Ϫ K H p ys\/gk K H p ys)/\Q (.int (ys.length:Int)) H|_=>False
def ŉ:Ŗ X (.builtin "len") (La X.K):=Ŗ.wk EU λxs H Q h=>by
 unfold La at h;split at h
 ·exact⟨_,_,rfl,⟨h.1,rfl⟩,h.2⟩
 ·obtain⟨ys,h1,h2⟩:=h;refine⟨_,ys.length,rfl,?_,h2⟩;rcases h1 with h1|h1
  ·exact .inl ⟨ys,h1,rfl⟩
  ·exact .inr ⟨ys,h1,rfl⟩
 ·exact h.elim
def XB(K:Î):R2:=λx y H Q=>match x,y with
 |.ref p,.int i=>∃xs v,(Ϫ K H p xs\/gk K H p xs)/\nY xs i=some v/\Q v H|.str z,.int i=>∃c,z.length<=sizeLine/\nY z.cps.toList i=some c/\Q (.str ⟨#[c]⟩) H|_,_=>False
def Ox:Aq X (XB X.K):=Aq.wk AO λx y H Q h=>by
 cases x with
 |ref p=>
  cases y with
  |int i=>
   obtain⟨xs,v,h1,h2,h3⟩:=h;rcases h1 with h1|h1
   ·exact .inl ⟨p,xs,i,v,rfl,rfl,h1,h2,h3⟩
   ·exact .inr<|.inl ⟨p,xs,i,v,rfl,rfl,h1,h2,h3⟩
  |_=>exact h.elim
 |str z=>
  cases y with
  |int i=>obtain⟨c,h1,h2,h3⟩:=h;exact .inr<|.inr ⟨z,i,c,rfl,rfl,h1,h2,h3⟩|_=>exact h.elim
 |_=>exact h.elim
def iOf(x:V)(k:Int->Prop):Prop:=match x with
 |.int i=>k i|_=>False
def Oy(t:TE):TO:=λd H Q=>t d H λx H1=>iOf x λi=>Q (some i) H1
def Fb(h:PE X e te):PO X (some e) (Oy te):=by
 intro Æ s d H Q I hw;rw[evalPart_some];refine ώ (h Æ s d H _ I hw) λu s1 zz=>?_;obtain⟨x,H1,I1,r1,q1⟩:=zz;cases x with
 |int i=>obtain⟨t,rfl⟩:=r1;exact⟨some i,H1,I1,.int i t,q1⟩|_=>exact q1.elim
def Tx(K:Î):V->Option Int->Option Int->Hp->VK->Prop:=λx lo hi H Q=>match x with
 |.ref a=>∃xs,Ϫ K H a xs/\∀p,H p=none->Q (.ref p) (upd H p<|.lst<|zh xs lo hi)|_=>False
def Fc:Cd X (Tx X.K):=Cd.wk HD λx lo hi H Q h=>by
 cases x with
 |ref a=>obtain⟨xs,h1,h2⟩:=h;exact⟨a,xs,rfl,h1,h2⟩|_=>exact h.elim
end
mutual
def Rp(K:Î)(H:Hp):aM->V->Prop
 |.none,v=>v=.non|.bool b,v=>v=.bl b|.int i,v=>v=.int i|.str x,v=>v=.str x|.tuple ds,v=>∃a xs,v=.ref a/\gk K H a xs/\oT K H ds xs|.list ds,v=>∃a xs,v=.ref a/\Ϫ K H a xs/\oT K H ds xs|.dict _,_=>False
def oT(K:Î)(H:Hp):List aM->List V->Prop
 |[],xs=>xs=[]|d::ds,xs=>∃x r,xs=x::r/\Rp K H d x/\oT K H ds r
end
def Ù.tup{K:Î}{H H':Hp}{a:À}{xs:List V}(e:Ù H H')(h:gk K H a xs):gk K H' a xs:=by
 rcases h with(h|⟨o,h⟩)|h
 ·exact .inl<|.inl<|e _ _ h
 ·exact .inl<|.inr ⟨o,e _ _ h⟩
 ·exact .inr h
theorem Ù.upd{H:Hp}{p:À}{o:HO}(h:H p=none):Ù H (upd H p o):=λb u e=>by rw[î<|Ň e h];exact e
mutual
theorem Rp.same{K:Î}{H H':Hp}(e:Ù H H'):∀(d:aM) (v:V),Rp K H d v->Rp K H' d v
 |.none,_,h=>by unfold Rp at h⊢;exact h|.bool _,_,h=>by unfold Rp at h⊢;exact h|.int _,_,h=>by unfold Rp at h⊢;exact h|.str _,_,h=>by unfold Rp at h⊢;exact h|.tuple ds,_,h=>by unfold Rp at h⊢;obtain⟨a,xs,h1,h2,h3⟩:=h;exact⟨a,xs,h1,Ù.tup e h2,oT.same e ds xs h3⟩|.list ds,_,h=>by unfold Rp at h⊢;obtain⟨a,xs,h1,h2,h3⟩:=h;exact⟨a,xs,h1,e.seq h2,oT.same e ds xs h3⟩|.dict _,_,h=>by unfold Rp at h;exact h.elim
theorem oT.same{K:Î}{H H':Hp}(e:Ù H H'):∀(ds:List aM) (xs:List V),oT K H ds xs->oT K H' ds xs
 |[],_,h=>by unfold oT at h⊢;exact h|d::ds,_,h=>by unfold oT at h⊢;obtain⟨x,r,h1,h2,h3⟩:=h;exact⟨x,r,h1,Rp.same e d x h2,oT.same e ds r h3⟩
end
section
variable{X:Cx}{Æ:List (À×Obj)}{σ:Ċ}{H:Hp}{s:Ã}
mutual
theorem Rp.reads(I:Inv X Æ σ H s):∀(d:aM) (v:V) (u:Á),Rp X.K H d v->RelV v u->∃as,Reads s.heap u d as
 |.none,v,u,h,r=>by unfold Rp at h;subst h;cases r;exact⟨_,.none⟩|.bool b,v,u,h,r=>by unfold Rp at h;subst h;cases r;exact⟨_,.bool b⟩|.int i,v,u,h,r=>by unfold Rp at h;subst h;obtain⟨t,rfl⟩:=r;exact⟨_,.int i t⟩|.str x,v,u,h,r=>by unfold Rp at h;subst h;obtain⟨t,rfl⟩:=r;exact⟨_,.str x t⟩|.tuple ds,v,u,h,r=>by unfold Rp at h;obtain⟨a,xs,h1,h2,h3⟩:=h;subst h1;cases r;obtain⟨č,rv,⟨o,e,hc,n,hd⟩,hz⟩:=I.tuple h2;obtain⟨as,ra⟩:=oT.reads I ds xs č h3 rv;exact⟨_,.tuple e hc hd<|by simpa using ra⟩|.list ds,v,u,h,r=>by unfold Rp at h;obtain⟨a,xs,h1,h2,h3⟩:=h;subst h1;cases r;obtain⟨č,rv,⟨o,n,e,hc,hdd,hd⟩,hz⟩:=I.list h2;obtain⟨as,ra⟩:=oT.reads I ds xs č h3 rv;exact⟨_,.list e hc hd<|by simpa using ra⟩|.dict _,_,_,h,_=>by unfold Rp at h;exact h.elim
theorem oT.reads(I:Inv X Æ σ H s):∀(ds:List aM) (xs:List V) (us:List Á),oT X.K H ds xs->ĳ xs us->∃as,ReadsAll s.heap us ds as
 |[],xs,us,h,r=>by unfold oT at h;subst h;cases r;exact⟨_,.nil⟩|d::ds,xs,us,h,r=>by
  unfold oT at h;obtain⟨x,q,h1,h2,h3⟩:=h;subst h1;cases r with
  |cons r1 r2=>obtain⟨as,ra⟩:=Rp.reads I d x _ h2 r1;obtain⟨bs,rb⟩:=oT.reads I ds q _ h3 r2;exact⟨_,.cons ra rb⟩
end
end
def HL(K:Î)(Ji:Bool):R2:=λx y H Q=>∃d e,Rp K H d x/\Rp K H e y/\d.canLay0=true/\e.canLay0=true/\min d.depth e.depth<=60/\Q (.bl<|if Ji then !PyData.eqv d e else ĸ d e) H
section
variable{X:Cx}
def Fd(hu:X.A.units+64<Ń):ae X (ĭ .Eq) (HL X.K false):=by intro Æ s a H x y v u Q I rx ry h;obtain⟨d,e,h1,h2,h3,h4,h5,q⟩:=h;obtain⟨as,ra⟩:=Rp.reads I d x v h1 rx;obtain⟨bs,rb⟩:=Rp.reads I e y u h2 ry;exact SeqAt.compareEq_reads ra rb h3 h4 (by lia) ⟨.bl _,H,I,rfl,q⟩
def AS(hu:X.A.units+64<Ń):ae X (ĭ .NotEq) (HL X.K true):=by intro Æ s a H x y v u Q I rx ry h;obtain⟨d,e,h1,h2,h3,h4,h5,q⟩:=h;obtain⟨as,ra⟩:=Rp.reads I d x v h1 rx;obtain⟨bs,rb⟩:=Rp.reads I e y u h2 ry;exact SeqAt.compareNe_reads ra rb h3 h4 (by lia) ⟨.bl _,H,I,rfl,q⟩
end
end M2
namespace M3
open PySem PySem.Spec PyProof.Rows L2 M2
def Ck{h':Ñ}(x:kC P w H h)(hC:H C=none)(k:∀b u,b≠C->h.get? b=some u->h'.get? b=some u):kC P w H h':=λa o e=>
 (x a o e).stay (fun b u hb q=>k b u (by
   rcases hb with hb|hb
   ·rw[hb];exact Ň e hC
   ·exact Ň hb hC) q) (λ_ q=>q) λ_ _ q=>q
theorem nB{env:Env}:∀(ns:List (Str×cE)) (cs:List (Str×À)),(∀y∈ns,y.2=.free->∃c,env.cells.lookup y.1=some c)->(∀x c,cs.lookup x=some c->env.cells.lookup x=some c)->
 ∃cl,(forIn ns cs (λ(x:Str×cE) r=>if(x.2==.free)=true then(do let c<-cellOf env x.1;ì (gJ ((x.1,c)::r)))else ì (gJ r)):Sem (List<|Str×À))=ì cl/\
  (∀x c,cl.lookup x=some c->env.cells.lookup x=some c)/\(∀x,(∃c,cs.lookup x=some c)->∃c,cl.lookup x=some c)/\∀y∈ns,y.2=.free->∃c,cl.lookup y.1=some c
 |[],cs,_,h2=>⟨cs,rfl,h2,λ_ z=>z,λ_ z=>nomatch z⟩
 |(n,k)::ns,cs,h1,h2=>by
  by_cases hk:k=.free
  ·subst hk;obtain⟨c,hc⟩:=h1 (n,.free) ł rfl;have e:cellOf env n=ì c:=by unfold cellOf;rw[hc]
   have Jj:∀x d,((n,c)::cs).lookup x=some d->env.cells.lookup x=some d:=λx d q=>by
    rw[Ř]at q;cases hx:x==n with
    |true=>rw[hx]at q;have:x=n:=eq_of_beq hx;subst this;cases q;exact hc|false=>rw[hx]at q;exact h2 x d q
   obtain⟨cl,q1,q2,q3,q4⟩:=nB ns ((n,c)::cs) (λy hy=>h1 y<|õ _ hy) Jj;refine⟨cl,?_,q2,λx ⟨d,hd⟩=>q3 x ?_,λy hy hf=>?_⟩
   ·rw[og];simp only[beq_self_eq_true,if_true,e,pure_bind];exact q1
   ·rw[Ř];cases hx:x==n with
    |true=>exact⟨c,rfl⟩|false=>exact⟨d,hd⟩
   ·rcases þ.mp hy with rfl|hy
    ·exact q3 n ⟨c,by rw[Ř,beq_self_eq_true]⟩
    ·exact q4 y hy hf
  ·have hb:(k==cI)=false:=by simpa using hk
   obtain⟨cl,q1,q2,q3,q4⟩:=nB ns cs (λy hy=>h1 y<|õ _ hy) h2;refine⟨cl,?_,q2,q3,λy hy hf=>?_⟩
   ·rw[og];simp only[hb,rC,if_false,pure_bind];exact q1
   ·rcases þ.mp hy with rfl|hy
    ·exact absurd hf hk
    ·exact q4 y hy hf
def xR{scope:û}{env:Env}(h:∀y∈scope.names,y.2=.free->∃c,env.cells.lookup y.1=some c):
 ∃cl,closureFor scope env=ì cl/\(∀x c,cl.lookup x=some c->env.cells.lookup x=some c)/\∀y∈scope.names,y.2=.free->∃c,cl.lookup y.1=some c:=by
 obtain⟨cl,q1,q2,_,q4⟩:=nB (env:=env) scope.names [] h (λx c z=>by simp at z);refine⟨cl,?_,q2,q4⟩;unfold closureFor;have e:(forIn scope.names [] (λ(x:Str×cE) (r:List (Str×À))=>match x with
  |(name,kind)=>if(kind==.free)=true then(do let a<-cellOf env name;ì (gJ ((name,a)::r)))else ì (gJ r)):Sem (List<|Str×À))=ì cl:=q1
 first
  |(simp only[bind_pure];exact q1)
  |(rw[show ∀(t:Sem (List<|Str×À)),(do let r<-t;ì r)=t from λt=>by simp];exact q1)|(simp only[q1,pure_bind])
noncomputable def iN(X:Cx)(N':List Str)(scope:û)(cl:List (Str×À))(C:À)(s:Ã)(H:Hp)(fp:List À):Cx where
 prog:=X.prog
 w:=X.w
 K:=X.K
 mg:=X.mg
 base:=X.base
 A:=X.A
 N:=N'
 s₀:=s
 H₀:=H
 env:=compEnvC scope cl C X.env
 outer:=X.stack
 stack:=X.stack
 ex:=fp
 fn:=λx=>scope.names.lookup x==some .cell
 calm:=X.calm
 pn:=[]
 xe:=λ_ _=>False
def kF(X:Cx)(sc scope:û):List Str->List Nat->Prop
 |x::xs,j::js=>X.N[j]?=some x/\(scope.names.lookup x=some .free/\(sc.names.lookup x=some .cell\/sc.names.lookup x=some .free))/\kF X sc scope xs js|_,[]=>True|[],_::_=>False
noncomputable def kG(js:List Nat)(nl:Nat)(σ:Ċ):Ċ:=js.map (λj:Nat=>(σ[j]?).getD none)++ç nl none
theorem vx:∀{N':List Str}{js:List Nat}{i:Nat}{x:Str}{v:V},kF X sc scope N' js->N'[i]?=some x->(kG js nl a)[i]?=some (some v)->
 ∃j:Nat,X.N[j]?=some x/\a[j]?=some (some v)/\scope.names.lookup x=some .free/\(sc.names.lookup x=some .cell\/sc.names.lookup x=some .free)
 |N',[],i,x,v,_,_,h=>by unfold kG at h;rw[ž,ϕ,jy]at h;split at h<;>cases h|[],_::_,_,_,_,c,_,_=>c.elim|y::N',j::js,0,x,v,c,h1,h2=>by
  obtain⟨c1,c2,_⟩:=c;simp at h1;subst h1;have e:(a[j]?).getD none=some v:=by simpa[kG]using h2
  refine⟨j,c1,?_,c2⟩;cases q:a[j]?with
  |none=>rw[q]at e;cases e|some o=>rw[q]at e;exact congrArg some e
 |y::N',j::js,i+1,x,v,c,h1,h2=>by exact vx (N':=N') (js:=js) (i:=i) c.2.2 (by simpa using h1) (by simpa[kG]using h2)
theorem xS{R:Result->Ã->Prop}{iter:È}{acc:Á}(I:Nat->Ã->Prop)(turn:∀n s,I n s->Ï (Ö prog w) A (df it) (λr s₁=>match r with
 |none=>R (.ok .next) s₁|some v=>Ï (Ö prog w) A (sv target it v) (fun _ Zaa=>Ï (Ö prog w) A (de target env v) (fun _ s₂=>
   Ï (Ö prog w) A (forIn ifs true λc r=>if r=true then do let ok<-isTrue c env (eval c env);ì (gJ ok)else ì (gJ r)) (λok s₃=>
    if ok=true then Ï (Ö prog w) A (eval elt env) (λx s₄=>
     Ï (Ö prog w) A (call (.builtin "list.append") [acc,x]) (λ_ s₅=>∃m,m<n/\I m s₅) (λ_ _=>False) s₄) (λ_ _=>False) s₃
    else ∃m,m<n/\I m s₃) (λ_ _=>False) s₂) (λ_ _=>False) Zaa) (λ_ _=>False) s₁) (λ_ _=>False) s)(n:Nat)(h:I n s):
 fN (Ö prog w) A (.compLoop (.ListComp elt [⟨target,iter,ifs,0⟩] scope pos) 0 it acc env) R s:=by
 refine codeAny_loop rfl I (λn s hI=>?_) n h;show Ï _ A ((compTurn (.ListComp elt [⟨target,iter,ifs,0⟩] scope pos) 0 it acc env).onRaise (λx=>do noteFrame x env;theTreesLotGoes x)) _ _ s;refine wpAny_noted<|wpAny_noRaise ?_;rw[compTurn_list];refine Ò<|oA<|Ò<|Ϯ (turn n s hI) (λr s₁ h₁=>?_) λ_ _ h'=>h';cases r with
 |none=>exact ĉ h₁|some v=>
  refine Ò<|Ϯ h₁ (λ_ Zaa Zal=>?_) λ_ _ h'=>h';refine Ò<|Ϯ Zal (λ_ s₂ h₂=>Ò<|Ϯ h₂ (λok s₃ h₃=>?_) λ_ _ h'=>h') λ_ _ h'=>h';cases ok with
  |false=>exact ĉ ⟨rfl,h₃⟩|true=>exact Ò<|Ò<|Ϯ h₃ (λx s₄ h₄=>Ò<|Ϯ h₄ (λ_ s₅ h₅=>ĉ<|ĉ ⟨rfl,h₅⟩) λ_ _ h'=>h') λ_ _ h'=>h'
def Cm(X:Cx)(ifs:List È)(t:TT):Prop:=
 ∀(Æ:List (À×Obj)) (s:Ã) (a:Ċ) (H:Hp) (Q:Bool->Hp->Prop),Inv X Æ a H s->t a H Q->
  Ï (Ö X.prog X.w) X.A (forIn ifs true λc r=>if r=true then do let ok<-isTrue c X.env (eval c X.env);ì (gJ ok)else ì (gJ r)) (TP X Æ a Q) X.xe s
def Tz:TT:=λ_ H Q=>Q true H
def HM:Cm X [] Tz:=λ_ _ _ H _ I h=>wpAny_tests_nil ⟨H,I,h⟩
def HN(h:PT X c t):Cm X [c] t:=λÆ s a H Q I hw=>wpAny_tests_one<|h Æ s a H Q I hw
def vy(js:List Nat)(nl:Nat)(wi:TI)(g:TG)(tt:TT)(te:TE):TE:=λd H Q=>wi d H λJ H1=>∀D,H1 D=none->
 ∃W:Nat->Nat->Ċ->Hp->Prop,(∃m,W 0 m (kG js nl d)<|upd H1 D<|.lst [])/\∀i m b H',W i m b H'->
  (J.stop i H'∧Q (.ref D) H')∨(J.go i H'∧∃N:Ċ→Hp→Prop,(∀a H2,N a H2→∃m',m'<m∧W (i+1) m' a H2)∧∀x H2,J.N8 i H' x H2→g x b H2 fun a H3=>tt a H3 fun c H4=>
    if c=true then te a H4 λy H5=>∃ys,H5 D=some (.lst ys)/\ys.length<sizeLine/\N a (upd H5 D<|.lst<|ys++[y])else N a H4)
theorem jN{env:Env}:∀{names:List (Str×cE)}{x:Str}{k:cE},(k=.cell\/k=.free)->
 (names.map λ(n,k)=>if(k==cI&&env.scope.kind==.function&&env.kindOf n==some .cell)then(n,h_)else(n,k)).lookup x=some k->(x,cI)∈names\/(x,h_)∈names
 |[],x,k,_,h=>by simp at h|(n,q)::r,x,k,hk,h=>by
  have ih:=@jN env r x k hk;rw[Ó]at h;by_cases hx:x=n
  ·subst hx;by_cases hf:q=.free
   ·subst hf;exact .inl ł
   ·have hb:(q==cI)=false:=by simpa using hf
    have e:(if(q==cI&&env.scope.kind==.function&&env.kindOf x==some .cell)=true then(x,h_)else(x,q))=(x,q):=by rw[hb];rfl
    have h2:=h;simp only[e,Ř,beq_self_eq_true]at h2;have:q=k:=Ś h2;rcases hk with hk|hk
    ·rw[this,hk];exact .inr ł
    ·exact absurd (this.trans hk) hf
  ·have hn:(x==n)=false:=by simpa using hx
   have h3:(x,cI)∈r\/(x,h_)∈r:=ih (by
    by_cases c:(q==cI&&env.scope.kind==.function&&env.kindOf n==some .cell)=true
    ·simp only[c,if_true,Ř,hn]at h;exact h
    ·simp only[c,if_false,rC,Ř,hn]at h;exact h)
   rcases h3 with h3|h3
   ·exact .inl<|õ _ h3
   ·exact .inr<|õ _ h3
theorem ax:∀(names:List (Str×cE)) (n:Nat) (acc:List (Str×À)),ś n names acc=ś n names []++acc
 |[],_,_=>rfl|(x,k)::r,n,acc=>by
  unfold ś;split
  ·rw[ax r (n+1) ((x,n)::acc),ax r (n+1) [(x,n)],ly];rfl
  ·exact ax r n acc
theorem jO:∀(names:List (Str×cE)) (n:Nat) {x:Str}{c:À},(x,c)∈ś n names []->(x,h_)∈names
 |[],_,_,_,h=>by simp[ś]at h|(y,k)::r,n,x,c,h=>by
  unfold ś at h;split at h
  ·rename_i hk;rw[ax r (n+1) [(y,n)]]at h;rcases Ů.mp h with h|h
   ·exact õ _<|jO r _ h
   ·have e:(x,c)=(y,n):=by simpa using h
    cases e;rw[beq_iff_eq.mp hk];exact ł
  ·exact õ _<|jO r _ h
structure Blk(X:Cx)(scope:û)(n:Nat)(h:Ñ)(cl:List (Str×À)):Prop where
 at_:∀x c,cl.lookup x=some c->(X.env.cells.lookup x=some c/\scope.names.lookup x≠some .cell)\/(n<c/\h.IsCell c none/\scope.names.lookup x=some .cell)
 inj:∀x y c,cl.lookup x=some c->cl.lookup y=some c->n<c->x=y
 has:∀x,((x,cI)∈scope.names\/(x,h_)∈scope.names)->∃c,cl.lookup x=some c
def Lb{X:Cx}{scope:û}{n:Nat}{cl:List (Str×À)}(hcell:∀y∈scope.names,y.2=.cell->scope.names.lookup y.1=some .cell)(h1:∀x c,cl.lookup x=some c->X.env.cells.lookup x=some c)(h2:∀y∈scope.names,y.2=.free->∃c,cl.lookup y.1=some c)(mT:∀x c,X.env.cells.lookup x=some c->c<n)(ok:CellsOk h (n+1) (ś (n+1) scope.names [])):Blk X scope n h (ś (n+1) scope.names cl):=by
 have sp:∀x c,(ś (n+1) scope.names cl).lookup x=some c->(cl.lookup x=some c/\(ś (n+1) scope.names []).lookup x=none)\/(ś (n+1) scope.names []).lookup x=some c:=λx c e=>by
  rw[ax,List.lookup_append]at e;cases q:(ś (n+1) scope.names []).lookup x with
  |none=>rw[q]at e;exact .inl ⟨by simpa using e,rfl⟩|some d=>rw[q]at e;exact .inr (by simpa using e)
 refine⟨λx c e=>?_,λx y c e1 e2 hc=>?_,λx hx=>?_⟩
 ·rcases sp x c e with⟨e,q⟩|e
  ·refine .inl ⟨h1 x c e,λz=>?_⟩;obtain⟨d,hd⟩:=oS (sc:=scope) (n:=n+1) z;rw[hd]at q;cases q
  ·have m:=mem_of_lookup e;exact .inr ⟨(ok.empty x c m).2,(ok.empty x c m).1,hcell _ (jO _ _ m) rfl⟩
 ·have nw:∀z,(ś (n+1) scope.names cl).lookup z=some c→(ś (n+1) scope.names []).lookup z=some c:=fun z e=>by
   rcases sp z c e with⟨e,q⟩|e
   ·exact absurd (mT z c<|h1 z c e)<|Nat.lt_asymm hc
   ·exact e
  exact name_of_addr ok.apart (mem_of_lookup<|nw x e1)<|mem_of_lookup<|nw y e2
 ·rw[ax,List.lookup_append];rcases hx with hx|hx
  ·obtain⟨c,hc⟩:=h2 _ hx rfl;cases q:(ś (n+1) scope.names []).lookup x with
   |none=>exact⟨c,by simpa using hc⟩|some d=>exact⟨d,rfl⟩
  ·obtain⟨d,hd⟩:=oS (sc:=scope) (n:=n+1)<|hcell _ hx rfl;rw[hd];exact⟨d,rfl⟩
def uW{M:fK}{A:ê}{E:Á->Ã->Prop}{s:Ã}{scope:û}{globals:À}{Dc:List (Str×À)}{Ő:Str}{func:Option À}{code:Á}{env0:Env}{builtins:À}{Q:Env->Ã->Prop}(hQ:∀h',h'.Ns s.heap.objs.size (λ_=>none)->(∀b o,s.heap.get? b=some o->h'.get? b=some o)->CellsOk h' (s.heap.objs.size+1) (ś (s.heap.objs.size+1) scope.names [])->
 Q (newEnv scope s.heap.objs.size globals (ś (s.heap.objs.size+1) scope.names Dc) Ő func code (some env0) builtins) {s with heap:=h'}):
 Ï M A (newFunctionEnv scope globals Dc [] Ő func code (some env0) builtins) Q E s:=by
 simp only[newFunctionEnv,BL,if_true];refine Ò<|wpAny_alloc ?_;refine Ò (wpAny_layCells _ (λname kind cells=>by cases hkc:kind==h_<;>simp[hkc]) _ _ _ _ ?_);have ok:=cellsFrom_ok scope.names (s.heap.push {cls:=.type "dict",data:=.dict #[]}) (s.heap.objs.size+1) [] ⟨λ_ _ hm=>(nomatch hm),BH⟩ (by rw[ϱ];exact ø _);rw[ϱ]at ok;rw[show({s with heap:=s.heap.push {cls:=.type "dict",data:=.dict #[]}}:Ã).heap.objs.size=s.heap.objs.size+1from ϱ ..];refine Ò ?_;rw[wB];exact ĉ<|ĉ<|hQ _ ((Heap.Ns.new s.heap<|.type "dict").keeps (pushCells_keeps _ _)) (λb o e=>pushCells_keeps _ _ b o<|Ă _ e) ok
theorem oU{env:Env}:∀{names:List (Str×cE)}{x:Str},names.lookup x=some .free->
 ¬(names.map λ(n,k)=>if(k==cI&&env.scope.kind==.function&&env.kindOf n==some .cell)then(n,h_)else(n,k)).lookup x=some .local
 |[],x,h=>by simp at h|(n,q)::r,x,h=>by
  intro h2;rw[Ó]at h2;rw[Ř]at h;cases hx:x==n with
  |true=>
   rw[hx]at h;cases h;by_cases c:(cI==cI&&env.scope.kind==.function&&env.kindOf n==some .cell)=true
   ·simp only[c,if_true,Ř,hx]at h2;cases h2
   ·simp only[c,if_false,rC,Ř,hx]at h2;cases h2
  |false=>
   rw[hx]at h;have ih:=oU (env:=env) h;by_cases c:(q==cI&&env.scope.kind==.function&&env.kindOf n==some .cell)=true
   ·simp only[c,if_true,Ř,hx]at h2;exact ih h2
   ·simp only[c,if_false,rC,Ř,hx]at h2;exact ih h2
def DO{X:Cx}{scope:û}{s:Ã}{nl:Nat}{sc:û}{fp:List À}{tk:Nat}(Bt:X.env.scope=sc)(hk:scope.kind=.function)(hcap:kF X sc scope N' js)(hlen:js.length+nl=N'.length)(B:Blk X scope s.heap.objs.size h' cl)(I:Inv X Æ a H s)(hf:∀b∈fp,nu X Æ H b)(mT:∀b∈fp,b<s.heap.objs.size)(hn:h'.Ns s.heap.objs.size (λ_=>none))(kp:∀b o,s.heap.get? b=some o->h'.get? b=some o):
 Inv (iN X N' scope cl s.heap.objs.size s H fp) [] (kG js nl a) H {s with heap:=h',toks:=tk}:=by
 have Fe:∀x,((iN X N' scope cl s.heap.objs.size s H fp).env.kindOf x=some .cell\/(iN X N' scope cl s.heap.objs.size s H fp).env.kindOf x=some .free)->∃c,cl.lookup x=some c:=λx hx=>by
  rcases hx with hx|hx
  ·exact B.has x<|jN (.inl rfl) hx
  ·exact B.has x<|jN (.inr rfl) hx
 have lt:∀x c,X.env.cells.lookup x=some c->c<s.heap.objs.size:=λx c e=>by obtain⟨v,o,ho,_⟩:=I.cell x c e;exact ā ho
 have inj:∀x y c,cl.lookup x=some c->cl.lookup y=some c->x=y:=λx y c e1 e2=>by
  rcases B.at_ x c e1 with⟨q1,_⟩|⟨q1,_⟩
  ·rcases B.at_ y c e2 with⟨q2,_⟩|⟨q2,_⟩
   ·exact I.ok.inj x y c q1 q2
   ·exact absurd (lt x c q1)<|Nat.lt_asymm q2
  ·exact B.inj x y c e1 e2 q1
 refine⟨⟨I.ok.mod,hk,I.ok.glob,I.ok.blt,ø _,inj,Fe,λx c z e=>by
  rcases B.at_ x c e with⟨_,q⟩|⟨q,_⟩
  ·exact absurd (beq_iff_eq.mp z) q
  ·exact on q,I.ok.hd,I.ok.frames,.inl rfl,λb hb=>⟨Ņ<|mT b hb,λx c e=>by
  rcases B.at_ x c e with⟨q,_⟩|⟨q,_⟩
  ·exact(hf b hb).2.2.2.2.1 x c q
  ·exact db<|wM (mT b hb) q⟩,
  I.bs,ř I.ok.EE I.sz,fun b o e hb=>?_,fun b hb hz=>?_,I.stack,I.B8,I.tb⟩,rfl,I.bare,Un.kept kp,⟨_,hn,fun i x v e1 e2 e3=>?_⟩,fun x c e=>?_,I.hok.fresh<|ø _,fun x c e=>by
    rcases B.at_ x c e with⟨q,_⟩|⟨q,_⟩
    ·exact I.kl x c q
    ·exact I.hok.fresh<|on q,λp hp=>?_,I.hok.kept kp,?_⟩
 ·rcases(hf b hb).2.2.2.1 with z|z
  ·exact I.ok.zc b o e z
  ·exact absurd (Ť (ā e)<|ř I.ok.EE z)<|eo _
 ·rcases þ.mp (I.xE b hz)with z|z
  ·exact(hf b hb).2.1 z
  ·exact(hf b hb).2.2.1 z
 ·obtain⟨j,q1,q2,q0,q3⟩:=vx hcap e1 e2;obtain⟨m,hm,hl⟩:=I.loc;have TB:M8 X.env.scope x:=by
   rw[Bt];rcases q3 with q3|q3
   ·exact .inr<|.inl q3
   ·exact .inr<|.inr q3
  obtain⟨u,ru,lk⟩:=hl j x v q1 q2 TB;refine⟨u,ru,?_⟩;rcases lk with⟨k1,_⟩|⟨k1,c,hc,ic⟩
  ·exfalso;have k1':sc.names.lookup x=some .local:=by rw[<-Bt];exact k1
   rcases q3 with q3|q3<;>(rw[k1']at q3;cases q3)
  ·have e3':(iN X N' scope cl s.heap.objs.size s H fp).env.kindOf x=some .local\/(iN X N' scope cl s.heap.objs.size s H fp).env.kindOf x=some .cell\/(iN X N' scope cl s.heap.objs.size s H fp).env.kindOf x=some .free:=e3;rcases e3' with z|z
   ·exact absurd z<|oU (env:=X.env) q0
   ·obtain⟨d,hd⟩:=Fe x z;have:d=c:=by
     rcases B.at_ x d hd with⟨q,_⟩|⟨_,_,q⟩
     ·rw[hc]at q;exact(Ś q).symm
     ·rw[q0]at q;cases q
    subst this;exact .inr ⟨z,d,hd,by
     obtain⟨o,ho,J3⟩:=ic;exact⟨o,kp _ _ ho,J3⟩⟩
 ·rcases B.at_ x c e with⟨q,_⟩|⟨_,q,_⟩
  ·obtain⟨v,o,ho,hd⟩:=I.cell x c q;exact⟨v,o,kp _ _ ho,hd⟩
  ·exact⟨none,q⟩
 ·exact absurd hp (by simp[iN])
 ·show _=N'.length;rw[<-hlen];simp[kG]
def AT{fp:List À}{h':Ñ}(I:Inv X Æ a H s)(hf:∀b∈fp,nu X Æ H b)(J:Inv (iN X N' scope cl s.heap.objs.size s H fp) [] c H' s')(kp:∀b u,b≠s.heap.objs.size->s'.heap.get? b=some u->h'.get? b=some u):Inv X Æ a H' {s' with heap:=h'}:=by
 have ne:∀{b:À}{o:Obj},s.heap.get? b=some o->b≠s.heap.objs.size:=λe=>Ņ<|ā e;have u:=J.base;refine I.call' (ch:=fp) J.os ⟨λb o e n hb hx=>kp b o (ne e)<|u.keep b o e n hb hx,λb o e n hb hx=>?_,λb o e n hx=>u.free b o e n hx,λb o e hx=>?_,u.tups,u.uR,u.qZ⟩ (Ck J.hok J.free kp) J.bare λb hb=>?_
 ·obtain⟨sl,q⟩:=u.slot b o e n hb hx;exact⟨sl,kp b _ (ne e) q⟩
 ·obtain⟨o',q⟩:=u.there b o e hx;exact⟨o',kp b _ (ne e) q⟩
 ·exact⟨(hf b hb).2.2.2.1,(hf b hb).2.1,(hf b hb).2.2.2.2.1,(hf b hb).2.2.2.2.2⟩
def vz{X:Cx}{elt tg iter:È}{ifs:List È}{scope:û}{pos:Pos}{wi:TI}{g:TG}{tt:TT}{te:TE}{use:Option (Á->Sem Unit)}{QQ:Á->Ã->Prop}{KV:V->Hp->Prop}{Æ:List (À×Obj)}{s:Ã}{j:Ċ}{H:Hp}{pp:Pos}(N':List Str)(js:List Nat)(nl:Nat)(sc:û)(Bt:X.env.scope=sc)(hcalm:X.calm=true)(hi:PI X.ϲ tg iter wi)(hg:∀cl C s H fp,PG (iN X.ϲ N' scope cl C s H fp) tg g)(ht:∀cl C s H fp,Cm (iN X.ϲ N' scope cl C s H fp) ifs tt)(he:∀cl C s H fp,PE (iN X.ϲ N' scope cl C s H fp) elt te)(hcap:kF X.ϲ sc scope N' js)(hlen:js.length+nl=N'.length)(hk:scope.kind=.function)(hcell:∀y∈scope.names,y.2=.cell->scope.names.lookup y.1=some .cell)(hnames:∀y∈scope.names,y.2=.local->scope.names.lookup y.1=some .local)(hfree:∀y∈scope.names,y.2=.free->(sc.names.lookup y.1=some .cell\/sc.names.lookup y.1=some .free))(hs:∀x,cC iter X.env x=ì x)(I:Inv X.ϲ Æ j H s)(h:vy js nl wi g tt te j H KV)
 (lf:∀(D C:À) (m:Str->Option Á) (s6:Ã) (H5:Hp),s6.heap.Ns C m->(∀h',(∀b o,b≠C->s6.heap.get? b=some o->h'.get? b=some o)->Inv X.ϲ Æ j H5 {s6 with heap:=h'})->C≠X.ϲ.env.locals->(∀x c,X.ϲ.env.cells.lookup x=some c->c≠C)->(∀p∈X.ϲ.pn++Æ,p.1≠C)->H5 C=none->X.ϲ.s₀.heap.objs.size<=C->KV (.ref D) H5->∀r,compPost (Ö X.prog X.w) X.A X.ϲ.xe use QQ (.ref D) C (.ok r) s6):
 Ï (Ö X.prog X.w) X.A (comprehension (.ListComp elt [⟨tg,iter,ifs,0⟩] scope pos) scope X.ϲ.env pp (newList []) false (eval iter X.ϲ.env) use) QQ X.ϲ.xe s:=by
 obtain⟨XC,c1,c2,c3⟩:=xR (scope:=scope) (env:=X.ϲ.env) λy hy hf=>I.ok.has y.1 (by
  have:=hfree y hy hf;rw[<-Bt]at this;exact this)
 refine wpAny_comprehension_free (use:=use) rfl hs c1 hk hnames<|ώ (hi Æ s j H _ I h) λv s1 h1=>ώ h1 λWN s2 h2=>?_;obtain⟨it,fp,tn,J,H2,e,I2,T,Hb,f2,q2⟩:=h2;subst e;refine xa<|uW<|λh₁ MU rm TC=>?_;dsimp only at MU rm TC⊢;generalize TD:s2.heap.push {cls:=.type "list",dict:=none,data:=.seq ([]:List Á).toArray}=vA at MU rm TC⊢;have hD:H2 s2.heap.objs.size=none:=I2.hok.fresh<|ø _;have I3:Inv X.ϲ Æ j (upd H2 s2.heap.objs.size<|.lst []) {s2 with heap:=vA}:=by rw[<-TD];exact I2.laid (t':=s2.toks) (λb u e=>Ă _ e) (ø _) ⟨bu _,[],0,.nil,į _ rfl⟩
 have Nf:∀b∈fp,b<s2.heap.objs.size:=λb hb=>by obtain⟨o,ho,_⟩:=T.obj 0 _ Hb b hb;exact ā ho
 have TF:vA.objs.size=s2.heap.objs.size+1:=by rw[<-TD,ϱ]
 have f3:∀b∈fp,nu X.ϲ Æ (upd H2 s2.heap.objs.size<|.lst []) b:=λb hb=>by obtain⟨g0,g1⟩:=f2 b hb;exact⟨by rw[î<|Ņ<|Nf b hb];exact g0,g1⟩
 have B:=Lb (X:=X.ϲ) (cl:=XC) hcell c2 c3 (λx c e=>by obtain⟨v,o,ho,_⟩:=I3.cell x c e;exact ā ho) TC;generalize ś (vA.objs.size+1) scope.names XC=cl at B⊢;obtain⟨W,⟨m0,w0⟩,turn⟩:=q2 s2.heap.objs.size hD;have I4:=DO (X:=X.ϲ) (N':=N') (js:=js) (nl:=nl) (sc:=sc) (scope:=scope) (cl:=cl) (fp:=fp) (h':=h₁) (tk:=s2.toks) Bt hk hcap hlen B I3 f3 (λb hb=>by show b<vA.objs.size;rw[TF];exact sj<|Nf b hb) MU rm;have XD:tn 0 h₁:=T.keep 0 _ _ Hb λb hb o e=>rm b o (by rw[<-TD];exact Ă _ e);have fr4:∀b∈fp,(upd H2 s2.heap.objs.size<|.lst []) b=none:=λb hb=>(f3 b hb).1;have stat:∀{H':Hp},(∀b∈fp,H' b=none)->∀b∈fp,nu (iN X.ϲ N' scope cl vA.objs.size {s2 with heap:=vA} (upd H2 s2.heap.objs.size<|.lst []) fp) [] H' b:=fun{H'} hn b hb=>by
  obtain⟨g0,g1,g2,g3,g4,g5⟩:=f3 b hb;refine⟨hn b hb,Ņ (by show b<vA.objs.size;rw[TF];exact sj<|Nf b hb),λz=>?_,.inl hb,λx c e=>by
   rcases B.at_ x c e with⟨q,_⟩|⟨q,_⟩
   ·exact g4 x c q
   ·exact db (wM (by show b<vA.objs.size;rw[TF];exact sj<|Nf b hb) q),λp hp=>absurd hp<|by simp[iN]⟩
  rcases þ.mp (I3.xE b z)with z|z
  ·exact g1 z
  ·exact g2 z
 have loop:∀s₃:Ã,s₃={s2 with heap:=h₁}->
  fN (Ö X.prog X.w) X.A (.compLoop (.ListComp elt [⟨tg,iter,ifs,0⟩] scope pos) 0 (.ref it) (.ref s2.heap.objs.size)<|compEnvC scope cl vA.objs.size X.ϲ.env)
   (compPost (Ö X.prog X.w) X.A X.ϲ.xe use QQ (.ref s2.heap.objs.size) vA.objs.size) s₃:=by
  rintro s₃ rfl;refine xS (λn s'=>∃i l H',Inv (iN X.ϲ N' scope cl vA.objs.size {s2 with heap:=vA} (upd H2 s2.heap.objs.size<|.lst []) fp) [] l H' s'/\tn i s'.heap/\(∀b∈fp,H' b=none)/\W i n l H') ?_ m0 ⟨0,_,_,I4,XD,fr4,w0⟩;rintro n s5 ⟨i,f,H5,I5,M9,Rb,w5⟩;rcases turn i n f H5 w5 with⟨stop,qn⟩|⟨go,N,hN,step⟩
  ·refine ώ (T.done (iN X.ϲ N' scope cl vA.objs.size {s2 with heap:=vA} (upd H2 s2.heap.objs.size<|.lst []) fp) rfl rfl rfl hcalm i [] s5 f H5 (λ_ _=>False) I5 (stat Rb) M9 stop) λr s6 ⟨hr,I6⟩=>?_;subst hr;obtain⟨m,hm,_⟩:=I6.loc;exact lf _ _ m s6 H5 hm (λh' k=>AT I3 f3 I6 k) (db I3.lt) (λx c e z=>by
    obtain⟨v,o,ho,_⟩:=I3.cell x c e;exact absurd (ā ho) (by rw[z];exact eo _)) (λp hp z=>by
    have:=ā (I3.pin p hp).1;rw[z]at this;exact eo _ this) I6.free I3.sz qn _
  ·refine ώ (T.item (iN X.ϲ N' scope cl vA.objs.size {s2 with heap:=vA} (upd H2 s2.heap.objs.size<|.lst []) fp) rfl rfl rfl hcalm i [] s5 f H5 (λ_ _=>False) I5 (stat Rb) M9 go) λr s6 ⟨u,hr,h6⟩=>?_;subst hr;refine ώ h6 λ_ s7 zz=>?_;obtain⟨x,H7,I7,r7,y7,TK,fr7⟩:=zz;have I7':=I7.pinned (stat fr7)<|T.obj _ _ TK;have again:∀{s8:Ã}{a:Ċ}{H8:Hp},Inv (iN X.ϲ N' scope cl vA.objs.size {s2 with heap:=vA} (upd H2 s2.heap.objs.size<|.lst []) fp) ([]++tF fp s7.heap) a H8 s8->
    Inv (iN X.ϲ N' scope cl vA.objs.size {s2 with heap:=vA} (upd H2 s2.heap.objs.size<|.lst []) fp) [] a H8 s8/\tn (i+1) s8.heap/\∀b∈fp,H8 b=none:=fun{s8 a H8} I8=>by
    refine⟨I8.oR,T.keep _ _ _ TK λb hb o e=>(I8.pin (b,o)<|d_ _<|d_ _<|jL hb e).1,λb hb=>?_⟩;obtain⟨o,e,d⟩:=T.obj _ _ TK b hb;exact(I8.pin (b,o)<|d_ _<|d_ _<|jL hb e).2.1
   refine ώ (hg cl _ _ _ fp _ s7 f H7 x u _ I7' r7<|step x H7 y7) λ_ s8 zz=>?_;obtain⟨a,H8,I8,q8⟩:=zz;refine ώ (ht cl _ _ _ fp _ s8 a H8 _ I8 q8) λc s9 zz=>?_;obtain⟨H9,I9,q9⟩:=zz;cases c with
   |false=>rw[if_neg aG]at q9⊢;obtain⟨m',WY,w9⟩:=hN _ _ q9;obtain⟨a1,a2,a3⟩:=again I9;exact⟨m',WY,i+1,a,H9,a1,a2,a3,w9⟩|true=>rw[if_pos rfl]at q9⊢;refine ώ (he cl _ _ _ fp _ s9 a H9 _ I9 q9) λyv Ff zz=>?_;obtain⟨y,H10,I10,r10,ys,e10,l10,w10⟩:=zz;refine ώ (Ŵ _ Ff a H10 (.ref s2.heap.objs.size) [y] (.ref s2.heap.objs.size) [yv] (λ_ TM=>N a TM) I10 rfl (.cons r10 .nil) ⟨_,ys,y,rfl,rfl,e10,l10,w10⟩) λ_ HP zz=>?_;obtain⟨v11,TM,I11,_,WZ⟩:=zz;obtain⟨a1,a2,a3⟩:=again I11;obtain⟨m',WY,WZ⟩:=hN _ _ WZ;exact⟨m',WY,i+1,a,TM,a1,a2,a3,WZ⟩
 exact codeAny_compStart_list (loop _ rfl)<|T.self _ 0 _ _ _ XD<|loop _ rfl
def Cn{X:Cx}{elt tg iter:È}{ifs:List È}{scope:û}{pos:Pos}{wi:TI}{g:TG}{tt:TT}{te:TE}(N':List Str)(js:List Nat)(nl:Nat)(sc:û)(Bt:X.env.scope=sc)(hcalm:X.calm=true)(hi:PI X.ϲ tg iter wi)(hg:∀cl C s H fp,PG (iN X.ϲ N' scope cl C s H fp) tg g)(ht:∀cl C s H fp,Cm (iN X.ϲ N' scope cl C s H fp) ifs tt)(he:∀cl C s H fp,PE (iN X.ϲ N' scope cl C s H fp) elt te)(hcap:kF X.ϲ sc scope N' js)(hlen:js.length+nl=N'.length:=by rfl)(hk:scope.kind=.function:=by rfl)(hcell:∀y∈scope.names,y.2=.cell->scope.names.lookup y.1=some .cell:=by decide+kernel)(hnames:∀y∈scope.names,y.2=.local->scope.names.lookup y.1=some .local:=by decide+kernel)(hfree:∀y∈scope.names,y.2=.free->(sc.names.lookup y.1=some .cell\/sc.names.lookup y.1=some .free):=by decide+kernel)(hs:∀x,cC iter X.env x=ì x:=by intro _;rfl):
 PE X.ϲ (.ListComp elt [⟨tg,iter,ifs,0⟩] scope pos) (vy js nl wi g tt te):=by
 intro Æ s a H Q I h;rw[eval_ListComp];exact vz N' js nl sc Bt hcalm hi hg ht he hcap hlen hk hcell hnames hfree hs I h λD C m s6 H5 hm kp _ _ _ _ _ q r=>⟨m,hm,λh' Hf=>⟨.ref D,H5,kp h'<|λb u hb e=>Hf.extBut b u hb e,rfl,q⟩⟩
def Its(z:Str):It:=⟨λi _=>i<z.cps.size,λi H x H'=>H'=H/\∃c,z.cps.toList[i]?=some c/\x=.str ⟨#[c]⟩,λi _=>i=z.cps.size⟩
def DP{P:ä}{w:Þ}{K:Î}{tg:È}(it:À)(z:Str)(t:Tok)(ty:String)(hW:∀A:ê,A.handled=none->Walks P w A it [it] [it] z.cps.size (SignAt z) (λi h=>h.IsStrIter it ty z t i))(hS:∀(A:ê) (i:Nat) (s:Ã) (Q:Á->Ã->Prop) (E:Á->Ã->Prop),s.heap.IsStrIter it ty z t i->Q (.ref it) s->Ï (Ö P w) A (gU<|.ref it) Q E s)(lm:["enumerate","zip","dict_itemiterator","dict_reverseitemiterator","odict_iterator","itertools.zip_longest","itertools.pairwise"].contains ty=false):Br P w K tg (Its z) [it] it (λi h=>h.IsStrIter it ty z t i) where
 mem:=by simp
 obj:=λi h st b hb=>by
  have e:b=it:=by simpa using hb
  subst e;obtain⟨o,e,c,d⟩:=st;exact⟨o,e,λv z=>by rw[d]at z;cases z⟩
 keep:=λi h h' st k=>by obtain⟨o,e,c,d⟩:=st;exact⟨o,k it (by simp) o e,c,d⟩
 item:=by intro X hP hw hK hc i Æ s a H E I hf st hg;subst hP hw hK;obtain⟨f0,f1,f2,f3,f4,f5⟩:=hf it (by simp);refine(hW X.A<|I.ok.hd hc).item i s _ _ hg st λv h' tk hv El kk=>?_;obtain⟨c,u,hcu,rfl⟩:=hv;have I1:Inv X Æ a H {s with heap:=h',toks:=tk}:=I.turned (λb o hb e=>kk b o (by simpa using hb) e) f0 f1 f3 f4 f5;obtain⟨o,e,cl,d⟩:=id El;exact⟨_,rfl,Cb (s:={s with heap:=h',toks:=tk}) e cl d lm ⟨.str ⟨#[c]⟩,H,I1,⟨u,rfl⟩,⟨rfl,c,by simpa using hcu,rfl⟩,El,λb hb=>(hf b hb).1⟩⟩
 done:=by intro X hP hw hK hc i Æ s a H E I hf st hg;subst hP hw hK;obtain⟨f0,f1,f2,f3,f4,f5⟩:=hf it (by simp);have e:i=z.cps.size:=hg;subst e;exact(hW X.A<|I.ok.hd hc).done s _ _ st λh' tk kk=>⟨rfl,I.turned (λb o hb e=>kk b o (by simpa using hb) e) f0 f1 f3 f4 f5⟩
 self:=hS
end M3
namespace M4
open PySem PySem.Spec PyProof.Rows L2 M2 M3
def HQ{bs:List Bool}:∀{us:List Á},ĳ (bs.map V.bl) us->us=bs.map fR:=by
 induction bs with
 |nil=>intro us r;rw[ž]at r;cases r;rfl|cons b bs ih=>
  intro us r;rw[Ó]at r;cases r with
  |cons r1 r2=>cases r1;rw[ih r2];rfl
def all_range(bs:List Bool):(ß (bs.map fR).toArray.size).all (λi=>bs.getD i false)=bs.all id:=by
 have e:(bs.map fR).toArray.size=bs.length:=by simp
 rw[e,dZ];simp only[cy,Ţ,id];constructor
 ·intro h b hb;obtain⟨i,hi,rfl⟩:=rP.mp hb;have:=h i hi;rw[aJ,ţ hi]at this;exact this
 ·intro h i hi;rw[aJ,ţ hi];exact h _<|Œ hi
def zm(bs:List Bool):TruthOf prog w A (λi v=>(bs.map fR).toArray[i]?=some v) (λi=>bs.getD i false):=by
 intro i v s Q E hv hq;have Jf:bs[i]?.map fR=some v:=by rw[<-ů];simpa using hv
 cases hb:bs[i]?with
 |none=>rw[hb]at Jf;cases Jf|some b=>rw[hb]at Jf;cases Jf;dsimp only at hq;rw[aJ,hb]at hq;exact fM hq
def Lc(K:Î):List V->Hp->VK->Prop:=λxs H Q=>match xs with
 |[.ref p]=>∃bs:List Bool,Ϫ K H p (bs.map V.bl)/\Q (.bl<|bs.all id) H|_=>False
def nC{X:Cx}(hc:X.calm=true):Ŗ X (.builtin "all") (Lc X.K):=by
 intro Æ s a H xs us Q I r h;unfold Lc at h;split at h
 ·rename_i p;obtain⟨bs,hS,q⟩:=h;obtain⟨u,rfl,ru⟩:=vals1 r;cases ru;obtain⟨č,rv,pl,hz⟩:=I.list hS;have e:=HQ rv;subst e;have hp:p≠s.heap.objs.size:=by
   obtain⟨o,n,e,_⟩:=pl;exact Ņ<|ā e
  refine call_all_walk<|lO pl.isList ?_;refine⟨s.heap.objs.size,_,_,_,_,_,_,rfl,Walks.list (A:=X.A.in1) (show X.A.in1.handled=none from I.ok.hd hc) s.heap.objs.size p hp (bs.map fR).toArray,⟨⟨_,į _ rfl,rfl,rfl⟩,pl.isList.at λo e=>Ă _ e⟩,zm bs,λh' tk k=>?_⟩;rw[all_range];exact⟨.bl _,H,I.kept λb o e=>k b o (by simpa using Ņ (ā e))<|Ă _ e,rfl,q⟩
 ·exact h.elim
noncomputable abbrev S(l:List Nat):Str:=⟨l.toArray⟩
def Ld(z:Str):S z.cps.toList=z:=by cases z;simp
def Jw(l:List Nat):(S l).length=l.length:=by simp[bC]
def qE(z:Str):z.cps.toList.length=z.length:=by simp[bC]
def Jx(a b:List Nat):S a++S b=S (a++b):=by refine BM ?_;rw[PySem.W.KT.app_list]
def xT(xs:List Nat)(lo hi:Option Int):List Nat:=(xs.drop<|HT.mq xs.length 0 lo).take (HT.mq xs.length xs.length hi-HT.mq xs.length 0 lo)
def GU(z:Str)(lo hi:Option Int):lU lo hi 1 z.length=(ß<|HT.mq z.length z.length hi-HT.mq z.length 0 lo).map (HT.mq z.length 0 lo+·):=by
 have hc:∀(o:Option Int) (d:Nat),d<=z.length->(match o with|none=>((d:Nat):Int)|some i=>max 0<|min (if i<0then i+(z.length:Int)else i) (z.length:Int))=((HT.mq z.length d o:Nat):Int):=by
  intro o d hd;cases o with
  |none=>rfl|some i=>
   show max 0 (min (if i<0then i+(z.length:Int)else i) (z.length:Int))=((if i<0then(i+(z.length:Int)).toNat else min i.toNat z.length:Nat):Int);by_cases h:i<0
   ·rw[if_pos h,if_pos h];lia
   ·rw[if_neg h,if_neg h];lia
 have e:lU lo hi 1 z.length=sliceRange ((HT.mq z.length 0 lo:Nat):Int) ((HT.mq z.length z.length hi:Nat):Int) 1:=by have h1:=hc lo 0<|bu _;have h2:=hc hi z.length<|ø _;unfold lU;simp only[show(1:Int)>0 by decide,if_true];rw[<-h1,<-h2];cases lo<;>cases hi<;>rfl
 rw[e,sliceRange_one]
def HR(z:Str)(lo hi:Option Int):(lU lo hi 1 z.length).filterMap (z.cps[·]?)=xT z.cps.toList lo hi:=by rw[GU,pick_run];unfold xT;rw[qE]
def HS(xs:List Nat)(lo hi:Option Int):(xT xs lo hi).length<=xs.length:=by unfold xT;rw[rN,List.length_drop];lia
def Fg{z:Str}{l u:Option (Int×Tok)}{Q:Á->Ã->Prop}{s:Ã}(hz:z.length<=sizeLine)(h:∀t' k,Q (.str (S<|xT z.cps.toList (l.map (·.1))<|u.map (·.1)) t') {s with toks:=k}):(sliceMade z t l u none).post Q s:=by
 have e:=HR z (l.map (·.1))<|u.map (·.1);unfold sliceMade;have ep:slicePicked z l u none=lU (l.map (·.1)) (u.map (·.1)) 1 z.length:=rfl;rw[ep];split
 ·rename_i hc;have hl:(lU (l.map (·.1)) (u.map (·.1)) 1 z.length).length=z.length:=by simpa using hc
  have Jk:xT z.cps.toList (l.map (·.1)) (u.map (·.1))=z.cps.toList:=by
   rw[GU,Ę,rQ]at hl;have hi:=HT.E0 z.length 0 (bu _)<|l.map (·.1);have hj:=HT.E0 z.length z.length (ø _)<|u.map (·.1);unfold xT;rw[qE];have EA:=qE z;have a0:HT.mq z.length 0 (l.map (·.1))=0\/z.length=0:=by lia
   rcases a0 with a0|a0
   ·rw[a0]at hl⊢;rw[lz];exact wD (by lia)
   ·have:z.cps.toList=[]:=wE (by lia);rw[this];simp
  have:=h t s.toks;rw[Jk,Ld]at this;exact this
 ·rw[e];exact⟨by rw[Jw];have:=HS z.cps.toList (l.map (·.1))<|u.map (·.1);rw[qE]at this;lia,h _ _⟩
def TN:V->Option Int->Option Int->Hp->VK->Prop:=λx lo hi H Q=>match x with
 |.str z=>z.length<=sizeLine/\Q (.str<|S<|xT z.cps.toList lo hi) H|_=>False
def HU:Cd X TN:=by
 intro Æ s a H x v vl vu lo hi sl Q I rx hs pl pu h;cases x with
 |str z=>
  obtain⟨t,rfl⟩:=rx;obtain⟨hz,q⟩:=h;obtain⟨l,el,el2⟩:∃l:Option (Int×Tok),partValue l=vl/\l.map (·.1)=lo:=by
   cases pl with
   |none=>exact⟨none,rfl,rfl⟩|int i t=>exact⟨some (i,t),rfl,rfl⟩
  obtain⟨u,eu,eu2⟩:∃u:Option (Int×Tok),partValue u=vu/\u.map (·.1)=hi:=by
   cases pu with
   |none=>exact⟨none,rfl,rfl⟩|int i t=>exact⟨some (i,t),rfl,rfl⟩
  subst el el2 eu eu2;exact⟨"str",_,F.slot_str_getitem.lookup,lM s z t,wpAny_getItem_str_slice (l:=l) (u:=u) (st:=none) hs rfl<|Fg hz λt' k=>⟨.str _,H,I.tok _,⟨_,rfl⟩,q⟩⟩
 |_=>exact h.elim
def TQ(K:Î):V->Option Int->Option Int->Hp->VK->Prop:=λx lo hi H Q=>match x with
 |.ref a=>∃xs,Ϫ K H a xs/\∀p,H p=none->Q (.ref p) (upd H p<|.lst<|zh xs lo hi)|.str z=>z.length<=sizeLine/\Q (.str<|S<|xT z.cps.toList lo hi) H|_=>False
def slm:Cd X (TQ X.K):=Cd.wk (Fc.or HU) λx lo hi H Q h=>by
 cases x with
 |ref a=>exact .inl h|str z=>exact .inr h|_=>exact h.elim
def DQ(z y:Str):Txt.startswith z y=decide (z.cps.toList.take y.cps.toList.length=y.cps.toList):=by
 unfold Txt.startswith;rw[StrLaws.subAt_eq,lz,qE,dZ];simp only[ú,decide_eq_true_eq,beq_iff_eq];constructor
 ·exact λh=>h.2
 ·intro h;refine⟨?_,h⟩;have h2:=congrArg bq h;rw[rN,qE,qE]at h2;lia
def xU:V->List V->Hp->VK->Prop:=λx vs H Q=>match x,vs with
 |.str z,[.str y]=>Q (.bl<|decide<|z.cps.toList.take y.cps.toList.length=y.cps.toList) H|_,_=>False
def vB:Nc X "str.startswith" xU:=by
 intro Æ s a H x xs v us Q I rx rs h;unfold xU at h;split at h
 ·obtain⟨t,rfl⟩:=rx;obtain⟨u,rfl,t',rfl⟩:=vals1 rs;exact SC.startswith ⟨.bl _,H,I,rfl,by rw[DQ];exact h⟩
 ·exact h.elim
def MV(z:Str){n:Int}(h:0<=n):Txt.mul z n=S (ç n.toNat z.cps.toList).flatten:=by
 have key:∀(k:Nat) (acc:Array Nat),((ç k z.cps).foldl (·++·) acc).toList=acc.toList++(ç k z.cps.toList).flatten:=by
  intro k
  induction k with
  |zero=>intro acc;simp|succ k ih=>intro acc;rw[fH,br,ih,fH,jz];simp
 unfold Txt.mul;refine BM ?_;by_cases h1:n<1
 ·rw[if_pos h1];have:n.toNat=0:=by lia
  rw[this];simp[fQ]
 ·rw[if_neg h1];split
  ·rename_i hc;rw[gI]at hc;rcases hc with hc|hc
   ·have:n=1:=by simpa using hc
    subst this;simp
   ·have h0:z.cps.toList=[]:=wE (by rw[qE];simpa using hc);rw[h0];simp
  ·rw[key];simp
def Fh(z:Str)(n:Int):Prop:=0<=n/\n<=1000/\z.length<=1000
def Fh.ok(h:Fh z n):MulOk z n:=by
 obtain⟨h0,h1,h2⟩:=h;refine⟨?_,λhn _=>?_,λhn _=>?_⟩
 ·rw[decide_eq_false (by lia),decide_eq_false<|by lia];rfl
 ·have:(9000000000000000:Int)≤(2^63-1)/n:=by
   rw[Bx<|by lia];lia
  lia
 ·have:z.length*n.toNat<=1000*1000:=eA h2 (by lia);unfold Builtin.Str.tooLong;simp;rw[cD];lia
def Fi:R2:=λx y H Q=>match x,y with
 |.int i,.int j=>vw i j/\Q (.int<|i*j) H|.str z,.int n=>Fh z n/\Q (.str<|S (ç n.toNat z.cps.toList).flatten) H|_,_=>False
def HV:ae X (Į .Mult) Fi:=by
 intro Æ s a H x y v u Q I rx ry h;unfold Fi at h;split at h
 ·exact K8 Æ s a H _ _ v u Q I rx ry h
 ·obtain⟨t,rfl⟩:=rx;obtain⟨t',rfl⟩:=ry;exact SB.mul h.1.ok λt' k=>⟨.str _,H,I.tok _,⟨_,by rw[MV _ h.1.1]⟩,h.2⟩
 ·exact h.elim
noncomputable def Ė(sep:List Nat):List (List Nat)->List Nat
 |[]=>[]|[x]=>x|x::y::r=>x++sep++Ė sep (y::r)
theorem Dd(sep:Str):∀ys:List (List Nat),Str.join sep (ys.map S)=S (Ė sep.cps.toList ys)
 |[]=>rfl|[x]=>rfl|x::y::r=>by have ih:=Dd sep (y::r);show S x++sep++Str.join sep ((y::r).map S)=_;have e:Ė sep.cps.toList (x::y::r)=x++sep.cps.toList++Ė sep.cps.toList (y::r):=rfl;rw[ih,e,<-Jx,<-Jx,Ld]
def HW{ys:List (List Nat)}:∀{us:List Á},ĳ (ys.map λl=>V.str<|S l) us->StrsAre us (ys.map S):=by
 induction ys with
 |nil=>intro us r;rw[ž]at r;cases r;exact .nil|cons y ys ih=>
  intro us r;rw[Ó]at r;cases r with
  |cons r1 r2=>obtain⟨t,rfl⟩:=r1;exact .cons _ t<|ih r2
def Fj(K:Î):V->List V->Hp->VK->Prop:=λx vs H Q=>match x,vs with
 |.str z,[.ref p]=>∃ys:List (List Nat),Ϫ K H p (ys.map λl=>V.str<|S l)/\(ys.map bq).sum+ys.length*z.length<=16777216/\Q (.str<|S<|Ė z.cps.toList ys) H
 |_,_=>False
def mz:Nc X "str.join" (Fj X.K):=by
 intro Æ s a H x xs v us Q I rx rs h;unfold Fj at h;split at h
 ·obtain⟨ys,hS,hz,q⟩:=h;obtain⟨t,rfl⟩:=rx;obtain⟨u,rfl,ru⟩:=vals1 rs;cases ru;obtain⟨č,rv,pl,_⟩:=I.list hS;refine join_list pl.isList (by simpa using HW rv) ?_ λt' k=>⟨.str _,H,I.tok _,⟨t',?_⟩,q⟩
  ·have e1:((ys.map S).map (·.length))=ys.map bq:=by
    rw[ę];exact lA λl _=>Jw l
   rw[e1,Ę];exact hz
  ·unfold Txt.join;rw[StrLaws.glued_eq_join,Dd]
 ·exact h.elim
end M4
namespace M5
open PySem PySem.Spec PyProof.Rows L2 M2 M3
end M5
namespace P
noncomputable def TR:È->Bool
 |.Starred .. =>false|_=>true
def Ō{e:È}{es:List È}{env:PySem.Env}(h:TR e=true):Ð (e::es) env=(false,xb e env)::Ð es env:=by cases e<;>first|rfl|cases h
def Fk{a b:È}{env:PySem.Env}(h:TR a=true)(h2:TR b=true):Ð [a,b] env=[(false,xb a env),(false,xb b env)]:=by rw[Ō h,Ō h2];rfl
open PySem PySem.Spec PyProof.Rows L2 M2
structure KK where
 K:Î
 cm:String->À
noncomputable abbrev kk(X:Cx)(cm:String->À):KK:=⟨X.K,cm⟩
inductive PV where
 |non|bl (b:Bool)|int (i:Int)|str (x:Str)|tup (xs:List PV)|lst (xs:List PV)
 |ins (C:String) (ns:List Str) (xs:List PV)|xc (C:String) (ns:List Str) (xs:List PV)|ty (n:String)|cls (C:String)|zn (ks:List Str) (xs:List PV)
noncomputable def xo(a C:À)(d:Option À):HO:=.ext λh=>∃o vs,h.get? a=some o/\o.cls=.ref C/\o.dict=d/\o.data=.fields vs
def zo(F:Hp)(d:Option À)(fs:List (Str×V)):Prop:=(d=none/\fs=[])\/∃a,d=some a/\F a=some (.xd fs)
mutual
def ă(K:KK)(F:Hp):PV->V->Prop
 |.non,v=>v=.non|.bl b,v=>v=.bl b|.int i,v=>v=.int i|.str x,v=>v=.str x|.tup ps,v=>∃a xs,v=.ref a/\gk K.K F a xs/\â K F ps xs|.lst ps,v=>∃a xs,v=.ref a/\Ϫ K.K F a xs/\â K F ps xs|.ins C ns ps,v=>∃a dx fs,v=.ref a/\F a=some (.ins (K.cm C) dx fs)/\fs.map (·.1)=ns/\â K F ps (fs.map (·.2))|.xc C ns ps,v=>∃a d fs,v=.ref a/\F a=some (xo a (K.cm C) d)/\zo F d fs/\fs.map (·.1)=ns/\â K F ps (fs.map (·.2))|.ty n,v=>v=.ty n|.cls C,v=>v=.ref (K.cm C)|.zn ks ps,v=>∃a us,v=.ref a/\F a=some (.dK us)/\us.map (·.1)=ks.map .inr/\â K F ps (us.map (·.2))
def â(K:KK)(F:Hp):List PV->List V->Prop
 |[],xs=>xs=[]|p::ps,xs=>∃x r,xs=x::r/\ă K F p x/\â K F ps r
end
section
variable{K:KK}{F F':Hp}
def zo.same{d:Option À}{fs:List (Str×V)}(e:Ù F F')(h:zo F d fs):zo F' d fs:=by
 rcases h with h|⟨a,h1,h2⟩
 ·exact .inl h
 ·exact .inr ⟨a,h1,e _ _ h2⟩
mutual
theorem ă.same(e:Ù F F'):∀(p:PV) (v:V),ă K F p v->ă K F' p v
 |.non,_,h=>by unfold ă at h⊢;exact h|.bl _,_,h=>by unfold ă at h⊢;exact h|.int _,_,h=>by unfold ă at h⊢;exact h|.str _,_,h=>by unfold ă at h⊢;exact h|.ty _,_,h=>by unfold ă at h⊢;exact h|.cls _,_,h=>by unfold ă at h⊢;exact h|.tup ps,_,h=>by unfold ă at h⊢;obtain⟨a,xs,h1,h2,h3⟩:=h;exact⟨a,xs,h1,Ù.tup e h2,â.same e ps xs h3⟩|.lst ps,_,h=>by unfold ă at h⊢;obtain⟨a,xs,h1,h2,h3⟩:=h;exact⟨a,xs,h1,e.seq h2,â.same e ps xs h3⟩|.ins C ns ps,_,h=>by unfold ă at h⊢;obtain⟨a,dx,fs,h1,h2,h3,h4⟩:=h;exact⟨a,dx,fs,h1,e _ _ h2,h3,â.same e ps _ h4⟩|.xc C ns ps,_,h=>by unfold ă at h⊢;obtain⟨a,d,fs,h1,h2,hd,h3,h4⟩:=h;exact⟨a,d,fs,h1,e _ _ h2,hd.same e,h3,â.same e ps _ h4⟩|.zn ks ps,_,h=>by unfold ă at h⊢;obtain⟨a,us,h1,h2,h3,h4⟩:=h;exact⟨a,us,h1,e _ _ h2,h3,â.same e ps _ h4⟩
theorem â.same(e:Ù F F'):∀(ps:List PV) (xs:List V),â K F ps xs->â K F' ps xs
 |[],_,h=>by unfold â at h⊢;exact h|p::ps,_,h=>by unfold â at h⊢;obtain⟨x,r,h1,h2,h3⟩:=h;exact⟨x,r,h1,ă.same e p x h2,â.same e ps r h3⟩
end
theorem â.pr:∀{ps:List PV}{vs:List V},â K F ps vs->Paired (ă K F) ps vs
 |[],_,h=>by unfold â at h;subst h;exact .nil|p::ps,_,h=>by unfold â at h;obtain⟨x,r,rfl,h2,h3⟩:=h;exact .cons h2<|â.pr h3
theorem â.of:∀{ps:List PV}{vs:List V},Paired (ă K F) ps vs->â K F ps vs
 |[],_,.nil=>by unfold â;rfl|p::ps,_,.cons h t=>by unfold â;exact⟨_,_,rfl,h,â.of t⟩
theorem â.nil:â K F [] []:=â.of .nil
theorem â.cons{p:PV}{v:V}{ps:List PV}{vs:List V}(h:ă K F p v)(t:â K F ps vs):â K F (p::ps) (v::vs):=â.of<|.cons h t.pr
theorem â.length{ps:List PV}{vs:List V}(h:â K F ps vs):ps.length=vs.length:=Paired.length h.pr
theorem dR{α β:Type}{G:α->β->Prop}:∀{l:List α}{m:List β}{i:Nat}{x:α},Paired G l m->l[i]?=some x->∃y,m[i]?=some y/\G x y
 |_,_,_,_,.nil,e=>by simp at e|_,_,0,_,.cons r _,e=>by simp at e;subst e;exact⟨_,rfl,r⟩|_,_,i+1,x,.cons _ t,e=>by obtain⟨y,h1,h2⟩:=dR (i:=i) (x:=x) t (by simpa using e);exact⟨y,by simpa using h1,h2⟩
theorem Co{α β:Type}{G:α->β->Prop}:∀{l:List α}{m:List β}{i:Nat}{y:β},Paired G l m->m[i]?=some y->∃x,l[i]?=some x/\G x y
 |_,_,_,_,.nil,e=>by simp at e|_,_,0,_,.cons r _,e=>by simp at e;subst e;exact⟨_,rfl,r⟩|_,_,i+1,y,.cons _ t,e=>by obtain⟨x,h1,h2⟩:=Co (i:=i) (y:=y) t (by simpa using e);exact⟨x,by simpa using h1,h2⟩
theorem tQ{α β:Type}{G:α->β->Prop}:∀{l l2:List α}{m m2:List β},Paired G l m->Paired G l2 m2->Paired G (l++l2) (m++m2)
 |_,_,_,_,.nil,t=>t|_,_,_,_,.cons r s,t=>.cons r<|tQ s t
theorem Fm{α β:Type}{G:α->β->Prop}{x:α}{y:β}(r:G x y):∀{l:List α}{m:List β} (i:Nat),Paired G l m->Paired G (l.set i x) (m.set i y)
 |_,_,_,.nil=>.nil|_,_,0,.cons _ t=>.cons r t|_,_,i+1,.cons q t=>.cons q<|Fm r i t
theorem Cp{α β:Type}{G:α->β->Prop}:∀{l:List α}{m:List β} (n:Nat),Paired G l m->Paired G (l.take n) (m.take n)
 |_,_,0,_=>.nil|_,_,_+1,.nil=>.nil|_,_,n+1,.cons r t=>.cons r<|Cp n t
theorem Cq{α β:Type}{G:α->β->Prop}:∀{l:List α}{m:List β} (n:Nat),Paired G l m->Paired G (l.drop n) (m.drop n)
 |_,_,0,h=>h|_,_,_+1,.nil=>.nil|_,_,n+1,.cons _ t=>Cq n t
def â.append{ps qs:List PV}{vs us:List V}(h:â K F ps vs)(t:â K F qs us):â K F (ps++qs) (vs++us):=â.of<|tQ h.pr t.pr
end
inductive Slot where
 |no|sh (p:PV)|ow (ps:List PV)|bw (ps:List PV)|rc (C:String) (ns:List Str) (ps:List PV)|ot (ps qs rs:List PV)|ol (qF:List (List PV))|fr (qF:List (List PV))|bn (qs rows:List PV)|dw (ie:List (List PV×List PV))|pw (ps:List PV)|pin
abbrev Ć:=List Slot
abbrev ŗ:=Slot
noncomputable def Slot.own:Slot->Bool
 |.ow _=>true|.rc _ _ _=>true|.ot _ _ _=>true|.ol _=>true|.fr _=>true|.pw _=>true|.pin=>true|_=>false
structure Ctx where
 B:Hp
 F₀:Hp
 L:Hp
 S:À->À->String->Prop
noncomputable def Jy(F:Hp)(a b:À):Hp:=λx=>if x=a\/x=b then none else F x
def nD(K:KK)(B F:Hp)(t:Bool)(ps qs rows:List PV)(v:V):Prop:=∃a b ys vs,F a=some (.lst (.ref b::ys))/\F b=some (.lst vs)/\B a=none/\B b=none/\a≠b/\â K (Jy F a b) qs vs/\â K (Jy F a b) rows ys/\((t=false/\ps=[]/\v=.ref a)\/t=true/\∃p xs,v=.ref p/\F p=some (.tup<|xs++[.ref a])/\â K (Jy F a b) ps xs)
def aZ(K:KK)(c:Ctx)(F H:Hp)(o:Option V):Slot->Prop
 |.no=>True|.sh p=>∃v,o=some v/\ă K F p v|.ow ps=>∃a vs,o=some (.ref a)/\H a=some (.lst vs)/\F a=none/\c.B a=none/\â K F ps vs|.bw ps=>∃a vs,o=some (.ref a)/\c.L a=some (.lst vs)/\â K F ps vs|.rc C ns ps=>∃a dx fs,o=some (.ref a)/\H a=some (.ins (K.cm C) dx fs)/\F a=none/\c.B a=none/\fs.map (·.1)=ns/\â K F ps (fs.map (·.2))/\c.S a dx C|.ot ps qs rs=>∃p a xs vs ys,o=some (.ref p)/\F p=some (.tup (xs++.ref a::ys))/\â K F ps xs/\H a=some (.lst vs)/\F a=none/\c.B a=none/\â K F qs vs/\â K F rs ys|.ol qF=>∃(p:À) (as:List À),o=some (.ref p)/\F p=some (.lst<|as.map V.ref)/\as.Nodup/\Paired (λ(a:À) (ps:List PV)=>∃vs,H a=some (.lst vs)/\F a=none/\c.B a=none/\â K F ps vs) as qF
 |.fr qF=>∃(p:À) (as:List À),o=some (.ref p)/\H p=some (.lst<|as.map V.ref)/\F p=none/\c.B p=none/\as.Nodup/\Paired (λ(a:À) (ps:List PV)=>∃vs,F a=some (.lst vs)/\c.B a=none/\â K F ps vs) as qF
 |.bn qs rows=>∃v,o=some v/\nD K c.B F false [] qs rows v|.pw ps=>∃a vs,o=some (.ref a)/\H a=some (.lst vs)/\F a=none/\c.B a=none/\â K F ps vs/\c.S a a ""|.pin=>∃a,o=some (.ref a)/\c.S a a "#"|.dw ie=>∃(a:À) (ts:List À),o=some (.ref a)/\c.L a=some (.lst<|ts.map V.ref)/\Paired (λ(t:À) (d:List PV×List PV)=>∃xs b vs,F t=some (.tup<|xs++[.ref b])/\â K F d.1 xs/\c.L b=some (.lst vs)/\â K F d.2 vs) ts ie
def Slot.at_(F:Hp)(x:V)(a:À):Slot->Prop
 |.ot ps _ _=>∃p xs ys,x=.ref p/\F p=some (.tup (xs++.ref a::ys))/\xs.length=ps.length|.ol _=>∃(p:À) (as:List À),x=.ref p/\F p=some (.lst<|as.map V.ref)/\a∈as|.ow _=>x=.ref a|.fr _=>x=.ref a|.pw _=>x=.ref a|.rc _ _ _=>x=.ref a|_=>False
def Ŏ(F:Hp)(b:Ċ)(c:Ć)(i:Nat)(a:À):Prop:=∃s x,c[i]?=some s/\b[i]?=some (some x)/\s.at_ F x a
structure ě(K:KK)(c:Ctx)(F H:Hp)(σ:Ċ)(ρ:Ć):Prop where
 sub:Ù F H
 base:Ù c.B H
 f0:Ù c.F₀ F
 gj:∀a,c.B a≠none->c.F₀ a=none->F a=none
 lent:∀a u,c.L a=some u->H a=some u/\F a=none
 lb:∀a,c.B a=none->c.L a=none
 len:σ.length=ρ.length
 slot:∀(i:Nat) s,ρ[i]?=some s->aZ K c F H ((σ[i]?).getD none) s
 sep:∀i j a,Ŏ F σ ρ i a->Ŏ F σ ρ j a->i=j
def fq(F:Hp)(b:Ċ)(c:Ć)(a:À):Prop:=∀i,¬Ŏ F b c i a
section
variable{K:KK}{c:Ctx}{F F' H H':Hp}{σ:Ċ}{ρ:Ć}{a:À}{o:HO}
def nE{s:Slot}{x:V}(h:s.at_ F x a):s.own=true:=by cases s<;>first|rfl|exact h.elim
theorem tU:∀{as bs:List À},as.map V.ref=bs.map V.ref->as=bs
 |[],[],_=>rfl|[],_::_,h=>by cases h|_::_,[],h=>by cases h|a::as,b::bs,h=>by
  injection h with h1 h2
  injection h1 with h1
  rw[h1,tU h2]
def oV{ps qs rs:List PV}{x:V}{b:À}(h:(Slot.ot ps qs rs).at_ F x a)(h':(Slot.ot ps qs rs).at_ F x b):a=b:=by
 obtain⟨p,xs,us,h1,h2,l1⟩:=h;obtain⟨q,ys,ws,h3,h4,l2⟩:=h';rw[h1]at h3;cases h3;rw[h2]at h4;have e:xs++V.ref a::us=ys++V.ref b::ws:=by
  injection h4 with h4
  injection h4
 have e2:=(List.append_inj e<|by lia).2;injection e2 with e2
 injection e2
theorem Fn{α β:Type}{G:α->β->Prop}:∀{l:List α}{m:List β}{x:α},Paired G l m->x∈l->∃y,y∈m/\G x y
 |_,_,_,.nil,h=>by simp at h|_,_,x,.cons r t,h=>by
  rcases þ.mp h with rfl|h
  ·exact⟨_,ł,r⟩
  ·obtain⟨y,h1,h2⟩:=Fn t h;exact⟨y,õ _ h1,h2⟩
theorem ig{α β:Type}{G G':α->β->Prop}:∀{l:List α}{m:List β},Paired G l m->(∀x y,x∈l->G x y->G' x y)->Paired G' l m
 |_,_,.nil,_=>.nil|_,_,.cons r t,h=>.cons (h _ _ ł r)<|ig t λx y hx=>h x y<|õ _ hx
def tX{a b:À}(e:Ù F F'):Ù (Jy F a b) (Jy F' a b):=λx u h=>by
 unfold Jy at h⊢;split at h
 ·cases h
 ·rename_i n;rw[if_neg n];exact e x u h
def xV{a b:À}:Ù (Jy F a b) F:=λx u h=>by
 unfold Jy at h;split at h
 ·cases h
 ·exact h
theorem nD.same{B:Hp}{t:Bool}{ps qs rows:List PV}{v:V}(h:nD K B F t ps qs rows v)(e:Ù F F'):nD K B F' t ps qs rows v:=by obtain⟨a,b,ys,vs,h1,h2,h3,h4,h5,h6,h7,h8⟩:=h;refine⟨a,b,ys,vs,e _ _ h1,e _ _ h2,h3,h4,h5,h6.same (tX e) qs vs,h7.same (tX e) rows ys,h8.imp id λ⟨z,p,xs,q1,q2,q3⟩=>⟨z,p,xs,q1,e _ _ q2,q3.same (tX e) ps xs⟩⟩
def nD.base{B B':Hp}{t:Bool}{ps qs rows:List PV}{v:V}(h:nD K B F t ps qs rows v)(e:Ù B' B):nD K B' F t ps qs rows v:=by obtain⟨a,b,ys,vs,h1,h2,h3,h4,h5,h6,h7,h8⟩:=h;exact⟨a,b,ys,vs,h1,h2,e.free h3,e.free h4,h5,h6,h7,h8⟩
noncomputable def Rh(t:Bool)(ps qs rows:List PV):PV:=if t then .tup (ps++[.lst (.lst qs::rows)])else .lst (.lst qs::rows)
def nD.rep{B:Hp}{t:Bool}{ps qs rows:List PV}{v:V}(h:nD K B F t ps qs rows v):ă K F (Rh t ps qs rows) v:=by
 obtain⟨a,b,ys,vs,h1,h2,h3,h4,h5,h6,h7,h8⟩:=h;have e1:ă K F (.lst qs) (.ref b):=by unfold ă;exact⟨b,vs,rfl,Ϫ.of h2,h6.same xV qs vs⟩
 have e2:ă K F (.lst (.lst qs::rows)) (.ref a):=by unfold ă;exact⟨a,_,rfl,Ϫ.of h1,â.cons e1<|h7.same xV rows ys⟩
 rcases h8 with⟨rfl,rfl,rfl⟩|⟨rfl,p,xs,rfl,q2,q3⟩
 ·exact e2
 ·show ă K F (.tup<|ps++[.lst (.lst qs::rows)]) (.ref p);unfold ă;exact⟨p,_,rfl,gk.of q2,â.append (q3.same xV ps xs)<|â.cons e2 â.nil⟩
def aZ.grow{s:Slot}{x:Option V}(h:aZ K c F H x s)(eF:Ù F F')(eH:∀b vs,(∃y,x=some y/\s.at_ F y b)->H b=some vs->F b=none->c.B b=none->H' b=some vs/\F' b=none):aZ K c F' H' x s:=by
 cases s with
 |no=>trivial|sh p=>obtain⟨v,h1,h2⟩:=h;exact⟨v,h1,h2.same eF p v⟩|ow ps=>obtain⟨b,vs,h1,h2,h3,h4,h5⟩:=h;obtain⟨e1,e2⟩:=eH b _ ⟨_,h1,rfl⟩ h2 h3 h4;exact⟨b,vs,h1,e1,e2,h4,h5.same eF ps vs⟩|bw ps=>obtain⟨b,vs,h1,h2,h3⟩:=h;exact⟨b,vs,h1,h2,h3.same eF ps vs⟩|rc C ns ps=>obtain⟨b,dx,fs,h1,h2,h3,h4,h5,h6⟩:=h;obtain⟨e1,e2⟩:=eH b _ ⟨_,h1,rfl⟩ h2 h3 h4;exact⟨b,dx,fs,h1,e1,e2,h4,h5,h6.1.same eF ps _,h6.2⟩|ot ps qs rs=>obtain⟨p,b,xs,vs,ys,h1,h2,h3,h4,h5,h6,h7,h8⟩:=h;obtain⟨e1,e2⟩:=eH b _ ⟨_,h1,p,xs,ys,rfl,h2,h3.length.symm⟩ h4 h5 h6;exact⟨p,b,xs,vs,ys,h1,eF _ _ h2,h3.same eF ps xs,e1,e2,h6,h7.same eF qs vs,h8.same eF rs ys⟩|ol qF=>obtain⟨p,as,h1,h2,h3,h4⟩:=h;refine⟨p,as,h1,eF _ _ h2,h3,ig h4 λb ps hb zz=>?_⟩;obtain⟨vs,k1,k2,k3,k4⟩:=zz;obtain⟨e1,e2⟩:=eH b _ ⟨_,h1,p,as,rfl,h2,hb⟩ k1 k2 k3;exact⟨vs,e1,e2,k3,k4.same eF ps vs⟩
 |fr qF=>obtain⟨b,as,h1,h2,h3,h4,h5,h6⟩:=h;obtain⟨e1,e2⟩:=eH b _ ⟨_,h1,rfl⟩ h2 h3 h4;exact⟨b,as,h1,e1,e2,h4,h5,ig h6 λd ps _ ⟨vs,k1,k2,k3⟩=>⟨vs,eF _ _ k1,k2,k3.same eF ps vs⟩⟩
 |bn qs rows=>obtain⟨v,h1,h2⟩:=h;exact⟨v,h1,h2.same eF⟩|pin=>exact h|pw ps=>obtain⟨b,vs,h1,h2,h3,h4,h5,h6⟩:=h;obtain⟨e1,e2⟩:=eH b _ ⟨_,h1,rfl⟩ h2 h3 h4;exact⟨b,vs,h1,e1,e2,h4,h5.same eF ps vs,h6⟩|dw ie=>obtain⟨a,ts,h1,h2,h3⟩:=h;exact⟨a,ts,h1,h2,ig h3 λt d _ ⟨xs,b,vs,k1,k2,k3,k4⟩=>⟨xs,b,vs,eF _ _ k1,k2.same eF d.1 xs,k3,k4.same eF d.2 vs⟩⟩
def aZ.owned{s:Slot}{y:V}(h:aZ K c F H (some y) s)(ha:s.at_ F y a):∃u,H a=some u/\F a=none/\c.B a=none:=by
 cases s with
 |no=>exact ha.elim|sh p=>exact ha.elim|bw ps=>exact ha.elim|bn qs rows=>exact ha.elim|dw ie=>exact ha.elim|pin=>exact ha.elim|pw ps=>obtain⟨b,vs,h1,h2,h3,h4,h5,h6⟩:=h;rw[show y=.ref a from ha]at h1;cases h1;exact⟨_,h2,h3,h4⟩|fr qF=>obtain⟨b,as,h1,h2,h3,h4,h5,h6⟩:=h;rw[show y=.ref a from ha]at h1;cases h1;exact⟨_,h2,h3,h4⟩|ow ps=>obtain⟨b,vs,h1,h2,h3,h4,h5⟩:=h;rw[show y=.ref a from ha]at h1;cases h1;exact⟨_,h2,h3,h4⟩|rc C ns ps=>obtain⟨b,dx,fs,h1,h2,h3,h4,h5,h6⟩:=h;rw[show y=.ref a from ha]at h1;cases h1;exact⟨_,h2,h3,h4⟩|ot ps qs rs=>obtain⟨p,b,xs,vs,ys,h1,h2,h3,h4,h5,h6,h7,h8⟩:=h;cases h1;cases oV (ps:=ps) (qs:=qs) (rs:=rs) ha ⟨p,xs,ys,rfl,h2,h3.length.symm⟩;exact⟨_,h4,h5,h6⟩|ol qF=>obtain⟨p,as,h1,h2,h3,h4⟩:=h;cases h1;obtain⟨q,bs,e1,e2,e3⟩:=ha;cases e1;rw[h2]at e2;have e:as=bs:=tU (by injection e2 with e2;injection e2);subst e;obtain⟨ps,_,vs,k1,k2,k3,_⟩:=Fn h4 e3;exact⟨_,k1,k2,k3⟩
def aZ.back{s:Slot}{y:V}(h:aZ K c F H (some y) s)(e:Ù F F')(ha:s.at_ F' y a):s.at_ F y a:=by
 cases s with
 |ot ps qs rs=>obtain⟨p,b,xs,vs,ys,h1,h2,h3,h4,h5,h6,h7,h8⟩:=h;cases h1;cases oV (ps:=ps) (qs:=qs) (rs:=rs) ha ⟨p,xs,ys,rfl,e _ _ h2,h3.length.symm⟩;exact⟨p,xs,ys,rfl,h2,h3.length.symm⟩|ol qF=>obtain⟨p,as,h1,h2,h3,h4⟩:=h;cases h1;obtain⟨q,bs,e1,e2,e3⟩:=ha;cases e1;rw[e _ _ h2]at e2;have z:as=bs:=tU (by injection e2 with e2;injection e2);subst z;exact⟨p,as,rfl,h2,e3⟩
 |_=>exact ha
def xW{i:Nat}{x:V}(e:σ[i]?=some (some x)):(σ[i]?).getD none=some x:=by rw[e];rfl
def AU{i:Nat}{x:V}(e:(σ[i]?).getD none=some x):σ[i]?=some (some x):=by
 cases q:σ[i]?with
 |none=>rw[q]at e;cases e|some y=>rw[q]at e;exact congrArg some e
theorem ě.owned(r:ě K c F H σ ρ){i:Nat}(h:Ŏ F σ ρ i a):(∃u,H a=some u)/\F a=none/\c.B a=none:=by obtain⟨s,x,h1,h2,h3⟩:=h;have q:=r.slot i s h1;rw[xW h2]at q;obtain⟨u,q⟩:=q.owned h3;exact⟨⟨u,q.1⟩,q.2⟩
theorem ě.back(r:ě K c F H σ ρ)(e:Ù F F'){i:Nat}(h:Ŏ F' σ ρ i a):Ŏ F σ ρ i a:=by obtain⟨s,x,h1,h2,h3⟩:=h;have q:=r.slot i s h1;rw[xW h2]at q;exact⟨s,x,h1,h2,q.back e h3⟩
def ě.Lf(r:ě K c F H σ ρ)(e:Ù F F'):∀i j a,Ŏ F' σ ρ i a->Ŏ F' σ ρ j a->i=j:=λi j a h1 h2=>r.sep i j a (r.back e h1)<|r.back e h2
def ě.jP(r:ě K c F H σ ρ)(e:Ù F F')(h:fq F σ ρ a):fq F' σ ρ a:=λi q=>h i<|r.back e q
def ě.fresh(r:ě K c F H σ ρ)(h:H a=none):fq F σ ρ a:=λi q=>by obtain⟨⟨u,e⟩,_⟩:=r.owned q;rw[h]at e;cases e
def ě.alloc(r:ě K c F H σ ρ)(h:H a=none):ě K c (upd F a o) (upd H a o) σ ρ where
 sub:=λb u e=>by
  by_cases hb:b=a
  ·subst hb;rw[ö]at e⊢;exact e
  ·rw[î hb]at e⊢;exact r.sub b u e
 base:=λb u e=>by
  have hb:b≠a:=λz=>by rw[z]at e;rw[r.base _ _ e]at h;cases h
  rw[î hb];exact r.base b u e
 f0:=fun b u e=>by
   have hb:b≠a:=λz=>by rw[z]at e;rw[r.sub _ _<|r.f0 _ _ e]at h;cases h
   rw[î hb];exact r.f0 b u e
 gj:=λb h1 h2=>by
  have hb:b≠a:=λz=>by
   subst z;cases q:c.B b with
   |none=>exact h1 q|some u=>rw[r.base _ _ q]at h;cases h
  rw[î hb];exact r.gj b h1 h2
 lent:=λb u e=>by
  obtain⟨h1,h2⟩:=r.lent b u e;have hb:b≠a:=λz=>by rw[z,h]at h1;cases h1
  rw[î hb,î hb];exact⟨h1,h2⟩
 lb:=r.lb
 len:=r.len
 slot:=λi s e=>by
  have hF:F a=none:=r.sub.free h;refine(r.slot i s e).grow (Ù.upd hF) λb u _ h1 h2 h3=>?_;have hb:b≠a:=λz=>by rw[z,h]at h1;cases h1
  rw[î hb,î hb];exact⟨h1,h2⟩
 sep:=r.Lf<|Ù.upd<|r.sub.free h
def ě.made(r:ě K c F H σ ρ)(h:H a=none):ě K c F (upd H a o) σ ρ where
 sub:=r.sub.trans (Ù.upd h)
 base:=r.base.trans (Ù.upd h)
 f0:=r.f0
 gj:=r.gj
 lent:=λb u e=>⟨Ù.upd h b u (r.lent b u e).1,(r.lent b u e).2⟩
 lb:=r.lb
 len:=r.len
 slot:=λi s e=>(r.slot i s e).grow (Ù.refl F) λb u _ h1 h2 h3=>⟨Ù.upd h b u h1,h2⟩
 sep:=r.sep
def ě.freeze(r:ě K c F H σ ρ)(h:H a=some o)(hB:c.B a=none)(hF:F a=none)(hf:fq F σ ρ a):ě K c (upd F a o) H σ ρ where
 sub:=λb u e=>by
  by_cases hb:b=a
  ·subst hb;rw[ö]at e;rw[h];exact e
  ·rw[î hb]at e;exact r.sub b u e
 base:=r.base
 f0:=r.f0.trans (Ù.upd hF)
 gj:=λb h1 h2=>by have hb:b≠a:=λz=>h1 (by rw[z];exact hB);rw[î hb];exact r.gj b h1 h2
 lent:=λb u e=>by
  have hb:b≠a:=λz=>by rw[z,r.lb a hB]at e;cases e
  rw[î hb];exact r.lent b u e
 lb:=r.lb
 len:=r.len
 slot:=λi s e=>(r.slot i s e).grow (Ù.upd hF)<|by
  rintro b' u' ⟨y,W_,ha⟩ h1 h2 h3;have hb:b'≠a:=λz=>by subst z;exact hf i ⟨s,y,e,AU W_,ha⟩
  rw[î hb];exact⟨h1,h2⟩
 sep:=r.Lf<|Ù.upd hF
def af{α:Type}{l:List α}{i j:Nat}{x y:α}(h:(l.set i x)[j]?=some y):(j=i/\y=x/\i<l.length)\/(j≠i/\l[j]?=some y):=by
 by_cases hj:j=i
 ·subst hj;have hl:j<l.length:=by
   have:=(fC.mp h).1;simpa using this
  rw[oa hl]at h;exact .inl ⟨rfl,(Ś h).symm,hl⟩
 ·rw[lv<|đ hj]at h;exact .inr ⟨hj,h⟩
def Fo{l:Ċ}{i:Nat}{x:Option V}(h:i<l.length):((l.set i x)[i]?).getD none=x:=by rw[oa h];rfl
def Cr{l:Ċ}{i j:Nat}{x:Option V}(h:j≠i):((l.set i x)[j]?).getD none=(l[j]?).getD none:=by rw[lv<|đ h]
def Ŏ.off{i j:Nat}{x:Option V}{s:Slot}(h:Ŏ F (σ.set i x) (ρ.set i s) j a)(hj:j≠i):Ŏ F σ ρ j a:=by obtain⟨s',y,h1,h2,h3⟩:=h;rw[lv<|đ hj]at h1 h2;exact⟨s',y,h1,h2,h3⟩
def ě.put(r:ě K c F H σ ρ){i:Nat}{x:Option V}{s:Slot}(hs:s.own=false)(h:aZ K c F H x s):ě K c F H (σ.set i x) (ρ.set i s) where
 sub:=r.sub
 base:=r.base
 f0:=r.f0
 gj:=r.gj
 lent:=r.lent
 lb:=r.lb
 len:=by simpa using r.len
 slot:=λj s' e=>by
  rcases af e with⟨rfl,rfl,hl⟩|⟨hj,e⟩
  ·rw[Fo (by rw[r.len];exact hl)];exact h
  ·rw[Cr hj];exact r.slot j s' e
 sep:=λj k b h1 h2=>by
  have off:∀{j},Ŏ F (σ.set i x) (ρ.set i s) j b->j≠i:=fun{j} q z=>by
   subst z;obtain⟨s',y,q1,_,q2⟩:=q;rcases af q1 with⟨_,rfl,_⟩|⟨q,_⟩
   ·have:=nE q2;rw[hs]at this;cases this
   ·exact q rfl
  exact r.sep j k b (h1.off<|off h1)<|h2.off<|off h2
def ě.Cs(r:ě K c F H σ ρ){i:Nat}{s:Slot}(hs:s.own=false)(h:aZ K c F H ((σ[i]?).getD none) s):ě K c F H σ (ρ.set i s) where
 sub:=r.sub
 base:=r.base
 f0:=r.f0
 gj:=r.gj
 lent:=r.lent
 lb:=r.lb
 len:=by simpa using r.len
 slot:=λj s' e=>by
  rcases af e with⟨rfl,rfl,hl⟩|⟨hj,e⟩
  ·exact h
  ·exact r.slot j s' e
 sep:=λj k b h1 h2=>by
  have off:∀{j},Ŏ F σ (ρ.set i s) j b->Ŏ F σ ρ j b:=fun{j} ⟨s',y,q1,q3,q2⟩=>by
   rcases af q1 with⟨_,rfl,_⟩|⟨_,q⟩
   ·have:=nE q2;rw[hs]at this;cases this
   ·exact⟨s',y,q,q3,q2⟩
  exact r.sep j k b (off h1)<|off h2
def ě.DR(r:ě K c F H σ ρ){i:Nat}{x:V}{s:Slot}(h:aZ K c F H (some x) s)(hf:∀a,s.at_ F x a->fq F σ ρ a):ě K c F H (σ.set i<|some x) (ρ.set i s) where
 sub:=r.sub
 base:=r.base
 f0:=r.f0
 gj:=r.gj
 lent:=r.lent
 lb:=r.lb
 len:=by simpa using r.len
 slot:=λj s' e=>by
  rcases af e with⟨rfl,rfl,hl⟩|⟨hj,e⟩
  ·rw[Fo (by rw[r.len];exact hl)];exact h
  ·rw[Cr hj];exact r.slot j s' e
 sep:=λj k b h1 h2=>by
  have Lg:∀{j},Ŏ F (σ.set i<|some x) (ρ.set i s) j b->(j=i/\s.at_ F x b)\/(j≠i/\Ŏ F σ ρ j b):=fun{j} q=>by
   by_cases hj:j=i
   ·subst hj;obtain⟨s',y,q1,q2,q3⟩:=q;rcases af q2 with⟨_,e,_⟩|⟨z,_⟩
    ·cases e;rcases af q1 with⟨_,e,_⟩|⟨z,_⟩
     ·cases e;exact .inl ⟨rfl,q3⟩
     ·exact absurd rfl z
    ·exact absurd rfl z
   ·exact .inr ⟨hj,q.off hj⟩
  rcases Lg h1 with⟨e1,z1⟩|⟨e1,o1⟩
  ·rcases Lg h2 with⟨e2,z2⟩|⟨e2,o2⟩
   ·rw[e1,e2]
   ·exact absurd o2<|hf b z1 k
  ·rcases Lg h2 with⟨e2,z2⟩|⟨e2,o2⟩
   ·exact absurd o1<|hf b z2 j
   ·exact r.sep j k b o1 o2
def ě.Li(r:ě K c F H σ ρ){i:Nat}{s:Slot}(ho:Ŏ F σ ρ i a)(h:aZ K c F (upd H a o) ((σ[i]?).getD none) s)(hs:∀x b,σ[i]?=some (some x)->s.at_ F x b->Ŏ F σ ρ i b):ě K c F (upd H a o) σ (ρ.set i s) where
 sub:=λb u e=>by
  have hb:b≠a:=λz=>by rw[z,(r.owned ho).2.1]at e;cases e
  rw[î hb];exact r.sub b u e
 base:=λb u e=>by
  have hb:b≠a:=λz=>by rw[z,(r.owned ho).2.2]at e;cases e
  rw[î hb];exact r.base b u e
 f0:=r.f0
 gj:=r.gj
 lent:=λb u e=>by
  have hb:b≠a:=λz=>by rw[z,r.lb a (r.owned ho).2.2]at e;cases e
  rw[î hb];exact r.lent b u e
 lb:=r.lb
 len:=by simpa using r.len
 slot:=λj s' e=>by
  rcases af e with⟨rfl,rfl,hl⟩|⟨hj,e⟩
  ·exact h
  ·refine(r.slot j s' e).grow (Ù.refl F) λb u ⟨y,e1,e2⟩ h1 h2 h3=>?_;have hb:b≠a:=λz=>by
    subst z;exact hj<|r.sep j i b ⟨s',y,e,AU e1,e2⟩ ho
   exact⟨by rw[î hb];exact h1,h2⟩
 sep:=λj k b h1 h2=>by
  have off:∀{j},Ŏ F σ (ρ.set i s) j b->Ŏ F σ ρ j b:=fun{j} ⟨s',y,q1,q3,q2⟩=>by
   rcases af q1 with⟨e,rfl,_⟩|⟨_,q⟩
   ·subst e;exact hs y b q3 q2
   ·exact⟨s',y,q,q3,q2⟩
  exact r.sep j k b (off h1)<|off h2
def ě.write(r:ě K c F H σ ρ){i:Nat}{s:Slot}(ho:Ŏ F σ ρ i a)(hx:σ[i]?=some (some<|.ref a))(h:aZ K c F (upd H a o) (some<|.ref a) s)(hs:∀b,s.at_ F (.ref a) b->b=a):ě K c F (upd H a o) σ (ρ.set i s):=
 r.Li ho (by rw[hx];exact h) λx b e q=>by rw[hx]at e;cases e;rw[hs b q];exact ho
structure Gr(F H F' H':Hp):Prop where
 h:Ù H H'
 f:Ù F F'
 sub:Ù F' H'
 out:∀a,H a≠none->F a=none->F' a=none
def ě.call(r:ě K c F H σ ρ)(g:Gr F H F' H'):ě K c F' H' σ ρ where
 sub:=g.sub
 base:=r.base.trans g.h
 f0:=r.f0.trans g.f
 gj:=λb h1 h2=>by
  refine g.out b (λz=>h1 ?_)<|r.gj b h1 h2;cases q:c.B b with
  |none=>rfl|some u=>rw[r.base _ _ q]at z;cases z
 lent:=λb u e=>⟨g.h b u (r.lent b u e).1,g.out b (by rw[(r.lent b u e).1];intro z;cases z) (r.lent b u e).2⟩
 lb:=r.lb
 len:=r.len
 slot:=λi s e=>(r.slot i s e).grow g.f λb u _ h1 h2 h3=>⟨g.h b u h1,g.out b (by rw[h1];intro z;cases z) h2⟩
 sep:=r.Lf g.f
noncomputable def dY(F H:Hp):Ctx:=⟨H,F,λa=>match F a with
 |none=>H a|some _=>none,λ_ _ _=>True⟩
def aD{a:À}{u:HO}(h:(dY F H).L a=some u):H a=some u/\F a=none:=by
 unfold dY at h;dsimp only at h;cases q:F a with
 |none=>rw[q]at h;exact⟨h,rfl⟩|some o=>rw[q]at h;cases h
def ě.gr(r:ě K (dY F H) F' H' σ ρ):Gr F H F' H':=⟨r.base,r.f0,r.sub,r.gj⟩
def dL(K:KK)(F H:Hp):Slot->V->Prop
 |.sh p,v=>ă K F p v|.bw ps,v=>∃a vs,v=.ref a/\H a=some (.lst vs)/\F a=none/\â K F ps vs|.dw ie,v=>∃(a:À) (ts:List À),v=.ref a/\H a=some (.lst<|ts.map V.ref)/\F a=none/\Paired (λ(t:À) (d:List PV×List PV)=>∃xs b vs,F t=some (.tup<|xs++[.ref b])/\â K F d.1 xs/\(H b=some (.lst vs)/\F b=none)/\â K F d.2 vs) ts ie
 |_,_=>False
def dL.slot{s:Slot}{v:V}(h:dL K F H s v):aZ K (dY F H) F H (some v) s/\s.own=false:=by
 cases s with
 |sh p=>exact⟨⟨v,rfl,h⟩,rfl⟩|bw ps=>obtain⟨a,vs,rfl,h1,h2,h3⟩:=h;refine⟨⟨a,vs,rfl,?_,h3⟩,rfl⟩;show(match F a with|none=>H a|some _=>none)=_;rw[h2];exact h1
 |no=>exact h.elim|ow ps=>exact h.elim|rc C ns ps=>exact h.elim|ot ps qs rs=>exact h.elim|ol qF=>exact h.elim|fr qF=>exact h.elim|pw ps=>exact h.elim|pin=>exact h.elim|bn qs rows=>exact h.elim|dw ie=>
  obtain⟨a,ts,rfl,h1,h2,h3⟩:=h;have lt:∀{x:À}{u:HO},H x=some u->F x=none->(dY F H).L x=some u:=fun{x u} e1 e2=>by show(match F x with|none=>H x|some _=>none)=_;rw[e2];exact e1
  exact⟨⟨a,ts,rfl,lt h1 h2,ig h3 λt d _ ⟨xs,b,vs,k1,k2,k3,k4⟩=>⟨xs,b,vs,k1,k2,lt k3.1 k3.2,k4⟩⟩,rfl⟩
noncomputable def Ŀ(n:Nat)(as:List Slot):Ć:=as++ç (n-as.length) .no
theorem ě.start{N:List Str}{as:List Slot}{vs:List V}(s:Ù F H)(h:Paired (dL K F H) as vs):ě K (dY F H) F H (L2.start N vs) (Ŀ N.length as) where
 sub:=s
 base:=Ù.refl H
 f0:=Ù.refl F
 gj:=λ_ _ h=>h
 lent:=λ_ _ e=>aD e
 lb:=fun a e=>by
   cases q:(dY F H).L a with
   |none=>rfl|some u=>have e':H a=none:=e;rw[(aD q).1]at e';cases e'
 len:=by unfold L2.start Ŀ;simp[Paired.length h]
 slot:=λi s' e=>by
  unfold Ŀ at e;by_cases hi:i<as.length
  ·rw[fG hi]at e;obtain⟨v,h1,h2⟩:=dR h e;have hv:((L2.start N vs)[i]?).getD none=some v:=by
    unfold L2.start;rw[fG (by simpa[<-Paired.length h]using hi),ů,h1];rfl
   rw[hv];exact(dL.slot h2).1
  ·rw[lx (by lia),jy]at e;split at e
   ·cases e;trivial
   ·cases e
 sep:=λi j a h1 _=>by
  obtain⟨s',y,h1,_,h2⟩:=h1;have h2:=nE h2;exfalso;unfold Ŀ at h1;by_cases hi:i<as.length
  ·rw[fG hi]at h1;obtain⟨v,_,h3⟩:=dR h h1;rw[(dL.slot h3).2]at h2;cases h2
  ·rw[lx (by lia),jy]at h1;split at h1
   ·cases h1;cases h2
   ·cases h1
end
structure PX where
 C:String
 ns:List Str
 ps:List PV
def DT(K:KK)(F:Hp)(x:PX)(C:Á)(d:Option À):Prop:=C=.ref (K.cm x.C)/\∃fs,zo F d fs/\fs.map (·.1)=x.ns/\â K F x.ps (fs.map (·.2))/\(x.ns=[]->d=none)
inductive ĵ(α:Type) where
 |ok (a:α) (ρ:Ć)|exc (x:PX) (ρ:Ć)|bad
noncomputable def ĵ.bind{α β:Type}(r:ĵ α)(f:α->Ć->ĵ β):ĵ β:=match r with
 |.ok a ρ=>f a ρ|.exc x ρ=>.exc x ρ|.bad=>.bad
@[simp]theorem ĵ.aQ{α β:Type}{a:α}{b:Ć}{f:α->Ć->ĵ β}:(ĵ.ok a b).bind f=f a b:=rfl
@[simp]theorem ĵ.Oz{α β:Type}{x:PX}{a:Ć}{f:α->Ć->ĵ β}:(ĵ.exc x a:ĵ α).bind f=.exc x a:=rfl
@[simp]theorem ĵ.OA{α β:Type}{f:α->Ć->ĵ β}:(ĵ.bad:ĵ α).bind f=.bad:=rfl
noncomputable def ĵ.zp{α:Type}(o:Option α)(ρ:Ć):ĵ α:=match o with
 |some a=>.ok a ρ|none=>.bad
@[simp]theorem ĵ.OB{α:Type}{a:α}{b:Ć}:ĵ.zp (some a) b=.ok a b:=rfl
@[simp]theorem ĵ.OC{α:Type}{a:Ć}:ĵ.zp (none:Option α) a=.bad:=rfl
abbrev M(α:Type):=Ć->ĵ α
inductive RV where
 |sh (p:PV)|ow (ps:List PV)|ot (ps qs rs:List PV)|bn (t:Bool) (ps qs rows:List PV)
def RV.val:RV->PV
 |.sh p=>p|.ow ps=>.lst ps|.ot ps qs rs=>.tup (ps++.lst qs::rs)|.bn t ps qs rows=>Rh t ps qs rows
def RV.slot:RV->Slot
 |.sh p=>.sh p|.ow ps=>.ow ps|.ot ps qs rs=>.ot ps qs rs|.bn t ps qs rows=>if t then .sh (Rh t ps qs rows)else .bn qs rows
abbrev RR(α β:Type):=Ctx->Ċ->Ć->Hp->Hp->α->β->Prop
def rV(K:KK):RR PV V:=λ_ _ _ F _ p v=>ă K F p v
def Ct(K:KK)(F H:Hp)(p:PV)(v:V):Prop:=match p with
 |.lst ps=>∃a vs,v=.ref a/\H a=some (.lst vs)/\â K F ps vs|.ins C ns ps=>∃a dx fs,v=.ref a/\H a=some (.ins (K.cm C) dx fs)/\fs.map (·.1)=ns/\â K F ps (fs.map (·.2))|_=>False
def rR(K:KK):RR PV V:=λ_ _ _ F H p v=>ă K F p v\/Ct K F H p v
def rA(K:KK):RR (List Slot) (List V):=λ_ _ _ F H as vs=>Paired (dL K F H) as vs
def GV(K:KK)(c:Ctx)(b:Ċ)(d:Ć)(F H:Hp)(ps:List PV)(v:V):Prop:=∃a vs,v=.ref a/\H a=some (.lst vs)/\F a=none/\c.B a=none/\fq F b d a/\â K F ps vs
def Cu(K:KK)(c:Ctx)(b:Ċ)(d:Ć)(F H:Hp)(ps qs rs:List PV)(v:V):Prop:=∃p a xs vs ys,v=.ref p/\F p=some (.tup (xs++.ref a::ys))/\â K F ps xs/\H a=some (.lst vs)/\F a=none/\c.B a=none/\fq F b d a/\â K F qs vs/\â K F rs ys
def rO(K:KK):RR RV V:=λc a b F H r v=>match r with
 |.sh p=>ă K F p v|.ow ps=>GV K c a b F H ps v|.ot ps qs rs=>Cu K c a b F H ps qs rs v|.bn t ps qs rows=>nD K c.B F t ps qs rows v
def rL(K:KK):RR (List PV) (List V):=λ_ _ _ F _ p v=>â K F p v
def Lj(K:KK):RR (List PV) (List V):=λc a b F H p v=>Paired (rR K c a b F H) p v
def rB:RR Bool Bool:=λ_ _ _ _ _ p v=>p=v
def rI:RR (Option Int) (Option Int):=λ_ _ _ _ _ p v=>p=v
def ϴ{α β:Type}(K:KK)(E:Ċ->XK)(R:RR α β)(c:Ctx)(F H:Hp)(b:Ċ)(Q:β->Hp->Prop):ĵ α->Prop
 |.ok p a=>∀v F' H',ě K c F' H' b a->Ù F F'->Ù H H'->R c b a F' H' p v->Q v H'|.exc x a=>∀C d F' H',ě K c F' H' b a->Ù F F'->DT K F' x C d->E b C d H'|.bad=>False
def tG{α β:Type}(K:KK)(E:Ċ->XK)(R:RR α β)(m:M α):Ċ->Hp->(β->Hp->Prop)->Prop:=λa H Q=>∃c F b,ě K c F H a b/\ϴ K E R c F H a Q (m b)
section
variable{α β α' β':Type}{K:KK}{E:Ċ->XK}{R:RR α β}{R':RR α' β'}{c:Ctx}{F F1 H H1:Hp}{σ:Ċ}
def ϴ.mono{Q:β->Hp->Prop}{r:ĵ α}(h:ϴ K E R c F H σ Q r)(sF:Ù F F1)(sH:Ù H H1):ϴ K E R c F1 H1 σ Q r:=by
 cases r with
 |ok p a=>exact λv F' H' rel s1 s2 q=>h v F' H' rel (sF.trans s1) (sH.trans s2) q
 |exc x a=>exact λC d F' H' rel s1 q=>h C d F' H' rel (sF.trans s1) q
 |bad=>exact h
theorem ϴ.bind{Q:β->Hp->Prop}{Q':β'->Hp->Prop}{r:ĵ α}{f:α->Ć->ĵ α'}(h:ϴ K E R' c F H σ Q' (r.bind f))
 (k:∀p a v F1 H1,ě K c F1 H1 σ a->Ù F F1->Ù H H1->R c σ a F1 H1 p v->ϴ K E R' c F1 H1 σ Q' (f p a)->Q v H1):ϴ K E R c F H σ Q r:=by
 cases r with
 |ok p b=>exact λv F' H' rel s1 s2 q=>k p b v F' H' rel s1 s2 q<|ϴ.mono (show ϴ K E R' c F H σ Q' (f p b)from h) s1 s2
 |exc x b=>exact h|bad=>exact h
theorem ϴ.rel{R2:RR α β}{Q:β->Hp->Prop}{r:ĵ α}(h:ϴ K E R c F H σ Q r)(k:∀p a v F' H',ě K c F' H' σ a->R2 c σ a F' H' p v->R c σ a F' H' p v):ϴ K E R2 c F H σ Q r:=by
 cases r with
 |ok p a=>exact λv F' H' rel s1 s2 q=>h v F' H' rel s1 s2<|k p a v F' H' rel q
 |exc x a=>exact h|bad=>exact h
end
abbrev tV(K:KK)(E:Ċ->XK)(m:M PV):TE:=tG K E (rV K) m
abbrev tR(K:KK)(E:Ċ->XK)(m:M PV):TE:=tG K E (rR K) m
abbrev tO(K:KK)(E:Ċ->XK)(m:M RV):TE:=tG K E (rO K) m
abbrev tL(K:KK)(E:Ċ->XK)(m:M (List PV)):TA:=tG K E (rL K) m
abbrev tA(K:KK)(E:Ċ->XK)(m:M (List Slot)):TA:=tG K E (rA K) m
abbrev G2(K:KK)(E:Ċ->XK)(m:M (List PV)):TA:=tG K E (Lj K) m
abbrev tB(K:KK)(E:Ċ->XK)(m:M Bool):TT:=tG K E rB m
inductive Fl where
 |nx|bk|ct|rt (r:RV)
def ϻ(K:KK)(E:Ċ->XK)(c:Ctx)(F:Hp)(D:Ends):ĵ Fl->Prop
 |.ok .nx b=>∀a F' H',ě K c F' H' a b->Ù F F'->D.nx a H'|.ok .bk b=>∀a F' H',ě K c F' H' a b->Ù F F'->D.bk a H'|.ok .ct b=>∀a F' H',ě K c F' H' a b->Ù F F'->D.ct a H'|.ok (.rt r) b=>∀v a F' H',ě K c F' H' a b->Ù F F'->rO K c a b F' H' r v->D.rt v H'|.exc x b=>∀a C d F' H',ě K c F' H' a b->Ù F F'->DT K F' x C d->E a C d H'|.bad=>False
def tS(K:KK)(E:Ċ->XK)(m:M Fl):TS:=λD b H=>∃c F a,ě K c F H b a/\ϻ K E c F D (m a)
section
variable{K:KK}{E:Ċ->XK}{c:Ctx}{F F1:Hp}{D:Ends}
def ϻ.mono{r:ĵ Fl}(h:ϻ K E c F D r)(sF:Ù F F1):ϻ K E c F1 D r:=by
 cases r with
 |ok f b=>
  cases f with
  |rt v=>exact λv a F' H' rel s1 q=>h v a F' H' rel (sF.trans s1) q
  |nx=>exact λa F' H' rel s1=>h a F' H' rel<|sF.trans s1
  |bk=>exact λa F' H' rel s1=>h a F' H' rel<|sF.trans s1
  |ct=>exact λa F' H' rel s1=>h a F' H' rel<|sF.trans s1
 |exc x b=>exact λa C d F' H' rel s1 q=>h a C d F' H' rel (sF.trans s1) q
 |bad=>exact h
theorem ϻ.bind{α β:Type}{R:RR α β}{e:Ċ}{H:Hp}{Q:β->Hp->Prop}{r:ĵ α}{f:α->Ć->ĵ Fl}(h:ϻ K E c F D (r.bind f))
 (k:∀p a v F1 H1,ě K c F1 H1 e a->Ù F F1->R c e a F1 H1 p v->ϻ K E c F1 D (f p a)->Q v H1):ϴ K E R c F H e Q r:=by
 cases r with
 |ok p b=>exact λv F' H' rel s1 s2 q=>k p b v F' H' rel s1 q<|ϻ.mono (show ϻ K E c F D (f p b)from h) s1
 |exc x b=>exact λC d F' H' rel s1 q=>h e C d F' H' rel s1 q
 |bad=>exact h
end
open PySem PySem.Spec PyProof.Rows L2 M2
noncomputable def é(i:Nat):M PV:=λρ=>match ρ[i]?with
 |some (.sh p)=>.ok p ρ|some (.ow ps)=>.ok (.lst ps)<|ρ.set i<|.sh<|.lst ps|some (.bn qs rows)=>.ok (.lst (.lst qs::rows)) ρ|_=>.bad
noncomputable def Â(i:Nat):M PV:=λρ=>match ρ[i]?with
 |some (.sh p)=>.ok p ρ|some (.ow ps)=>.ok (.lst ps) ρ|some (.bw ps)=>.ok (.lst ps) ρ|some (.rc C ns ps)=>.ok (.ins C ns ps) ρ|some (.bn qs rows)=>.ok (.lst (.lst qs::rows)) ρ|some (.pw ps)=>.ok (.lst ps) ρ|_=>.bad
noncomputable def ce(i:Nat):M RV:=λρ=>match ρ[i]?with
 |some (.sh p)=>.ok (.sh p) ρ|some (.ow ps)=>.ok (.ow ps)<|ρ.set i .no|_=>.bad
@[simp]def mC(p:PV)(a:Ć):ĵ PV:=.ok p a
abbrev Ç(i:Int):M PV:=mC (.int i)
@[simp]def Ļ(m:M PV)(b:Ć):ĵ RV:=(m b).bind λp a=>.ok (.sh p) a
@[simp]def Ú(m:M RV)(b:Ć):ĵ PV:=(m b).bind λr a=>.ok r.val a
section
variable{K:KK}{c:Ctx}{F H:Hp}{σ:Ċ}{ρ:Ć}
def ļ{i:Nat}{x:V}(h:(σ[i]?).getD none=some x):σ[i]?=some (some x):=by
 cases q:σ[i]?with
 |none=>rw[q]at h;cases h|some y=>rw[q]at h;exact congrArg some h
theorem ě.ow(r:ě K c F H σ ρ){i:Nat}{ps:List PV}(e:ρ[i]?=some (.ow ps)):∃a vs,σ[i]?=some (some<|.ref a)/\H a=some (.lst vs)/\F a=none/\c.B a=none/\â K F ps vs/\Ŏ F σ ρ i a:=by obtain⟨a,vs,h1,h2,h3,h4,h5⟩:=r.slot i _ e;exact⟨a,vs,ļ h1,h2,h3,h4,h5,⟨_,_,e,ļ h1,rfl⟩⟩
def ě.move(r:ě K c F H σ ρ){i:Nat}{a:À}(h:Ŏ F σ ρ i a):ě K c F H σ (ρ.set i .no)/\fq F σ (ρ.set i .no) a:=by
 refine⟨r.Cs rfl trivial,λj zz=>?_⟩;obtain⟨s,y,q1,q3,q2⟩:=zz;rcases af q1 with⟨_,rfl,_⟩|⟨hj,q⟩
 ·exact q2.elim
 ·exact hj<|r.sep j i a ⟨s,y,q,q3,q2⟩ h
def ě.share(r:ě K c F H σ ρ){i:Nat}{ps:List PV}(e:ρ[i]?=some (.ow ps)):∃a vs,σ[i]?=some (some<|.ref a)/\F a=none/\ă K (upd F a<|.lst vs) (.lst ps) (.ref a)/\ě K c (upd F a<|.lst vs) H σ (ρ.set i<|.sh<|.lst ps):=by
 obtain⟨a,vs,h1,h2,h3,h4,h5,ho⟩:=r.ow e;obtain⟨m1,m2⟩:=r.move ho;have rp:ă K (upd F a<|.lst vs) (.lst ps) (.ref a):=by unfold ă;exact⟨a,vs,rfl,Ϫ.of ö,h5.same (Ù.upd h3) ps vs⟩
 have q:=(m1.freeze h2 h4 h3 m2).Cs (i:=i) (s:=.sh<|.lst ps) rfl (show aZ K c _ H _ (.sh<|.lst ps)from⟨.ref a,by rw[h1];rfl,rp⟩);rw[List.set_set]at q;exact⟨a,vs,h1,h3,rp,q⟩
def Ct.mono{F1 H1:Hp}{p:PV}{v:V}(h:Ct K F H p v)(sF:Ù F F1)(sH:Ù H H1):Ct K F1 H1 p v:=by
 cases p with
 |lst ps=>obtain⟨a,vs,h2,h3,h4⟩:=h;exact⟨a,vs,h2,sH _ _ h3,h4.same sF ps vs⟩|ins C ns ps=>obtain⟨a,dx,fs,h2,h3,h4,h5⟩:=h;exact⟨a,dx,fs,h2,sH _ _ h3,h4,h5.same sF ps _⟩|_=>exact h.elim
theorem rR.mono{c:Ctx}{σ:Ċ}{ρ a:Ć}{F1 H1:Hp}{p:PV}{v:V}(h:rR K c σ ρ F H p v)(sF:Ù F F1)(sH:Ù H H1):rR K c σ a F1 H1 p v:=by
 rcases h with h|h
 ·exact .inl<|h.same sF p v
 ·exact .inr<|h.mono sF sH
theorem rR.lst{c:Ctx}{σ:Ċ}{ρ:Ć}{ps:List PV}{v:V}(s:Ù F H)(h:rR K c σ ρ F H (.lst ps) v):∃a vs,v=.ref a/\Ϫ K.K H a vs/\â K F ps vs:=by
 rcases h with h|⟨a,vs,h2,h3,h4⟩
 ·unfold ă at h;obtain⟨a,xs,h1,h2,h3⟩:=h;exact⟨a,xs,h1,s.seq h2,h3⟩
 ·exact⟨a,vs,h2,Ϫ.of h3,h4⟩
theorem rR.tup{c:Ctx}{σ:Ċ}{ρ:Ć}{ps:List PV}{v:V}(s:Ù F H)(h:rR K c σ ρ F H (.tup ps) v):∃a vs,v=.ref a/\gk K.K H a vs/\â K F ps vs:=by
 rcases h with h|h
 ·unfold ă at h;obtain⟨a,xs,h1,h2,h3⟩:=h;exact⟨a,xs,h1,Ù.tup s h2,h3⟩
 ·exact h.elim
theorem rR.int{c:Ctx}{σ:Ċ}{ρ:Ć}{i:Int}{v:V}(h:rR K c σ ρ F H (.int i) v):v=.int i:=by
 rcases h with h|h
 ·unfold ă at h;exact h
 ·exact h.elim
theorem rR.str{c:Ctx}{σ:Ċ}{ρ:Ć}{i:Str}{v:V}(h:rR K c σ ρ F H (.str i) v):v=.str i:=by
 rcases h with h|h
 ·unfold ă at h;exact h
 ·exact h.elim
theorem rR.bl{c:Ctx}{σ:Ċ}{ρ:Ć}{i:Bool}{v:V}(h:rR K c σ ρ F H (.bl i) v):v=.bl i:=by
 rcases h with h|h
 ·unfold ă at h;exact h
 ·exact h.elim
theorem rR.non{c:Ctx}{σ:Ċ}{ρ:Ć}{v:V}(h:rR K c σ ρ F H .non v):v=.non:=by
 rcases h with h|h
 ·unfold ă at h;exact h
 ·exact h.elim
theorem rR.ty{c:Ctx}{σ:Ċ}{ρ:Ć}{n:String}{v:V}(h:rR K c σ ρ F H (.ty n) v):v=.ty n:=by
 rcases h with h|h
 ·unfold ă at h;exact h
 ·exact h.elim
theorem ă.int{i:Int}:ă K F (.int i) (.int i):=by unfold ă;rfl
theorem ă.str{i:Str}:ă K F (.str i) (.str i):=by unfold ă;rfl
theorem ă.bl{i:Bool}:ă K F (.bl i) (.bl i):=by unfold ă;rfl
theorem ă.non:ă K F .non .non:=by unfold ă;rfl
end
section
variable{X:Cx}{cm:String->À}{E:Ċ->XK}{a b e:È}{es:List È}{pos:Pos}{m ma mb mc:M PV}{mo:M RV}
def PT.wk{t t':TT}(h:PT X e t)(i:∀c H Q,t' c H Q->t c H Q):PT X e t':=λÆ s c H Q I q=>h Æ s c H Q I<|i c H Q q
def PA.wk{t t':TA}(h:PA X es t)(i:∀c H Q,t' c H Q->t c H Q):PA X es t':=λpos Æ s c H Q I q=>h pos Æ s c H Q I<|i c H Q q
def PW.wk{t t':TT}(h:PW X e t)(i:∀c H Q,t' c H Q->t c H Q):PW X e t':=λwh Æ s c H Q I q=>h wh Æ s c H Q I<|i c H Q q
def ca.wk{st:List í}{t t':TS}(h:ca X st t)(i:∀D c H,t' D c H->t D c H):ca X st t':=λÆ s c H D I q=>h Æ s c H D I<|i D c H q
def v_var(i:Nat){x:Str}{pos:Pos}(hk:Dp X i x=true:=by kernel_rfl):PE X (.Name x pos) (tV (kk X cm) E<|é i):=PE.wk (mV hk)<|by
 rintro d H Q ⟨c,F,f,rel,h⟩;unfold é at h;split at h
 ·rename_i p e;obtain⟨v,h1,h2⟩:=rel.slot i _ e;exact⟨v,ļ h1,h v F H rel (Ù.refl F) (Ù.refl H) h2⟩
 ·rename_i ps e;obtain⟨a,vs,h1,h2,h3,h4⟩:=rel.share e;exact⟨.ref a,h1,h _ _ H h4 (Ù.upd h2) (Ù.refl H) h3⟩
 ·rename_i qs rows e;obtain⟨v,h1,h2⟩:=rel.slot i _ e;exact⟨v,ļ h1,h v F H rel (Ù.refl F) (Ù.refl H) h2.rep⟩
 ·exact h.elim
def Ä(i:Nat){x:Str}{pos:Pos}(hk:Dp X i x=true:=by kernel_rfl):PE X (.Name x pos) (tR (kk X cm) E<|Â i):=PE.wk (mV hk)<|by
 rintro d H Q ⟨c,F,f,rel,h⟩;unfold Â at h;split at h
 ·rename_i p e;obtain⟨v,h1,h2⟩:=rel.slot i _ e;exact⟨v,ļ h1,h v F H rel (Ù.refl F) (Ù.refl H)<|.inl h2⟩
 ·rename_i ps e;obtain⟨a,vs,h1,h2,h3,h4,h5,_⟩:=rel.ow e;exact⟨.ref a,h1,h _ F H rel (Ù.refl F) (Ù.refl H)<|.inr ⟨a,vs,rfl,h2,h5⟩⟩
 ·rename_i ps e;obtain⟨a,vs,h1,h2,h3⟩:=rel.slot i _ e;exact⟨.ref a,ļ h1,h _ F H rel (Ù.refl F) (Ù.refl H)<|.inr ⟨a,vs,rfl,(rel.lent a _ h2).1,h3⟩⟩
 ·rename_i C ns ps e;obtain⟨a,dx,fs,h1,h2,h3,h4,h5,h6⟩:=rel.slot i _ e;exact⟨.ref a,ļ h1,h _ F H rel (Ù.refl F) (Ù.refl H)<|.inr ⟨a,dx,fs,rfl,h2,h5,h6.1⟩⟩
 ·rename_i qs rows e;obtain⟨v,h1,h2⟩:=rel.slot i _ e;exact⟨v,ļ h1,h v F H rel (Ù.refl F) (Ù.refl H)<|.inl h2.rep⟩
 ·rename_i ps e;obtain⟨a,vs,h1,h2,h3,h4,h5,h6⟩:=rel.slot i _ e;exact⟨.ref a,ļ h1,h _ F H rel (Ù.refl F) (Ù.refl H)<|.inr ⟨a,vs,rfl,h2,h5⟩⟩
 ·exact h.elim
def dM(i:Nat){x:Str}{pos:Pos}(hk:Dp X i x=true:=by kernel_rfl):PE X (.Name x pos) (tO (kk X cm) E<|ce i):=PE.wk (mV hk)<|by
 rintro d H Q ⟨c,F,f,rel,h⟩;unfold ce at h;split at h
 ·rename_i p e;obtain⟨v,h1,h2⟩:=rel.slot i _ e;exact⟨v,ļ h1,h v F H rel (Ù.refl F) (Ù.refl H) h2⟩
 ·rename_i ps e;obtain⟨a,vs,h1,h2,h3,h4,h5,h6⟩:=rel.ow e;obtain⟨m1,m2⟩:=rel.move h6;exact⟨.ref a,h1,h _ F H m1 (Ù.refl F) (Ù.refl H) ⟨a,vs,rfl,h2,h3,h4,m2,h5⟩⟩
 ·exact h.elim
def Lk{v:V}(p:PV)(h:PE X e (tC v))(hr:∀F,ă (kk X cm) F p v:=by intro _;unfold ă;rfl):PE X e (tV (kk X cm) E<|mC p):=PE.wk h λd H Q ⟨c,F,f,rel,h⟩=>h v F H rel (Ù.refl F) (Ù.refl H)<|hr F
def ğ{i j pos}:PE X (.Constant (.int i) j pos) (tV (kk X cm) E<|mC<|.int i):=Lk _ xF
def DU{i j pos}:PE X (.Constant (.bool i) j pos) (tV (kk X cm) E<|mC<|.bl i):=Lk _ N1
def oW{j pos}:PE X (.Constant .none j pos) (tV (kk X cm) E<|mC .non):=Lk _ Kq
def ϐ{x j pos}:PE X (.Constant (.str x) j pos) (tV (kk X cm) E<|mC<|.str x):=Lk _ Kr
def ë(h:PE X e (tV (kk X cm) E m)):PE X e (tR (kk X cm) E m):=PE.wk h λf H Q ⟨c,F,d,rel,h⟩=>⟨c,F,d,rel,h.rel λ_ _ _ _ _ _ q=>.inl q⟩
def Ŕ(h:PE X e (tV (kk X cm) E m)):PE X e (tO (kk X cm) E<|Ļ m):=PE.wk h λg H Q ⟨c,F,d,rel,h⟩=>⟨c,F,d,rel,h.bind λp f v F1 H1 ã s1 s2 q h1=>h1 v F1 H1 ã Č Č q⟩
def GV.share{K:KK}{c:Ctx}{F H:Hp}{d:Ċ}{f:Ć}{ps:List PV}{v:V}(rel:ě K c F H d f)(h:GV K c d f F H ps v):∃F1,Ù F F1/\ě K c F1 H d f/\ă K F1 (.lst ps) v:=by obtain⟨a,vs,rfl,h1,h2,h3,h4,h5⟩:=h;refine⟨_,Ù.upd h2,rel.freeze h1 h3 h2 h4,?_⟩;unfold ă;exact⟨a,vs,rfl,Ϫ.of ö,h5.same (Ù.upd h2) ps vs⟩
def Cu.share{K:KK}{c:Ctx}{F H:Hp}{d:Ċ}{f:Ć}{ps qs rs:List PV}{v:V}(rel:ě K c F H d f)(h:Cu K c d f F H ps qs rs v):∃F1,Ù F F1/\ě K c F1 H d f/\ă K F1 (.tup (ps++.lst qs::rs)) v:=by
 obtain⟨p,a,xs,vs,ys,rfl,h0,hx,h1,h2,h3,h4,h5,h6⟩:=h;refine⟨_,Ù.upd h2,rel.freeze h1 h3 h2 h4,?_⟩;have ra:ă K (upd F a<|.lst vs) (.lst qs) (.ref a):=by unfold ă;exact⟨a,vs,rfl,Ϫ.of ö,h5.same (Ù.upd h2) qs vs⟩
 unfold ă;exact⟨p,_,rfl,gk.of<|Ù.upd h2 _ _ h0,â.append (hx.same (Ù.upd h2) ps xs)<|â.cons ra<|h6.same (Ù.upd h2) rs ys⟩
def ñ(h:PE X e (tO (kk X cm) E mo)):PE X e (tV (kk X cm) E<|Ú mo):=PE.wk h λg H Q ⟨c,F,d,rel,h⟩=>⟨c,F,d,rel,h.bind λr f v F1 H1 ã s1 s2 q h1=>by
 cases r with
 |sh p=>exact h1 v F1 H1 ã Č Č q|ow ps=>obtain⟨F2,s3,ē,rp⟩:=GV.share ã q;exact h1 v F2 H1 ē s3 Č rp|ot ps qs rs=>obtain⟨F2,s3,ē,rp⟩:=Cu.share ã q;exact h1 v F2 H1 ē s3 Č rp|bn t ps qs rows=>exact h1 v F1 H1 ã Č Č<|nD.rep q⟩
def Ê(f:PV->PV->Option PV)(ma mb:M PV):M PV:=λg=>(ma g).bind λp c=>(mb c).bind λq d=>ĵ.zp (f p q) d
def ü(f:PV->PV->Option RV)(ma mb:M PV):M RV:=λg=>(ma g).bind λp c=>(mb c).bind λq d=>ĵ.zp (f p q) d
def kB(K:KK)(r:R2)(f:PV->PV->Option PV):Prop:=∀{c:Ctx}{F H:Hp}{d:Ċ}{g:Ć}{p q pv:PV}{v u:V}{Q:VK},ě K c F H d g->rR K c d g F H p v->rR K c d g F H q u->f p q=some pv->
 (∀z F' H',ě K c F' H' d g->Ù F F'->Ù H H'->ă K F' pv z->Q z H')->r v u H Q
def TU(K:KK)(r:R2)(f:PV->PV->Option RV):Prop:=∀{c:Ctx}{F H:Hp}{d:Ċ}{g:Ć}{p q:PV}{pv:RV}{v u:V}{Q:VK},ě K c F H d g->rR K c d g F H p v->rR K c d g F H q u->f p q=some pv->
 (∀z F' H',ě K c F' H' d g->Ù F F'->Ù H H'->rO K c d g F' H' pv z->Q z H')->r v u H Q
def Cw{r:R2}{f:PV->PV->Option PV}(hf:kB (kk X cm) r f){g:Ċ}{H:Hp}{Q:VK}(h:tV (kk X cm) E (Ê f ma mb) g H Q):Ju r (tR (kk X cm) E ma) (tR (kk X cm) E mb) g H Q:=by
 obtain⟨c,F,i,rel,h⟩:=h;refine⟨c,F,i,rel,h.bind λp d v F1 H1 ã _ _ r1 h1=>⟨c,F1,d,ã,h1.bind λq j u F2 H2 ē sF sH r2 h2=>?_⟩⟩;cases e:f p q with
 |none=>rw[e]at h2;exact h2.elim|some pv=>rw[e]at h2;exact hf ē (r1.mono sF sH) r2 e λz F' H' Š s1 s2 q'=>h2 z F' H' Š s1 s2 q'
def OD{r:R2}{f:PV->PV->Option RV}(hf:TU (kk X cm) r f){g:Ċ}{H:Hp}{Q:VK}(h:tO (kk X cm) E (ü f ma mb) g H Q):Ju r (tR (kk X cm) E ma) (tR (kk X cm) E mb) g H Q:=by
 obtain⟨c,F,i,rel,h⟩:=h;refine⟨c,F,i,rel,h.bind λp d v F1 H1 ã _ _ r1 h1=>⟨c,F1,d,ã,h1.bind λq j u F2 H2 ē sF sH r2 h2=>?_⟩⟩;cases e:f p q with
 |none=>rw[e]at h2;exact h2.elim|some pv=>rw[e]at h2;exact hf ē (r1.mono sF sH) r2 e λz F' H' Š s1 s2 q'=>h2 z F' H' Š s1 s2 q'
def dN{op:oz}{r:R2}{f:PV->PV->Option PV}(hf:kB (kk X cm) r f)(ho:ae X (Į op) r)(ha:PE X a (tR (kk X cm) E ma))(hb:PE X b (tR (kk X cm) E mb)):PE X (.BinOp a op b pos) (tV (kk X cm) E<|Ê f ma mb):=PE.wk (EQ ho ha hb) λ_ _ _ h=>Cw hf h
def OE{op:oz}{r:R2}{f:PV->PV->Option RV}(hf:TU (kk X cm) r f)(ho:ae X (Į op) r)(ha:PE X a (tR (kk X cm) E ma))(hb:PE X b (tR (kk X cm) E mb)):PE X (.BinOp a op b pos) (tO (kk X cm) E<|ü f ma mb):=PE.wk (EQ ho ha hb) λ_ _ _ h=>OD hf h
def kH{op:fL}{r:R2}{f:PV->PV->Option PV}(hf:kB (kk X cm) r f)(ho:ae X (ĭ op) r)(ha:PE X a (tR (kk X cm) E ma))(hb:PE X b (tR (kk X cm) E mb))(hm:lI op b=false):PE X (.Compare a [op] [b] pos) (tV (kk X cm) E<|Ê f ma mb):=
 PE.wk (Ht ho ha hb hm) λ_ _ _ h=>Cw hf h
def OF{r:R2}{f:PV->PV->Option PV}(hf:kB (kk X cm) r f)(hr:Aq X r)(ha:PE X a (tR (kk X cm) E ma))(hb:PE X b (tR (kk X cm) E mb))(hs:sW b):PE X (.Subscript a b pos) (tV (kk X cm) E<|Ê f ma mb):=
 PE.wk (E2 hr ha hb hs) λ_ _ _ h=>Cw hf h
@[simp]def eR(f:PV->Option PV)(ma:M PV)(d:Ć):ĵ PV:=(ma d).bind λp c=>ĵ.zp (f p) c
def TY(K:KK)(r:V->Hp->VK->Prop)(f:PV->Option PV):Prop:=∀{c:Ctx}{F H:Hp}{d:Ċ}{g:Ć}{p pv:PV}{v:V}{Q:VK},ě K c F H d g->rR K c d g F H p v->f p=some pv->
 (∀z F' H',ě K c F' H' d g->Ù F F'->Ù H H'->ă K F' pv z->Q z H')->r v H Q
def xX{op:UnaryOp}{r:V->Hp->VK->Prop}{f:PV->Option PV}(hf:TY (kk X cm) r f)(ho:G0 X (unaryOp op) r)(ha:PE X a (tR (kk X cm) E ma)):PE X (.UnaryOp op a pos) (tV (kk X cm) E<|eR f ma):=PE.wk (Jv ho ha) λi H Q ⟨c,F,d,rel,h⟩=>
 ⟨c,F,d,rel,h.bind fun p g v F1 H1 ã _ _ r1 h1=>by
   cases e:f p with
   |none=>rw[e]at h1;exact h1.elim|some pv=>rw[e]at h1;exact hf ã r1 e λz F' H' Š s1 s2 q'=>h1 z F' H' Š s1 s2 q'⟩
noncomputable def Ng:PV->Option Bool
 |.bl b=>some b|.int i=>some<|i !=0|.non=>some false|.str y=>if y.length<=sizeLine then some ((y.length:Int) !=0)else none|.lst ps=>some<|!ps.isEmpty|.tup ps=>some<|!ps.isEmpty|_=>none
@[simp]def cM(m:M PV)(d:Ć):ĵ Bool:=(m d).bind λp c=>ĵ.zp (Ng p) c
def OG{K:KK}{c:Ctx}{F H:Hp}{d:Ċ}{f:Ć}{p:PV}{v:V}{k:Bool}(s:Ù F H)(r:rR K c d f F H p v)(h:Ng p=some k):KP K.K v H k:=by
 cases p with
 |bl b=>cases r.bl;cases h;rfl|int i=>cases r.int;cases h;rfl|non=>cases r.non;cases h;rfl|str y=>
  cases r.str;have h':(if y.length<=sizeLine then some ((y.length:Int) !=0)else none)=some k:=h;split at h'
  ·rename_i hy;cases h';exact⟨hy,rfl⟩
  ·cases h'
 |lst ps=>
  obtain⟨a,vs,rfl,h1,h2⟩:=r.lst s;cases h;have e:ps.isEmpty=vs.isEmpty:=by cases h2.pr<;>rfl
  exact .inl ⟨vs,h1,by rw[e]⟩
 |tup ps=>
  obtain⟨a,vs,rfl,h1,h2⟩:=r.tup s;cases h;have e:ps.isEmpty=vs.isEmpty:=by cases h2.pr<;>rfl
  exact .inr (.inl ⟨vs,h1,by rw[e]⟩)
 |ins C ns ps=>cases h|xc C ns ps=>cases h|ty n=>cases h|cls C=>cases h|zn _ _=>cases h
def ao(ha:PE X a (tR (kk X cm) E ma))(he:∀whole,isTrue a X.env whole=(do let v<-whole;gR a.pos;cB [v] (truthy v)):=by intro _;rfl):PT X a (tB (kk X cm) E<|cM ma):=PT.wk (ES ha he) λg H Q ⟨c,F,d,rel,h⟩=>
 ⟨c,F,d,rel,h.bind fun p f v F1 H1 ã _ _ r1 h1=>by
   cases e:Ng p with
   |none=>rw[e]at h1;exact h1.elim|some k=>rw[e]at h1;exact⟨k,OG ã.sub r1 e,h1 k F1 H1 ã Č Č rfl⟩⟩
@[simp]def ay(m:M PV)(d:Ć):ĵ Bool:=(m d).bind fun p c=>match p with
  |.bl b=>.ok b c|_=>.bad
def Jz{d:Ċ}{H:Hp}{Q:Bool->Hp->Prop}(h:tB (kk X cm) E (ay m) d H Q):M2.E6 (tV (kk X cm) E m) d H Q:=by
 obtain⟨c,F,f,rel,h⟩:=h;refine⟨c,F,f,rel,h.bind λp g v F1 H1 ã _ _ r1 h1=>?_⟩;cases p with
 |bl b=>
  have e:v=.bl b:=by have kA:ă (kk X cm) F1 (.bl b) v:=r1;unfold ă at kA;exact kA
  subst e;exact h1 b F1 H1 ã Č Č rfl
 |_=>exact h1.elim
def aR{op:fL}{r:R2}{f:PV->PV->Option PV}(hf:kB (kk X cm) r f)(ho:ae X (ĭ op) r)(ha:PE X a (tR (kk X cm) E ma))(hb:PE X b (tR (kk X cm) E mb))(hm:lI op b=false):PT X (.Compare a [op] [b] pos) (tB (kk X cm) E<|ay<|Ê f ma mb):=
 PT.wk (K3 ho ha hb hm) fun g H Q h=>by obtain⟨c,F,d,rel,h⟩:=Jz h;exact Cw hf ⟨c,F,d,rel,h⟩
@[simp]def nF(f g:PV→PV→Option PV)(ma mb mc:M PV)(j:Ć):ĵ PV:=(ma j).bind fun p d=>(mb d).bind fun q h=>(ĵ.zp (f p q) h).bind fun z c=>match z with
  |.bl true=>(mc c).bind λw i=>ĵ.zp (g q w) i
  |.bl false=>.ok (.bl false) c|_=>.bad
def JA{r r':R2}{f g:PV->PV->Option PV}(hf:kB (kk X cm) r f)(hg:kB (kk X cm) r' g){j:Ċ}{H:Hp}{Q:VK}(h:tV (kk X cm) E (nF f g ma mb mc) j H Q):M2.AR r r' (tR (kk X cm) E ma) (tR (kk X cm) E mb) (tR (kk X cm) E mc) j H Q:=by
 obtain⟨c,F,l,rel,h⟩:=h;refine⟨c,F,l,rel,h.bind λp d v F1 H1 ã _ _ r1 h1=>⟨c,F1,d,ã,h1.bind λq i u F2 H2 ē sF sH r2 h2=>?_⟩⟩;cases e:f p q with
 |none=>rw[e]at h2;exact h2.elim|some pv=>
  rw[e]at h2;refine hf ē (r1.mono sF sH) r2 e λz F' H' Š s1 s2 q'=>?_;cases pv with
  |bl k=>
   have ez:z=.bl k:=by unfold ă at q';exact q'
   subst ez;cases k with
   |false=>exact h2 _ F' H' Š s1 s2 q'|true=>
    refine⟨c,F',i,Š,ϴ.bind (ϴ.mono h2 s1 s2) λw n x F4 H4 qe s3 s4 r4 h4=>?_⟩;cases e':g q w with
    |none=>rw[e']at h4;exact h4.elim|some pv'=>rw[e']at h4;exact hg qe (r2.mono (s1.trans s3)<|s2.trans s4) r4 e' λz F' H' Š s1 s2 q'=>h4 z F' H' Š s1 s2 q'
  |_=>exact h2.elim
def oX{op Bs:fL}{r r':R2}{f g:PV->PV->Option PV}{c:È}(hf:kB (kk X cm) r f)(hg:kB (kk X cm) r' g)(ho:ae X (ĭ op) r)(Bq:ae X (ĭ Bs) r')(ha:PE X a (tR (kk X cm) E ma))(hb:PE X b (tR (kk X cm) E mb))(hc:PE X c (tR (kk X cm) E mc))
 (hm:lastMarks [op,Bs] [b,c]=false:=by with_unfolding_all rfl):PE X (.Compare a [op,Bs] [b,c] pos) (tV (kk X cm) E<|nF f g ma mb mc):=PE.wk (E7 ho Bq ha hb hc hm) λ_ _ _ h=>JA hf hg h
def Fp{op Bs:fL}{r r':R2}{f g:PV->PV->Option PV}{c:È}(hf:kB (kk X cm) r f)(hg:kB (kk X cm) r' g)(ho:ae X (ĭ op) r)(Bq:ae X (ĭ Bs) r')(ha:PE X a (tR (kk X cm) E ma))(hb:PE X b (tR (kk X cm) E mb))(hc:PE X c (tR (kk X cm) E mc))
 (hm:lastMarks [op,Bs] [b,c]=false:=by with_unfolding_all rfl):PT X (.Compare a [op,Bs] [b,c] pos) (tB (kk X cm) E<|ay<|nF f g ma mb mc):=PT.wk (E8 ho Bq ha hb hc hm) λi H Q h=>by
 obtain⟨c,F,d,rel,h⟩:=Jz h;exact JA hf hg ⟨c,F,d,rel,h⟩
@[simp]def gm(m:M Bool)(d:Ć):ĵ Bool:=(m d).bind λb c=>.ok (!b) c
def iR{m:M Bool}(h:PT X a (tB (kk X cm) E m)):PT X (.UnaryOp .Not a pos) (tB (kk X cm) E<|gm m):=PT.wk (Ku h) λg H Q ⟨c,F,d,rel,h⟩=>
 ⟨c,F,d,rel,h.bind λp f v F1 H1 ã _ _ r1 h1=>h1 _ F1 H1 ã Č Č (by have e:p=v:=r1;rw[e];rfl)⟩
@[simp]def qG(ma mb:M Bool)(d:Ć):ĵ Bool:=(ma d).bind λb c=>if b=true then mb c else .ok false c
@[simp]def xY(ma mb:M Bool)(d:Ć):ĵ Bool:=(ma d).bind λb c=>if b=true then .ok true c else mb c
variable{ta tb:M Bool}{rest:List È}
def nG(h:PT X a (tB (kk X cm) E ta)):PW X (.BoolOp .And [a] pos) (tB (kk X cm) E ta):=Ho h
def qH(h:PT X a (tB (kk X cm) E ta)):PW X (.BoolOp .Or [a] pos) (tB (kk X cm) E ta):=Ks h
def w_and(ha:PT X a (tB (kk X cm) E ta))(hb:PW X (.BoolOp .And (b::rest) pos) (tB (kk X cm) E tb)):PW X (.BoolOp .And (a::b::rest) pos) (tB (kk X cm) E<|qG ta tb):=PW.wk (Kt ha hb) λg H Q ⟨c,F,f,rel,h⟩=>
 ⟨c,F,f,rel,h.bind fun p d v F1 H1 ã _ _ r1 h1=>by
   have e:p=v:=r1;subst e;cases p with
   |true=>exact⟨c,F1,d,ã,h1⟩|false=>exact h1 false F1 H1 ã Č Č rfl⟩
def w_or(ha:PT X a (tB (kk X cm) E ta))(hb:PW X (.BoolOp .Or (b::rest) pos) (tB (kk X cm) E tb)):PW X (.BoolOp .Or (a::b::rest) pos) (tB (kk X cm) E<|xY ta tb):=PW.wk (N3 ha hb) λg H Q ⟨c,F,f,rel,h⟩=>
 ⟨c,F,f,rel,h.bind fun p d v F1 H1 ã _ _ r1 h1=>by
   have e:p=v:=r1;subst e;cases p with
   |false=>exact⟨c,F1,d,ã,h1⟩|true=>exact h1 true F1 H1 ã Č Č rfl⟩
def iF(ma mb:M PV):M PV:=λd=>(ma d).bind λp c=>match p with
 |.bl true=>mb c|.bl false=>.ok (.bl false) c|_=>.bad
def Ri(ma mb:M PV):M PV:=λd=>(ma d).bind λp c=>match p with
 |.bl true=>.ok (.bl true) c|.bl false=>mb c|_=>.bad
@[simp]def OH(ma:M PV)(d:Ć):ĵ PV:=(ma d).bind fun p c=>match p with
  |.bl b=>.ok (.bl<|!b) c|_=>.bad
def tY{K:KK}{F:Hp}{b:Bool}{v:V}(h:ă K F (.bl b) v):v=.bl b:=by unfold ă at h;exact h
def iS{op}(h:PE X a (tV (kk X cm) E ma)):PE X (.BoolOp op [a] pos) (tV (kk X cm) E ma):=Kv h
def v_and(ha:PE X a (tV (kk X cm) E ma))(hb:PE X (.BoolOp .And (b::rest) pos) (tV (kk X cm) E mb)):PE X (.BoolOp .And (a::b::rest) pos) (tV (kk X cm) E<|iF ma mb):=PE.wk (K4 ha hb) λg H Q ⟨c,F,f,rel,h⟩=>
 ⟨c,F,f,rel,h.bind fun p d v F1 H1 ã _ _ r1 h1=>by
   cases p with
   |bl k=>
    cases tY r1;cases k with
    |true=>exact⟨c,F1,d,ã,h1⟩|false=>exact h1 _ F1 H1 ã Č Č r1
   |_=>exact h1.elim⟩
def v_or(ha:PE X a (tV (kk X cm) E ma))(hb:PE X (.BoolOp .Or (b::rest) pos) (tV (kk X cm) E mb)):PE X (.BoolOp .Or (a::b::rest) pos) (tV (kk X cm) E<|Ri ma mb):=PE.wk (Ou ha hb) λg H Q ⟨c,F,f,rel,h⟩=>
 ⟨c,F,f,rel,h.bind fun p d v F1 H1 ã _ _ r1 h1=>by
   cases p with
   |bl k=>
    cases tY r1;cases k with
    |false=>exact⟨c,F1,d,ã,h1⟩|true=>exact h1 _ F1 H1 ã Č Č r1
   |_=>exact h1.elim⟩
def v_not(ha:PE X a (tV (kk X cm) E ma)):PE X (.UnaryOp .Not a pos) (tV (kk X cm) E<|OH ma):=PE.wk (K5 ha) λg H Q ⟨c,F,d,rel,h⟩=>
 ⟨c,F,d,rel,h.bind fun p f v F1 H1 ã _ _ r1 h1=>by
   cases p with
   |bl k=>cases tY r1;exact h1 _ F1 H1 ã Č Č ă.bl|_=>exact h1.elim⟩
def a_{α:Type}(t:M Bool)(ma mb:M α):M α:=λd=>(t d).bind λb c=>if b=true then ma c else mb c
def HX{α:Type}{R:RR α V}{c':È}{ma mb:M α}(hc:PT X c' (tB (kk X cm) E ta))(ha:PE X a (tG (kk X cm) E R ma))(hb:PE X b (tG (kk X cm) E R mb)):PE X (.IfExp c' a b pos) (tG (kk X cm) E R<|a_ ta ma mb):=PE.wk (EG hc ha hb) λg H Q ⟨c,F,f,rel,h⟩=>
 ⟨c,F,f,rel,h.bind fun p d v F1 H1 ã _ _ r1 h1=>by
   have e:p=v:=r1;subst e;cases p with
   |true=>exact⟨c,F1,d,ã,h1⟩|false=>exact⟨c,F1,d,ã,h1⟩⟩
@[simp]def å(c:Ć):ĵ (List PV):=.ok [] c
@[simp]def É(ma:M PV)(mr:M (List PV))(f:Ć):ĵ (List PV):=(ma f).bind λp c=>(mr c).bind λps d=>.ok (p::ps) d
variable{mr:M (List PV)}
def ó:PA X [] (tL (kk X cm) E å):=PA.wk bZ λd H Q ⟨c,F,f,rel,h⟩=>h [] F H rel Č Č â.nil
def Í(ha:PE X e (tV (kk X cm) E ma))(hr:PA X es (tL (kk X cm) E mr))(hs:Ð (e::es) X.env=(false,eval e X.env)::Ð es X.env:=by exact Ō rfl):PA X (e::es) (tL (kk X cm) E<|É ma mr):=PA.wk (ϳ ha hr hs) λi H Q ⟨c,F,f,rel,h⟩=>
 ⟨c,F,f,rel,h.bind λp d v F1 H1 ã _ _ r1 h1=>⟨c,F1,d,ã,h1.bind λps g vs F2 H2 ē sF sH r2 h2=>h2 _ F2 H2 ē Č Č<|â.cons (ă.same sF p v r1) r2⟩⟩
def ï:PA X [] (G2 (kk X cm) E å):=PA.wk bZ λd H Q ⟨c,F,f,rel,h⟩=>h [] F H rel Č Č .nil
def á(ha:PE X e (tR (kk X cm) E ma))(hr:PA X es (G2 (kk X cm) E mr))(hs:Ð (e::es) X.env=(false,eval e X.env)::Ð es X.env:=by exact Ō rfl):PA X (e::es) (G2 (kk X cm) E<|É ma mr):=PA.wk (ϳ ha hr hs) λi H Q ⟨c,F,f,rel,h⟩=>
 ⟨c,F,f,rel,h.bind λp d v F1 H1 ã _ _ r1 h1=>⟨c,F1,d,ã,h1.bind λps g vs F2 H2 ē sF sH r2 h2=>h2 _ F2 H2 ē Č Č<|.cons (rR.mono r1 sF sH) r2⟩⟩
@[simp]def Ø(c:Ć):ĵ (List Slot):=.ok [] c
@[simp]def à(ma:M PV)(mr:M (List Slot))(f:Ć):ĵ (List Slot):=(ma f).bind λp c=>(mr c).bind λas d=>.ok (.sh p::as) d
noncomputable def eS:Slot->Option Slot
 |.sh p=>some<|.sh p|.ow ps=>some<|.bw ps|.bw ps=>some<|.bw ps|.bn qs rows=>some<|.sh<|.lst (.lst qs::rows)|.dw ie=>some<|.dw ie|_=>none
@[simp]def Ì(i:Nat)(mr:M (List Slot))(d:Ć):ĵ (List Slot):=match(d[i]?).bind eS with
  |none=>.bad|some _=>(mr d).bind λas c=>match(c[i]?).bind eS with
   |some s=>.ok (s::as) c|none=>.bad
variable{ms:M (List Slot)}
def Ô:PA X [] (tA (kk X cm) E Ø):=PA.wk bZ λd H Q ⟨c,F,f,rel,h⟩=>h [] F H rel Č Č .nil
def Ü(ha:PE X e (tV (kk X cm) E ma))(hr:PA X es (tA (kk X cm) E ms))(hs:Ð (e::es) X.env=(false,eval e X.env)::Ð es X.env:=by exact Ō rfl):PA X (e::es) (tA (kk X cm) E<|à ma ms):=PA.wk (ϳ ha hr hs) λi H Q ⟨c,F,f,rel,h⟩=>
 ⟨c,F,f,rel,h.bind λp d v F1 H1 ã _ _ r1 h1=>⟨c,F1,d,ã,h1.bind λas g vs F2 H2 ē sF sH r2 h2=>h2 _ F2 H2 ē Č Č<|.cons (show dL _ _ _ (.sh p) v from ă.same sF p v r1) r2⟩⟩
def sY{K:KK}{c:Ctx}{F H:Hp}{g:Ċ}{f:Ć}{i:Nat}{s:Slot}(rel:ě K c F H g f)(h:(f[i]?).bind eS=some s):∃v,g[i]?=some (some v)/\dL K F H s v:=by
 cases e:f[i]?with
 |none=>rw[e]at h;cases h|some sl=>
  rw[e]at h;have h':eS sl=some s:=h;cases sl with
  |sh p=>cases h';obtain⟨v,h1,h2⟩:=rel.slot i _ e;exact⟨v,ļ h1,h2⟩|ow ps=>cases h';obtain⟨a,vs,h1,h2,h3,h4,h5,_⟩:=rel.ow e;exact⟨.ref a,h1,a,vs,rfl,h2,h3,h5⟩|bw ps=>cases h';obtain⟨a,vs,h1,h2,h3⟩:=rel.slot i _ e;exact⟨.ref a,ļ h1,a,vs,rfl,(rel.lent a _ h2).1,(rel.lent a _ h2).2,h3⟩|no=>cases h'|rc C ns ps=>cases h'|ot ps qs rs=>cases h'|ol qF=>cases h'|fr qF=>cases h'|pw ps=>cases h'|pin=>cases h'|bn qs rows=>cases h';obtain⟨v,h1,h2⟩:=rel.slot i _ e;exact⟨v,ļ h1,h2.rep⟩|dw ie=>cases h';obtain⟨a,ts,h1,h2,h3⟩:=rel.slot i _ e;exact⟨.ref a,ļ h1,a,ts,rfl,(rel.lent a _ h2).1,(rel.lent a _ h2).2,ig h3 λt d _ ⟨xs,b,vs,k1,k2,k3,k4⟩=>⟨xs,b,vs,k1,k2,rel.lent b _ k3,k4⟩⟩
def HY(i:Nat){x:Str}{px:Pos}(hk:Dp X i x=true:=by kernel_rfl)(hr:PA X es (tA (kk X cm) E ms))(hs:Ð (.Name x px::es) X.env=(false,eval (.Name x px) X.env)::Ð es X.env:=by exact Ō rfl):PA X (.Name x px::es) (tA (kk X cm) E<|Ì i ms):=
 PA.wk (ϳ (mV hk) hr hs)<|by
   rintro g H Q ⟨c,F,f,rel,h⟩;unfold Ì at h;cases e:(f[i]?).bind eS with
   |none=>rw[e]at h;exact h.elim|some s0=>
    rw[e]at h;obtain⟨v,hv,_⟩:=sY rel e;refine⟨v,hv,c,F,f,rel,ϴ.bind h λas d vs F2 H2 ē sF sH r2 h2=>?_⟩;cases e2:(d[i]?).bind eS with
    |none=>simp only[e2]at h2;exact h2.elim|some s=>simp only[e2]at h2;obtain⟨v',Jf,r1⟩:=sY ē e2;rw[hv]at Jf;cases Jf;exact h2 _ F2 H2 ē Č Č<|.cons r1 r2
@[simp]def ŵ(mr:M (List PV))(d:Ć):ĵ PV:=(mr d).bind λps c=>if ps.length<=16777216then .ok (.tup ps) c else .bad
@[simp]def bI(mr:M (List PV))(d:Ć):ĵ RV:=(mr d).bind λps c=>if ps.length<=16777216then .ok (.ow ps) c else .bad
def Ē:sizeLine=16777216:=cD
def Ŋ{x1}(h:PA X es (tL (kk X cm) E mr)):PE X (.Tuple es x1 pos) (tV (kk X cm) E<|ŵ mr):=PE.wk (EY h) λg H Q ⟨c,F,d,rel,h⟩=>
 ⟨c,F,d,rel,h.bind fun ps f vs F1 H1 ã _ _ r1 h1=>by
   split at h1
   ·rename_i hz;refine⟨by rw[<-â.length r1,Ē];exact hz,λp hp=>h1 _ _ _ (ã.alloc hp) (Ù.upd<|ã.sub.free hp) (Ù.upd hp) ?_⟩;show ă _ _ _ _;unfold ă;exact⟨p,vs,rfl,gk.of ö,â.same (Ù.upd<|ã.sub.free hp) ps vs r1⟩
   ·exact h1.elim⟩
def gn{K:KK}{c:Ctx}{F H:Hp}{d:Ċ}{f:Ć}{ps:List PV}{vs:List V}{a:À}(rel:ě K c F H d f)(ha:H a=none)(r:â K F ps vs):ě K c F (upd H a<|.lst vs) d f/\GV K c d f F (upd H a<|.lst vs) ps (.ref a):=
 ⟨rel.made ha,a,vs,rfl,ö,rel.sub.free ha,rel.base.free ha,rel.fresh ha,r⟩
def Ŭ(h:PA X es (tL (kk X cm) E mr)):PE X (.List es pos) (tO (kk X cm) E<|bI mr):=PE.wk (tK h) λg H Q ⟨c,F,d,rel,h⟩=>
 ⟨c,F,d,rel,h.bind fun ps f vs F1 H1 ã _ _ r1 h1=>by
   split at h1
   ·rename_i hz;refine⟨by rw[<-â.length r1,Ē];exact hz,λp hp=>?_⟩;obtain⟨q1,q2⟩:=gn ã hp r1;exact h1 _ _ _ q1 Č (Ù.upd hp) q2
   ·exact h1.elim⟩
@[simp]def aW(f:List PV->Option PV)(mr:M (List PV))(d:Ć):ĵ PV:=(mr d).bind λps c=>ĵ.zp (f ps) c
@[simp]def xZ(f:List PV->Option RV)(mr:M (List PV))(d:Ć):ĵ RV:=(mr d).bind λps c=>ĵ.zp (f ps) c
def eU(K:KK)(r:List V->Hp->VK->Prop)(f:List PV->Option PV):Prop:=∀{c:Ctx}{F H:Hp}{d:Ċ}{g:Ć}{ps:List PV}{pv:PV}{vs:List V}{Q:VK},ě K c F H d g->Lj K c d g F H ps vs->f ps=some pv->
 (∀z F' H',ě K c F' H' d g->Ù F F'->Ù H H'->ă K F' pv z->Q z H')->r vs H Q
def Fq(K:KK)(r:List V->Hp->VK->Prop)(f:List PV->Option RV):Prop:=∀{c:Ctx}{F H:Hp}{d:Ċ}{g:Ć}{ps:List PV}{pv:RV}{vs:List V}{Q:VK},ě K c F H d g->Lj K c d g F H ps vs->f ps=some pv->
 (∀z F' H',ě K c F' H' d g->Ù F F'->Ù H H'->rO K c d g F' H' pv z->Q z H')->r vs H Q
def OI{r:List V->Hp->VK->Prop}{f:List PV->Option PV}(hf:eU (kk X cm) r f){d:Ċ}{H:Hp}{Q:VK}(h:tV (kk X cm) E (aW f mr) d H Q):Rc r (G2 (kk X cm) E mr) d H Q:=by
 obtain⟨c,F,g,rel,h⟩:=h;refine⟨c,F,g,rel,h.bind λp i v F1 H1 ã _ _ r1 h1=>?_⟩;cases e:f p with
 |none=>rw[e]at h1;exact h1.elim|some pv=>rw[e]at h1;exact hf ã r1 e λz F' H' Š s1 s2 q'=>h1 z F' H' Š s1 s2 q'
def TZ{r:List V->Hp->VK->Prop}{f:List PV->Option RV}(hf:Fq (kk X cm) r f){d:Ċ}{H:Hp}{Q:VK}(h:tO (kk X cm) E (xZ f mr) d H Q):Rc r (G2 (kk X cm) E mr) d H Q:=by
 obtain⟨c,F,g,rel,h⟩:=h;refine⟨c,F,g,rel,h.bind λp i v F1 H1 ã _ _ r1 h1=>?_⟩;cases e:f p with
 |none=>rw[e]at h1;exact h1.elim|some pv=>rw[e]at h1;exact hf ã r1 e λz F' H' Š s1 s2 q'=>h1 z F' H' Š s1 s2 q'
end
open M3
@[simp]def cY(a:Ć):ĵ Fl:=.ok .nx a
def è(a b:M Fl):M Fl:=λd=>(a d).bind λf c=>match f with
 |.nx=>b c|f=>.ok f c
@[simp]def ý(i:Nat)(m:M RV)(b:Ć):ĵ Fl:=(m b).bind λr a=>.ok .nx<|a.set i r.slot
@[simp]def Ā(m:M RV)(b:Ć):ĵ Fl:=(m b).bind λr a=>.ok (.rt r) a
@[simp]def vC(m:M PV)(b:Ć):ĵ Fl:=(m b).bind λ_ a=>.ok .nx a
section
variable{X:Cx}{cm:String->À}{E:Ċ->XK}{a b e:È}{st:í}{rest:List í}{es:List È}{pos:Pos}{m1 m2:M Fl}{mo:M RV}{mv:M PV}
def Ą:ca X [] (tS (kk X cm) E cY):=ca.wk Ca λD d H ⟨c,F,f,rel,h⟩=>h d F H rel<|Ù.refl F
def ò(h:PS X st (tS (kk X cm) E m1)):ca X [st] (tS (kk X cm) E m1):=fT h
def H_{c:Ctx}{F:Hp}{D:Ends}{r:ĵ Fl}(h:ϻ (kk X cm) E c F D (r.bind λf d=>match f with|.nx=>m2 d|f=>.ok f d)):ϻ (kk X cm) E c F {D with nx:=tS (kk X cm) E m2 D} r:=by
 cases r with
 |ok f d=>
  cases f with
  |nx=>exact λg F' H' Š s=>⟨c,F',d,Š,ϻ.mono h s⟩
  |bk=>exact h|ct=>exact h|rt v=>exact h
 |exc x d=>exact h|bad=>exact h
def Û(h1:PS X st (tS (kk X cm) E m1))(h2:ca X rest (tS (kk X cm) E m2)):ca X (st::rest) (tS (kk X cm) E<|è m1 m2):=ca.wk (cb h1 h2) λD f H ⟨c,F,d,rel,h⟩=>⟨c,F,d,rel,H_ h⟩
def ě.Ll{K:KK}{c:Ctx}{F H:Hp}{d:Ċ}{f:Ć}{i:Nat}{t:Bool}{ps qs rows:List PV}{v:V}(r:ě K c F H d f)(q:nD K c.B F t ps qs rows v):ě K c F H (d.set i<|some v) (f.set i (RV.bn t ps qs rows).slot):=by
 cases t with
 |true=>exact r.put (s:=.sh<|Rh true ps qs rows) rfl ⟨v,rfl,nD.rep q⟩|false=>
  have e:ps=[]:=by
   obtain⟨_,_,_,_,_,_,_,_,_,_,_,z⟩:=q;rcases z with⟨_,z,_⟩|⟨z,_⟩
   ·exact z
   ·cases z
  subst e;exact r.put (s:=.bn qs rows) rfl ⟨v,rfl,q⟩
def OJ{i:Nat}{x:Str}{aY:Pos}(hN:X.N.Nodup)(hi:X.N[i]?=some x)(hx:Loc X.env.scope x)(he:PE X e (tO (kk X cm) E mo))(hs:ņ e (some<|.Name x aY) pos.line X.env=ì false:=by kernel_rfl)(hf:X.fn x=true\/X.env.scope.names.lookup x=some .local:=by first|exact .inl rfl|exact .inr rfl|assumption):
 PS X (.Assign [.Name x aY] e pos) (tS (kk X cm) E<|ý i mo):=PS.wk (tE hN hi hx he hs hf) λD g H ⟨c,F,d,rel,h⟩=>⟨c,F,d,rel,ϻ.bind h λr f v F1 H1 ã s1 q h1=>by
 cases r with
 |sh p=>exact h1 _ F1 H1 (ã.put rfl ⟨v,rfl,q⟩) Č|ow ps=>obtain⟨a,vs,rfl,q1,q2,q3,q4,q5⟩:=q;exact h1 _ F1 H1 (ã.DR ⟨a,vs,rfl,q1,q2,q3,q5⟩ λ_ z=>V.ref.inj z▸q4) Č
 |ot ps qs rs=>obtain⟨p,a,xs,vs,ys,rfl,q0,qx,q1,q2,q3,q4,q5,q6⟩:=q;exact h1 _ F1 H1 (ã.DR (s:=.ot ps qs rs) ⟨p,a,xs,vs,ys,rfl,q0,qx,q1,q2,q3,q5,q6⟩ λ_ z=>oV (ps:=ps) (qs:=qs) (rs:=rs) z ⟨p,xs,ys,rfl,q0,qx.length.symm⟩▸q4) Č
 |bn t ps qs rows=>exact h1 _ F1 H1 (ã.Ll q) Č⟩
def OK(he:PE X e (tO (kk X cm) E mo)):PS X (.Return (some e) pos) (tS (kk X cm) E<|Ā mo):=PS.wk (Kw he) λD d H ⟨c,F,f,rel,h⟩=>⟨c,F,f,rel,ϻ.bind h λr g v F1 H1 ã s1 q h1=>h1 v d F1 H1 ã Č q⟩
def tZ(he:PE X e (tV (kk X cm) E mv))(hs:ņ e none pos.line X.env=ì false:=by kernel_rfl):PS X (.Expr e pos) (tS (kk X cm) E<|vC mv):=PS.wk (ϝ he hs) λD d H ⟨c,F,f,rel,h⟩=>⟨c,F,f,rel,ϻ.bind h λr g v F1 H1 ã s1 q h1=>h1 d F1 H1 ã Č⟩
def ŋ{t:M Bool}{ss QL:List í}(hc:PT X a (tB (kk X cm) E t))(ha:ca X ss (tS (kk X cm) E m1))(hb:ca X QL (tS (kk X cm) E m2)):PS X (.If a ss QL pos) (tS (kk X cm) E<|a_ t m1 m2):=PS.wk (EH hc ha hb) λD g H ⟨c,F,f,rel,h⟩=>⟨c,F,f,rel,ϻ.bind h λr d v F1 H1 ã s1 q h1=>by
 have e:r=v:=q;subst e;cases r with
 |true=>exact⟨c,F1,d,ã,h1⟩|false=>exact⟨c,F1,d,ã,h1⟩⟩
noncomputable def cV{α:Type}:M α:=λ_=>.bad
def İ:PS X st (tS (kk X cm) E cV):=PS.wk EI λD d H ⟨c,F,f,rel,h⟩=>h
abbrev Tg:=PV->Ć->Option Ć
abbrev Eu:=List PV->Ć->Option Ć
def Lm(K:KK)(c:Ctx)(F H:Hp)(Q:Ċ->Hp->Prop):Option Ć->Prop
 |some f=>∀d,ě K c F H d f->Q d H|none=>False
def tT(K:KK)(g:Tg):TG:=λv f H Q=>∃c F d p,ě K c F H f d/\ă K F p v/\Lm K c F H Q (g p d)
def OL(K:KK)(g:Eu):EJ:=λv f H Q=>∃c F d p,ě K c F H f d/\â K F p v/\Lm K c F H Q (g p d)
noncomputable def gN(i:Nat):Tg:=λp ρ=>some<|ρ.set i<|.sh p
noncomputable def ű:Eu:=λps ρ=>match ps with
 |[]=>some ρ|_=>none
noncomputable def ð(g:Tg)(gs:Eu):Eu:=λps ρ=>match ps with
 |p::ps=>(g p ρ).bind λρ1=>gs ps ρ1
 |[]=>none
noncomputable def gT(n:Nat)(gs:Eu):Tg:=λp ρ=>match p with
 |.tup ps=>if ps.length=n then gs ps ρ else none|_=>none
def PG.T_{tg:È}{t t':TG}(h:PG X tg t)(i:∀v c H Q,t' v c H Q->t v c H Q):PG X tg t':=λÆ s c H v u Q I r q=>h Æ s c H v u Q I r<|i v c H Q q
def Ap.wk{tg:List È}{t t':EJ}(h:Ap X tg t)(i:∀v c H Q,t' v c H Q->t v c H Q):Ap X tg t':=λÆ s c H v u Q I r q=>h Æ s c H v u Q I r<|i v c H Q q
def Fs{i:Nat}{x:Str}(hN:X.N.Nodup)(hi:X.N[i]?=some x)(hx:Loc X.env.scope x)(hf:X.fn x=true\/X.env.scope.names.lookup x=some .local:=by first|exact .inl rfl|exact .inr rfl|assumption):PG X (.Name x pos) (tT (kk X cm)<|gN i):=
 PG.T_ (mj hN hi hx hf) λv d H Q ⟨c,F,f,p,rel,rp,h⟩=>h _<|rel.put rfl ⟨v,rfl,rp⟩
def dS:Ap X [] (OL (kk X cm) ű):=Ap.wk xH<|by
 rintro v d H Q ⟨c,F,f,p,rel,rp,h⟩;cases p with
 |nil=>
  have e:v=[]:=by have:=rp;unfold â at this;exact this
  exact⟨e,h d rel⟩
 |cons _ _=>exact h.elim
def Ġ{es:List È}{g:Tg}{gs:Eu}(h1:PG X e (tT (kk X cm) g))(h2:Ap X es (OL (kk X cm) gs))(hs:(ϙ (e::es) X.env).map (·.2)=de e X.env::(ϙ es X.env).map (·.2):=by rfl):Ap X (e::es) (OL (kk X cm)<|ð g gs):=
 Ap.wk (iP h1 h2 hs)<|by
  rintro v j H Q ⟨c,F,f,p,rel,rp,h⟩;cases p with
  |nil=>exact h.elim|cons p ps=>
   unfold â at rp;obtain⟨x,r,rfl,r1,r2⟩:=rp;refine⟨x,r,rfl,c,F,f,p,rel,r1,?_⟩;unfold ð at h;dsimp only at h;cases eg:g p f with
   |none=>rw[eg]at h;exact h.elim|some d=>rw[eg]at h;exact λi Š=>⟨c,F,d,ps,Š,r2,h⟩
def mW{es:List È}{k:Nat}{gs:Eu}{n:Nat}(hc:X.calm=true)(h:Ap X es (OL (kk X cm) gs))(hn:(ϙ es X.env).length=n:=by rfl)(gi:(ϙ es X.env).findIdx? (·.1)=none:=by rfl):PG X (.Tuple es k pos) (tT (kk X cm)<|gT n gs):=
 PG.T_ (xI hc h hn gi)<|by
   rintro v f H Q ⟨c,F,d,p,rel,rp,h⟩;cases p with
   |tup ps=>
    unfold ă at rp;obtain⟨a,xs,h1,h2,h3⟩:=rp;unfold gT at h;dsimp only at h;split at h
    ·rename_i hl;exact⟨a,xs,h1,Ù.tup rel.sub h2,by rw[<-h3.length];exact hl,c,F,d,ps,rel,h3,h⟩
    ·exact h.elim
   |_=>exact h.elim
@[simp]def H0(g:Tg)(m:M PV)(f:Ć):ĵ Fl:=(m f).bind fun p c=>match g p c with
  |some d=>.ok .nx d|none=>.bad
def Ft{tg:È}{g:Tg}(he:PE X e (tV (kk X cm) E mv))(hg:PG X tg (tT (kk X cm) g))(hs:wZ [tg] e pos.line X.env=ì false:=by rfl)(hw:w_ [tg] e X.env=ì none:=by rfl)
 (h1:(ϙ [tg] X.env).map (·.2)=[de tg X.env]:=by rfl):PS X (.Assign [tg] e pos) (tS (kk X cm) E<|H0 g mv):=PS.wk (EL he hg hs hw h1) λD k H ⟨c,F,i,rel,h⟩=>⟨c,F,i,rel,ϻ.bind h λr d v F1 H1 ã s1 q h1=>by
 refine⟨c,F1,d,r,ã,q,?_⟩;cases eg:g r d with
 |none=>rw[eg]at h1;exact h1.elim|some j=>rw[eg]at h1;exact λf Š=>h1 f F1 H1 Š Č⟩
@[simp]def Fu(i:Nat)(mi:M PV)(m:M PV)(f:Ć):ĵ Fl:=(m f).bind fun p c=>match c[i]?with
  |some (.ow _)=>(mi c).bind λq d=>match d[i]?,q with
   |some (.ow ps),.int k=>match DH ps.length k with
    |some j=>.ok .nx<|d.set i<|.ow<|ps.set j p|none=>.bad
   |_,_=>.bad
  |_=>.bad
def Ia{i:Nat}{x:Str}{ix:È}{mi:M PV}{px mQ:Pos}(he:PE X e (tV (kk X cm) E mv))(hi:PE X ix (tV (kk X cm) E mi))(ho:PE X (.Name x px) (dQ i))
 (Jl:∀v,de (.Subscript (.Name x px) ix mQ) X.env v=(do
   let ov<-cB [v] (eval (.Name x px) X.env)
   let iv<-cB [v,ov] (eval ix X.env)
   gR mQ
   cB [v,ov,iv] (setItem ov iv v)
   release [v,ov,iv] []):=by intro _;rfl)
 (hs:wZ [.Subscript (.Name x px) ix mQ] e pos.line X.env=ì false:=by rfl)(hw:w_ [.Subscript (.Name x px) ix mQ] e X.env=ì none:=by rfl)
 (h1:(ϙ [.Subscript (.Name x px) ix mQ] X.env).map (·.2)=[de (.Subscript (.Name x px) ix mQ) X.env]:=by rfl):
 PS X (.Assign [.Subscript (.Name x px) ix mQ] e pos) (tS (kk X cm) E<|Fu i mi mv):=PS.wk (EL he (Kz ho hi GR Jl) hs hw h1) λD g H ⟨c,F,l,rel,h⟩=>⟨c,F,l,rel,ϻ.bind h λp d v F1 H1 ã s1 q h1=>by
 cases e1:d[i]?with
 |none=>rw[e1]at h1;exact h1.elim|some sl=>
  rw[e1]at h1;cases sl with
  |ow T1=>
   obtain⟨a,T2,z1,_,_,_,_,_⟩:=ã.ow e1;refine⟨.ref a,z1,c,F1,d,ã,ϻ.bind h1 λq' f u F2 H2 ē s2 r2 h2=>?_⟩;cases e2:f[i]?with
   |none=>rw[e2]at h2;exact h2.elim|some Eo=>
    rw[e2]at h2;cases Eo with
    |ow ps=>
     cases q' with
     |int k=>
      have eu:u=.int k:=by have:ă (kk X cm) F2 (.int k) u:=r2;unfold ă at this;exact this
      subst eu;dsimp only at h2;obtain⟨a2,vs,w1,w2,w3,w4,w5,w6⟩:=ē.ow e2;rw[z1]at w1;cases w1;cases ej:DH ps.length k with
      |none=>rw[ej]at h2;exact h2.elim|some j=>rw[ej]at h2;refine⟨a,vs,k,j,rfl,rfl,w2,by rw[<-w5.length];exact ej,h2 g F2 _ (ē.write w6 z1 ⟨a,vs.set j v,rfl,ö,w3,w4,?_⟩ λ_ z=>(V.ref.inj z).symm) Č⟩;exact â.of<|Fm (ă.same s2 p v q) j w5.pr
     |_=>exact h2.elim
    |_=>exact h2.elim
  |_=>exact h1.elim⟩
@[simp]def uX(i:Nat)(m:M PV)(d:Ć):ĵ Fl:=match d[i]?with
  |some (.ow _)=>(m d).bind λp c=>match c[i]?with
   |some (.ow ps)=>if ps.length<16777216then .ok .nx (c.set i<|.ow<|ps++[p])else .bad|_=>.bad
  |_=>.bad
def ii{i:Nat}{D:Ends}{g:Ċ}{H:Hp}(h:tS (kk X cm) E (uX i mv) D g H):qB (K0 X.K "list" my (dQ i) (tL (kk X cm) E<|É mv å)) D g H:=by
 obtain⟨c,F,j,rel,h⟩:=h;unfold uX at h;cases e1:j[i]?with
 |none=>rw[e1]at h;exact h.elim|some sl=>
  rw[e1]at h;cases sl with
  |ow T1=>
   obtain⟨a,T2,z1,z2,z3,z4,z5,z6⟩:=rel.ow e1;refine⟨.ref a,z1,.inl ⟨rfl,_,Ϫ.of z2⟩,c,F,j,rel,?_⟩;dsimp only at h;unfold É;cases em:mv j with
   |bad=>rw[em]at h;exact h|exc x f=>rw[em]at h;exact λC d F' H' Š s1 q=>h g C d F' H' Š s1 q
   |ok p f=>
    rw[em]at h;intro us F1 H1 ã s1 s2 r1;have kA:â (kk X cm) F1 [p] us:=r1;cases kA.pr with
    |cons rp t=>
     rename_i v yR;cases t;cases e2:f[i]?with
     |none=>simp only[ĵ.aQ,e2]at h;exact h.elim|some Eo=>
      simp only[ĵ.aQ,e2]at h;cases Eo with
      |ow ps=>
       obtain⟨a2,vs,w1,w2,w3,w4,w5,w6⟩:=ã.ow e2;rw[z1]at w1;cases w1;dsimp only at h;split at h
       ·rename_i hz;refine⟨a,vs,v,rfl,rfl,w2,by rw[<-w5.length,Ē];exact hz,h g F1 _ (ã.write w6 z1 ⟨a,vs++[v],rfl,ö,w3,w4,â.append w5<|â.cons rp â.nil⟩ λ_ z=>(V.ref.inj z).symm) s1⟩
       ·exact h.elim
      |_=>exact h.elim
  |_=>exact h.elim
noncomputable def Ħ(mc:M Bool)(mb:M Fl):Nat->Ć->ĵ Fl
 |0,_=>.bad|n+1,ρ=>(mc ρ).bind λb ρ1=>if b=true then(mb ρ1).bind λf ρ2=>match f with
  |.nx=>Ħ mc mb n ρ2|.ct=>Ħ mc mb n ρ2|.bk=>.ok .nx ρ2|.rt r=>.ok (.rt r) ρ2 else .ok .nx ρ1
theorem ba{mc:M Bool}{mb:M Fl}(n:Nat)(g:Ć):Ħ mc mb (n+1) g=(mc g).bind λb d=>if b=true then(mb d).bind λf c=>match f with
 |.nx=>Ħ mc mb n c|.ct=>Ħ mc mb n c|.bk=>.ok .nx c|.rt r=>.ok (.rt r) c else .ok .nx d:=rfl
open Classical in
noncomputable def aE(mc:M Bool)(mb:M Fl):M Fl:=λρ=>if h:∃n,Ħ mc mb n ρ≠.bad then Ħ mc mb (Bv h) ρ else .bad
theorem kI{mc:M Bool}{mb:M Fl}:∀(n:Nat) (d:Ć),Ħ mc mb n d≠.bad->Ħ mc mb (n+1) d=Ħ mc mb n d
 |0,d,h=>absurd rfl h|n+1,d,h=>by
  rw[ba]at h;rw[ba<|n+1,ba n];cases e:mc d with
  |bad=>rfl|exc x g=>rfl|ok b g=>
   rw[e]at h;simp only[ĵ.aQ]at h⊢;cases b with
   |false=>rfl|true=>
    simp only[if_true]at h⊢;cases e2:mb g with
    |bad=>rfl|exc x c=>rfl|ok f c=>
     rw[e2]at h;simp only[ĵ.aQ]at h⊢;cases f with
     |nx=>exact kI n c h|ct=>exact kI n c h|bk=>rfl|rt r=>rfl
def vD{mc:M Bool}{mb:M Fl}{n m:Nat}{c:Ć}(h:Ħ mc mb n c≠.bad)(hm:n<=m):Ħ mc mb m c=Ħ mc mb n c:=by
 induction hm with
 |refl=>rfl|step _ ih=>rw[kI _ _ (by rw[ih];exact h),ih]
def bJ{mc:M Bool}{mb:M Fl}{c:Ć}(n:Nat)(h:Ħ mc mb n c≠.bad):aE mc mb c=Ħ mc mb n c:=by
 unfold aE;have hx:∃n,Ħ mc mb n c≠.bad:=⟨n,h⟩;rw[dif_pos hx];have hc:=Classical.choose_spec hx;rcases Nat.le_total n (Bv hx)with hle|hle
 ·exact vD h hle
 ·exact(vD hc hle).symm
theorem cQ{mc:M Bool}{mb:M Fl}{d:Ć}:aE mc mb d=(mc d).bind λb g=>if b=true then(mb g).bind λf c=>match f with
 |.nx=>aE mc mb c|.ct=>aE mc mb c|.bk=>.ok .nx c|.rt r=>.ok (.rt r) c else .ok .nx g:=by
 have go:∀c,aE mc mb c=.bad\/∃n,aE mc mb c=Ħ mc mb n c/\Ħ mc mb n c≠.bad:=λc=>by
  by_cases hx:∃n,Ħ mc mb n c≠.bad
  ·obtain⟨n,h⟩:=hx;exact .inr ⟨n,bJ n h,h⟩
  ·left;unfold aE;rw[dif_neg hx]
 have T3:∀c,aE mc mb c=.bad->∀n,Ħ mc mb n c=.bad:=λc h n=>by refine Bw λz=>?_;rw[bJ n z]at h;exact z h
 have lf:∀n,Ħ mc mb (n+1) d≠.bad->aE mc mb d=Ħ mc mb (n+1) d:=λn h=>bJ _ h;cases e:mc d with
 |bad=>rcases go d with h|⟨n,h1,h2⟩
       ·rw[h];rfl
       ·cases n with
        |zero=>exact absurd rfl h2|succ n=>rw[ba,e]at h2;exact absurd rfl h2
 |exc x g=>
  have h:Ħ mc mb 1 d=.exc x g:=by rw[ba,e];rfl
  rw[bJ 1 (by rw[h];intro z;cases z),h];rfl
 |ok b g=>
  simp only[ĵ.aQ];cases b with
  |false=>
   have h:Ħ mc mb 1 d=.ok .nx g:=by rw[ba,e];rfl
   rw[bJ 1 (by rw[h];intro z;cases z),h];rfl
  |true=>
   simp only[if_true];have one:∀n,Ħ mc mb (n+1) d=(mb g).bind λf c=>match f with
    |.nx=>Ħ mc mb n c|.ct=>Ħ mc mb n c|.bk=>.ok .nx c|.rt r=>.ok (.rt r) c:=λn=>by rw[ba,e];rfl
   cases e2:mb g with
   |bad=>
    rcases go d with h|⟨n,h1,h2⟩
    ·rw[h];rfl
    ·cases n with
     |zero=>exact absurd rfl h2|succ n=>rw[one,e2]at h2;exact absurd rfl h2
   |exc x c=>
    have h:Ħ mc mb 1 d=.exc x c:=by rw[one,e2];rfl
    rw[bJ 1 (by rw[h];intro z;cases z),h];rfl
   |ok f c=>
    have turn:(∀n,Ħ mc mb (n+1) d=Ħ mc mb n c)->aE mc mb d=aE mc mb c:=λhn=>by
     rcases go c with h|⟨n,h1,h2⟩
     ·rcases go d with h'|⟨n,h1,h2⟩
      ·rw[h,h']
      ·cases n with
       |zero=>exact absurd rfl h2|succ n=>rw[hn,T3 c h n]at h2;exact absurd rfl h2
     ·rw[h1,<-hn n];exact lf n (by rw[hn n];exact h2)
    cases f with
    |nx=>exact turn λn=>by rw[one,e2];rfl
    |ct=>exact turn λn=>by rw[one,e2];rfl
    |bk=>
     have h:Ħ mc mb 1 d=.ok .nx c:=by rw[one,e2];rfl
     rw[bJ 1 (by rw[h];intro z;cases z),h];rfl
    |rt r=>
     have h:Ħ mc mb 1 d=.ok (.rt r) c:=by rw[one,e2];rfl
     rw[bJ 1 (by rw[h];intro z;cases z),h];rfl
def Cy{c:È}{body:List í}{mc:M Bool}{mb:M Fl}(hp:lH (Ö X.prog X.w) X.A X.env X.xe)(hc:PT X c (tB (kk X cm) E mc))(hb:ca X body (tS (kk X cm) E mb)):PS X (.While c body [] pos) (tS (kk X cm) E<|aE mc mb):=PS.wk (EM hp hc hb)<|by
 rintro D p H ⟨c,F,j,rel,h⟩;obtain⟨n,hn⟩:∃n,ϻ (kk X cm) E c F D (Ħ mc mb n j):=by
  by_cases hx:∃n,Ħ mc mb n j≠.bad
  ·obtain⟨n,hn⟩:=hx;rw[bJ n hn]at h;exact⟨n,h⟩
  ·unfold aE at h;rw[dif_neg hx]at h;exact h.elim
 refine⟨λm g H'=>∃F2 d,ě (kk X cm) c F2 H' g d/\Ù F F2/\ϻ (kk X cm) E c F2 D (Ħ mc mb m d),⟨n,F,j,rel,Ù.refl _,hn⟩,?_⟩;rintro m l H1 ⟨F1,o,ã,s1,h1⟩;cases m with
 |zero=>exact h1.elim|succ m=>
  rw[ba]at h1;refine⟨c,F1,o,ã,ϻ.bind h1 λk d v F2 H2 ē s2 q h2=>?_⟩;have e:k=v:=q;subst e;cases k with
  |false=>rw[if_neg aG];rw[if_neg aG]at h2;exact h2 l F2 H2 ē Č|true=>
   rw[if_pos rfl];rw[if_pos rfl]at h2;refine⟨_,λg H' z=>z,c,F2,d,ē,?_⟩;have QM:∀{i:Ć},ϻ (kk X cm) E c F2 D (Ħ mc mb m i)->∀g F' H',ě (kk X cm) c F' H' g i->Ù F2 F'->∃m',m'<m+1/\∃F2 d,ě (kk X cm) c F2 H' g d/\Ù F F2/\ϻ (kk X cm) E c F2 D (Ħ mc mb m' d):=
    fun{i} h3 g F' H' Š s'=>⟨m,si m,F',i,Š,(s1.trans s2).trans s',ϻ.mono h3 s'⟩
   cases e2:mb d with
   |bad=>rw[e2]at h2;exact h2|exc x i=>rw[e2]at h2;exact h2|ok f i=>
    rw[e2]at h2;cases f with
    |nx=>exact QM h2|ct=>exact QM h2|bk=>exact h2|rt r=>exact h2
def iG(K:KK)(Lh F:Hp)(J:It)(items:List PV):Prop:=∀(c:Ctx) (i:Nat) (F2 H:Hp) (d:Ċ) (f:Ć),ě K c F2 H d f->Ù F F2->Ù Lh H->
 (∀p,items[i]?=some p->J.go i H/\∀x H',J.N8 i H x H'->∃F3,ě K c F3 H' d f/\Ù F2 F3/\Ù H H'/\ă K F3 p x)/\(i=items.length->J.stop i H)
def XE(K:KK):RR (List PV) It:=λc _ _ F _ items J=>iG K c.L F J items
abbrev tI(K:KK)(E:Ċ->XK)(m:M (List PV)):TI:=tG K E (XE K) m
noncomputable def ĺ(g:Tg)(mb:M Fl):List PV->M Fl
 |[],ρ=>.ok .nx ρ|p::ps,ρ=>match g p ρ with
  |none=>.bad|some ρ1=>(mb ρ1).bind λf ρ2=>match f with
   |.nx=>ĺ g mb ps ρ2|.ct=>ĺ g mb ps ρ2|.bk=>.ok .nx ρ2|.rt r=>.ok (.rt r) ρ2
def cW(mi:M (List PV))(g:Tg)(mb:M Fl):M Fl:=λd=>(mi d).bind λitems c=>ĺ g mb items c
def ϩ{iter tg:È}{body:List í}{mi:M (List PV)}{g:Tg}{mb:M Fl}(hp:lH (Ö X.prog X.w) X.A X.env X.xe)(hc:X.calm=true)(hi:PI X tg iter (tI (kk X cm) E mi))(hg:PG X tg (tT (kk X cm) g))(hb:ca X body (tS (kk X cm) E mb))
 (hs:∀x,cC iter X.env x=ì x:=by intro _;rfl):PS X (.For tg iter body [] pos) (tS (kk X cm) E<|cW mi g mb):=PS.wk (AF hp hc hi hg hb hs) λD s H ⟨c,F,p,rel,h⟩=>⟨c,F,p,rel,ϻ.bind h λitems o J F1 H1 ã s1 MX h1=>by
 refine⟨λi m j H'=>∃F2 d,i<=items.length/\m=items.length-i/\ě (kk X cm) c F2 H' j d/\Ù F1 F2/\ϻ (kk X cm) E c F2 D (ĺ g mb (items.drop i) d),⟨_,F1,o,bu _,rfl,ã,Ù.refl _,h1⟩,?_⟩;rintro i m l H2 ⟨F2,d,hle,rfl,ē,s2,h2⟩;obtain⟨go,stop⟩:=MX c i F2 H2 l d ē s2 λb u e=>(ē.lent b u e).1;by_cases mT:i<items.length
 ·obtain⟨g1,g2⟩:=go items[i] (ţ mT);rw[fI mT]at h2;unfold ĺ at h2;refine .inr ⟨g1,_,λj H' z=>z,λx H3 hy=>?_⟩;obtain⟨F3,fU,s3,_,rp⟩:=g2 x H3 hy;refine⟨c,F3,d,items[i],fU,rp,?_⟩;cases eg:g items[i] d with
  |none=>rw[eg]at h2;exact h2.elim|some n=>
   rw[eg]at h2;dsimp only at h2;intro q qe;refine⟨c,F3,n,qe,?_⟩;have QM:∀{k:Ć},ϻ (kk X cm) E c F2 D (ĺ g mb (items.drop<|i+1) k)->∀j F' H',ě (kk X cm) c F' H' j k->Ù F3 F'->∃m',m'<items.length-i/\∃F2 d,i+1<=items.length/\m'=items.length-(i+1)/\ě (kk X cm) c F2 H' j d/\Ù F1 F2/\ϻ (kk X cm) E c F2 D (ĺ g mb (items.drop<|i+1) d):=
    fun{k} h3 j F' H' Š s'=>⟨items.length-(i+1),by lia,F',k,mT,rfl,Š,(s2.trans s3).trans s',ϻ.mono h3<|s3.trans s'⟩
   have Jj:=ϻ.mono h2 s3;cases e2:mb n with
   |bad=>rw[e2]at h2;exact h2|exc x k=>rw[e2]at Jj;exact Jj|ok f k=>
    rw[e2]at h2 Jj;cases f with
    |nx=>exact QM h2|ct=>exact QM h2|bk=>exact Jj|rt r=>exact Jj
 ·have e:i=items.length:=by lia
  refine .inl ⟨stop e,?_⟩;rw[gL<|by lia]at h2;unfold ĺ at h2;exact h2 l F2 H2 ē Č⟩
end
inductive FR where
 |ret (r:RV)|exc (x:PX)|bad
abbrev MF:=List Slot->FR
noncomputable def FR.of:ĵ Fl->FR
 |.ok (.rt r) _=>.ret r|.ok .nx _=>.ret<|.sh .non|.exc x _=>.exc x|_=>.bad
def ď(n k:Nat)(mb:M Fl):MF:=λas=>if as.length=n then FR.of (mb<|Ŀ k as)else .bad
def rF(K:KK)(H F' H':Hp):RV->V->Prop
 |.sh p,v=>ă K F' p v|.ow ps,v=>∃a vs,v=.ref a/\H' a=some (.lst vs)/\F' a=none/\H a=none/\â K F' ps vs|.ot ps qs rs,v=>∃p a xs vs ys,v=.ref p/\F' p=some (.tup (xs++.ref a::ys))/\â K F' ps xs/\H' a=some (.lst vs)/\F' a=none/\H a=none/\â K F' qs vs/\â K F' rs ys|.bn t ps qs rows,v=>nD K H F' t ps qs rows v
def T4(K:KK)(E:XK)(F H:Hp)(Q:VK):FR->Prop
 |.ret r=>∀v F' H',Gr F H F' H'->rF K H F' H' r v->Q v H'|.exc x=>∀C d F' H',Gr F H F' H'->DT K F' x C d->E C d H'|.bad=>False
def vE(K:KK)(n:Nat)(mf:MF):Sp:=λvs H Q E=>∃F as,as.length=n/\Ù F H/\Paired (dL K F H) as vs/\T4 K E F H Q (mf as)
def dn(CX:ia)(X:Cx)(E:Ċ->XK):Prop:=∀(Æ:List (À×Obj)) (a:Ċ) (H:Hp) (s:Ã) (e:Á) (s':Ã),Inv X Æ a H s->CX X.stack H s (E a) e s'->X.xe e s'
def nH{X:Cx}{E:Ċ->XK}:dn DM X E:=λ_ _ _ _ _ _ _ h=>h.elim
section
variable{P:ä}{w:Þ}{K:Î}{cm:String->À}{mg:Str->Option Á}{base:Ñ}{CX:ia}
def fnP{x Ő:Str}{st:í}{f:À}{fd:ċ}{N ps:List Str}{k:Nat}{mb:M Fl}(F:G1 K x Ő st f fd)(S:ό N ps (ÿ st))
 (li:∀(cdv:Á) (A:ê) (outer:List Env) (s:Ã) (H:Hp) (E:XK),ϫ k (A.deeper<|Ϙ Ő (ÿ st) s.heap.objs.size f cdv)→
   ca (tM CX P w K mg base N Ő (ÿ st) f cdv A outer s H E) (ύ st) (tS ⟨K,cm⟩ (λ_=>E) mb)):b_ P w K mg base CX (k+1) f fd ps (vE ⟨K,cm⟩ ps.length<|ď ps.length N.length mb):=by
 obtain⟨oc,od,kV,doc,pm,an,cdv,ct,Hd,rfl,lk,Ek⟩:=F.ex;refine EZ lk Ek S (λvs H Q E ⟨F,J7,h1,_,h2,_⟩=>by rw[<-Paired.length h2];exact h1) λA outer s H vs Q E hr Ez=>?_;obtain⟨F,J7,h1,h2,h3,h4⟩:=Ez;refine⟨_,li cdv A outer s H E hr,dY F H,F,Ŀ N.length J7,ě.start h2 h3,?_⟩;unfold ď at h4;rw[if_pos h1]at h4;cases e:mb (Ŀ N.length J7)with
 |bad=>rw[e]at h4;exact h4|exc x c=>rw[e]at h4;exact λb C d F' H' rel s1 q=>h4 C d F' H' rel.gr q
 |ok fl c=>
  rw[e]at h4;cases fl with
  |nx=>exact λb F' H' rel s1=>h4 .non F' H' rel.gr<|ă.non (K:=⟨K,cm⟩) (F:=F')
  |bk=>exact h4.elim|ct=>exact h4.elim|rt r=>
   intro v b F' H' rel s1 q;refine h4 v F' H' rel.gr ?_;cases r with
   |sh p=>exact q|ow qs=>obtain⟨a,yR,e1,e2,e3,e4,_,e5⟩:=q;exact⟨a,yR,e1,e2,e3,e4,e5⟩|ot qs ts rs=>obtain⟨p,a,xs,yR,ys,e1,e0,ex,e2,e3,e4,_,e5⟩:=q;exact⟨p,a,xs,yR,ys,e1,e0,ex,e2,e3,e4,e5⟩|bn t ps qs rows=>exact q
def fnQ{x Ő:Str}{st:í}{f:À}{fd:ċ}{N ps:List Str}{k n j:Nat}{mb:M Fl}{mf:MF}(F:G1 K x Ő st f fd)(S:ό N ps (ÿ st))(hn:ps.length=n)(hj:N.length=j)(hf:mf=ď n j mb)
 (li:∀(cdv:Á) (A:ê) (outer:List Env) (s:Ã) (H:Hp) (E:XK),ϫ k (A.deeper<|Ϙ Ő (ÿ st) s.heap.objs.size f cdv)→
   ca (tM CX P w K mg base N Ő (ÿ st) f cdv A outer s H E) (ύ st) (tS ⟨K,cm⟩ (λ_=>E) mb)):b_ P w K mg base CX (k+1) f fd ps (vE ⟨K,cm⟩ n mf):=by
 subst hn hj hf;exact fnP F S li
end
@[simp]def Ý(mf:MF)(mr:M (List Slot))(b:Ć):ĵ RV:=(mr b).bind fun ps a=>match mf ps with
  |.ret r=>.ok r a|.exc x=>.exc x a|.bad=>.bad
section
variable{X:Cx}{cm:String->À}{E:Ċ->XK}{CX:ia}{k n:Nat}{f:À}{fd:ċ}{ps:List Str}{mf:MF}{mr:M (List Slot)}{x:Str}{p pos:Pos}{e:È}{es:List È}
def oY{sp:Sp}{Æ:List (À×Obj)}{a:Ċ}{H:Hp}{s:Ã}{Q:VK}{us:List Á}{vs:List V}(F:b_ X.prog X.w X.K X.mg X.base CX k f fd ps sp)(hr:ϫ k X.A)(hb:Binds X.K fd ps [])(hx:dn CX X E)
 (I:Inv X Æ a H s)(r:ĳ vs us)(h:sp vs H Q (E a)):Ï (Ö X.prog X.w) X.A (call (.ref f) us) (EP X Æ a Q) X.xe s:=by
 have hl:(us++[]).length=ps.length:=by rw[jw,<-r.length];exact F.len _ _ _ _ h
 have QN:=hb s us I.yW hl;rw[jw]at QN;refine wpAny_call<|lN (F.run X.A X.stack s H ⟨us,[]⟩ us vs Q (E a) hr I.env0 QN r h) λr s' hq=>?_;cases r with
 |error e=>exact hx Æ a H s e s' I hq|ok fl=>
  cases fl with
  |ret u=>exact I.after hq|next=>exact aI hq|brk=>exact aI hq|cont=>exact aI hq
def t_{c:Ctx}{F1 H1:Hp}{i:Ċ}{b:Ć}{Q:VK}{ps:List Slot}{vs:List V}(hlen:(∃r,mf ps=r/\∀z,r=z->z≠.bad)->ps.length=n)(ã:ě (kk X cm) c F1 H1 i b)(r1:Paired (dL (kk X cm) F1 H1) ps vs)
 (h:ϴ (kk X cm) E (rO<|kk X cm) c F1 H1 i Q (match mf ps with|.ret r=>.ok r b|.exc x=>.exc x b|.bad=>.bad)):vE (kk X cm) n mf vs H1 Q (E i):=by
 refine⟨F1,ps,?_,ã.sub,r1,?_⟩
 ·refine hlen ⟨_,rfl,λz hz hb=>?_⟩;rw[hz,hb]at h;exact h
 ·cases em:mf ps with
  |bad=>rw[em]at h;exact h|exc x=>rw[em]at h;exact λC d F' H' g rx=>h C d F' H' (ã.call g) g.f rx
  |ret r=>
   rw[em]at h;intro v F' H' g rf;refine h v F' H' (ã.call g) g.f g.h ?_;cases r with
   |sh p=>exact rf|ow qs=>obtain⟨a,yR,e1,e2,e3,e4,e5⟩:=rf;exact⟨a,yR,e1,e2,e3,ã.base.free e4,ã.jP g.f<|ã.fresh e4,e5⟩|ot qs ts rs=>obtain⟨p,a,xs,yR,ys,e1,e0,ex,e2,e3,e4,e5⟩:=rf;exact⟨p,a,xs,yR,ys,e1,e0,ex,e2,e3,ã.base.free e4,ã.jP g.f<|ã.fresh e4,e5⟩|bn t ps qs rows=>exact nD.base rf ã.base
def oZ{n k:Nat}{mb:M Fl}{ps:List Slot}(h:∃r,ď n k mb ps=r/\∀z,r=z->z≠.bad):ps.length=n:=by
 obtain⟨r,h1,h2⟩:=h;unfold ď at h1;by_cases hl:ps.length=n
 ·exact hl
 ·rw[if_neg hl]at h1;exact absurd h1.symm (λz=>h2 .bad (by rw[<-h1]) rfl)
def Lo(F:b_ X.prog X.w X.K X.mg X.base CX k f fd ps (vE (kk X cm) n mf))(hlen:∀{ps:List Slot},(∃r,mf ps=r/\∀z,r=z->z≠.bad)->ps.length=n)(hr:ϫ k X.A)(hg:Gl X x)(hm:X.mg x=some (.ref f))(hk:bE X.K (.ref f)=true)(hb:Binds X.K fd ps [])(hx:dn CX X E)
 (ha:PA X (e::es) (tA (kk X cm) E mr))(qz:(x==("__debug__":Str))=false:=by kernel_rfl)(he:Ð (e::es) X.env=(false,eval e X.env)::Ð es X.env:=by exact Ō rfl)(hpl:(Ĉ pos<|Ð es X.env).any (·.1)=false:=by kernel_rfl):
 PE X (.Call (.Name x p) (e::es) [] pos) (tO (kk X cm) E<|Ý mf mr):=by
 intro Æ s a H Q I h;obtain⟨c,F,b,rel,h⟩:=h;refine lK<|sU I hg hm ?_ qz;refine oP (h₀:=X.base) I.ok.mod.Js hk (ώ (ha pos Æ s a H (λvs H1=>vE (kk X cm) n mf vs H1 Q<|E a) I ⟨c,F,b,rel,h.bind λJ7 d vs F1 H1 ã _ _ r1 h1=>t_ hlen ã r1 h1⟩) λus s1 ⟨vs,H1,I1,r,q⟩=>⟨I1.yW,?_⟩) he hpl;exact oY (by assumption) hr hb hx I1 r q
end
@[simp]def Ϥ(m:M PV)(b:Ć):ĵ (List PV):=(m b).bind fun p a=>match p with
  |.lst ps=>.ok ps a|.tup ps=>.ok ps a|.str z=>.ok (z.cps.toList.map λc=>.str ⟨#[c]⟩) a
  |_=>.bad
section
variable{X:Cx}{cm:String->À}{E:Ċ->XK}{tg:È}
def T5(K:Î)(tl:TE):TI:=λb H R=>tl b H λx H1=>(∃a,x=.ref a/\(∃xs,Ϫ K H1 a xs)/\R (Jt K a) H1)\/(∃a,x=.ref a/\(∃xs,gk K H1 a xs)/\R (N9 K a) H1)\/∃z,x=.str z/\R (Its z) H1
def AV{l:È}{tl:TE}(hl:PE X l tl):PI X tg l (T5 X.K tl):=by
 intro Æ s c H R I h;refine ώ (hl Æ s c H _ I h) λv s1 zz=>?_;obtain⟨x,H1,I1,r1,q1⟩:=zz;rcases q1 with⟨a,e,⟨xs,hq⟩,q⟩|⟨a,e,⟨xs,hq⟩,q⟩|⟨z,e,q⟩
 ·subst e;cases r1;obtain⟨č,rv,p,hz⟩:=I1.list hq;refine lO p.isList ?_;refine⟨s1.heap.objs.size,[s1.heap.objs.size],_,_,H1,rfl,I1.kept (t':=s1.toks) λb o e=>Ă _ e,Dq a _,⟨_,į _ rfl,rfl,rfl⟩,λb hb=>?_,q⟩;have e:b=s1.heap.objs.size:=by simpa using hb
  subst e;exact I1.AC (ø _)<|I1.hok.fresh<|ø _
 ·subst e;cases r1;obtain⟨č,rv,p,hz⟩:=I1.tuple hq;refine xf (show s1.heap.IsTuple a č.toArray from p) ?_;refine⟨s1.heap.objs.size,[s1.heap.objs.size],_,_,H1,rfl,I1.kept (t':=s1.toks) λb o e=>Ă _ e,AD a _,⟨_,į _ rfl,rfl,rfl⟩,λb hb=>?_,q⟩;have e:b=s1.heap.objs.size:=by simpa using hb
  subst e;exact I1.AC (ø _)<|I1.hok.fresh<|ø _
 ·subst e;obtain⟨t,rfl⟩:=r1;have lf:∀ty,(∀A:ê,A.handled=none->Walks X.prog X.w A s1.heap.objs.size [s1.heap.objs.size] [s1.heap.objs.size] z.cps.size (SignAt z) (λi h=>h.IsStrIter s1.heap.objs.size ty z t i))->
   (∀(A:ê) (i:Nat) (s:Ã) (Q:Á->Ã->Prop) (E:Á->Ã->Prop),s.heap.IsStrIter s1.heap.objs.size ty z t i->Q (.ref s1.heap.objs.size) s->Ï (Ö X.prog X.w) A (gU<|.ref s1.heap.objs.size) Q E s)->
   (["enumerate","zip","dict_itemiterator","dict_reverseitemiterator","odict_iterator","itertools.zip_longest","itertools.pairwise"].contains ty=false)->
   SW X Æ c tg R (.ref s1.heap.objs.size) {s1 with heap:=s1.heap.push {cls:=.type ty,data:=.fields #[.str z t,.int 0 0]}}:=λty hW hS lm=>by
   refine⟨s1.heap.objs.size,[s1.heap.objs.size],_,_,H1,rfl,I1.kept (t':=s1.toks) λb o e=>Ă _ e,DP _ z t ty hW hS lm,⟨_,į _ rfl,rfl,rfl⟩,λb hb=>?_,q⟩;have e:b=s1.heap.objs.size:=by simpa using hb
   subst e;exact I1.AC (ø _)<|I1.hok.fresh<|ø _
  cases ha:z.cps.all (·<128)with
  |true=>exact wpAny_pyIter_ascii ha (lf _ (λA hA=>Walks.strAscii hA _ z t) (λA i s Q E st q=>wpAny_pyIter_striter_ascii st q)<|by decide)
  |false=>exact wpAny_pyIter_wide ha (lf _ (λA hA=>Walks.strWide hA _ z t) (λA i s Q E st q=>wpAny_pyIter_striter_wide st q)<|by decide)
def fu{l:È}{m:M PV}(hl:PE X l (tV (kk X cm) E m)):PI X tg l (tI (kk X cm) E<|Ϥ m):=λÆ s e H R I h=>AV hl Æ s e H R I (by
 obtain⟨c,F,f,rel,h⟩:=h;refine⟨c,F,f,rel,h.bind λp g v F1 H1 ã s1 s2 q h1=>?_⟩;cases p with
 |lst ps=>have q':ă (kk X cm) F1 (.lst ps) v:=q;unfold ă at q';obtain⟨a,vs,rfl,e1,e2⟩:=q';refine .inl ⟨a,rfl,⟨vs,ã.sub.seq e1⟩,h1 _ F1 H1 ã Č Č ?_⟩;intro c' i F2 H2 b d ē sF _;have hq:Ϫ X.K H2 a vs:=(sF.trans ē.sub).seq e1;refine⟨λp hp=>?_,λhi=>⟨vs,hq,by rw[hi,e2.length];exact ø _⟩⟩;obtain⟨u,hu,ru⟩:=dR e2.pr hp;refine⟨⟨vs,u,hq,hu⟩,λx H' zz=>?_⟩;obtain⟨hH,hx⟩:=zz;subst hH;have:vs[i]?=some x:=hx vs hq;rw[hu]at this;cases this;exact⟨F2,ē,Ù.refl _,Ù.refl _,ă.same sF p u ru⟩
 |tup ps=>have q':ă (kk X cm) F1 (.tup ps) v:=q;unfold ă at q';obtain⟨a,vs,rfl,e1,e2⟩:=q';refine .inr<|.inl ⟨a,rfl,⟨vs,Ù.tup ã.sub e1⟩,h1 _ F1 H1 ã Č Č ?_⟩;intro c' i F2 H2 b d ē sF _;have hq:gk X.K H2 a vs:=Ù.tup (sF.trans ē.sub) e1;refine⟨λp hp=>?_,λhi=>⟨vs,hq,by rw[hi,e2.length];exact ø _⟩⟩;obtain⟨u,hu,ru⟩:=dR e2.pr hp;refine⟨⟨vs,u,hq,hu⟩,λx H' zz=>?_⟩;obtain⟨hH,hx⟩:=zz;subst hH;have:vs[i]?=some x:=hx vs hq;rw[hu]at this;cases this;exact⟨F2,ē,Ù.refl _,Ù.refl _,ă.same sF p u ru⟩
 |str z=>
  have q':v=.str z:=by have q':ă (kk X cm) F1 (.str z) v:=q;unfold ă at q';exact q'
  subst q';refine .inr<|.inr ⟨z,rfl,h1 _ F1 H1 ã Č Č ?_⟩;intro c' i F2 H2 b d ē sF _;refine⟨λp hp=>?_,λhi=>by rw[hi,Ę];show _=_;simp⟩;rw[ů]at hp;cases ez:z.cps.toList[i]?with
  |none=>rw[ez]at hp;cases hp|some cc=>rw[ez]at hp;cases hp;refine⟨by have:=(fC.mp ez).1;show i<z.cps.size;simpa using this,λx H' ⟨hH,c2,hc,hx⟩=>?_⟩;subst hH hx;rw[ez]at hc;cases hc;exact⟨F2,ē,Ù.refl _,Ù.refl _,ă.str⟩
 |_=>exact h1.elim)
noncomputable def ī(i:Nat):M (List PV):=λρ=>match ρ[i]?with
 |some (.bw ps)=>.ok ps ρ|some (.sh<|.lst ps)=>.ok ps ρ|some (.sh<|.tup ps)=>.ok ps ρ|some (.sh<|.str z)=>.ok (z.cps.toList.map λc=>.str ⟨#[c]⟩) ρ
 |some (.ow ps)=>.ok ps<|ρ.set i<|.sh<|.lst ps|_=>.bad
def Ũ(i:Nat){x:Str}{px:Pos}(hk:Dp X i x=true:=by kernel_rfl):PI X tg (.Name x px) (tI (kk X cm) E<|ī i):=λÆ s b H R I h=>by
 obtain⟨c,F,d,rel,h⟩:=h;cases e:d[i]?with
 |none=>unfold ī at h;rw[e]at h;exact h.elim|some sl=>
  have Ib:ϴ (kk X cm) E (XE<|kk X cm) c F H b R (Ϥ (é i) d)->Ï (Ö X.prog X.w) X.A (eval (.Name x px) X.env) (λv s1=>Ï (Ö X.prog X.w) X.A (gU v) (SW X Æ b tg R) X.xe s1) X.xe s:=λh'=>
   fu (v_var i hk) Æ s b H R I ⟨c,F,d,rel,h'⟩
  unfold ī at h;rw[e]at h;cases sl with
  |no=>exact h.elim|rc C ns ps=>exact h.elim|ot ps qs rs=>exact h.elim|ol qF=>exact h.elim|fr qF=>exact h.elim|pw ps=>exact h.elim|pin=>exact h.elim|bn qs rows=>exact h.elim|dw ie=>exact h.elim|ow ps=>exact Ib (by unfold Ϥ é;rw[e];exact h)|sh p=>
   cases p with
   |lst ps=>exact Ib (by unfold Ϥ é;rw[e];exact h)|tup ps=>exact Ib (by unfold Ϥ é;rw[e];exact h)|str z=>exact Ib (by unfold Ϥ é;rw[e];exact h)|_=>exact h.elim
  |bw ps=>obtain⟨a,vs,h1,h2,h3⟩:=rel.slot i _ e;refine AV (mV hk) Æ s b H R I ⟨.ref a,ļ h1,.inl ⟨a,rfl,⟨vs,Ϫ.of (rel.lent a _ h2).1⟩,h _ F H rel Č Č ?_⟩⟩;intro c' j F2 H2 f g ē sF sL;have hq:Ϫ X.K H2 a vs:=Ϫ.of<|sL a _ h2;refine⟨λp hp=>?_,λhi=>⟨vs,hq,by rw[hi,h3.length];exact ø _⟩⟩;obtain⟨u,hu,ru⟩:=dR h3.pr hp;refine⟨⟨vs,u,hq,hu⟩,λx H' zz=>?_⟩;obtain⟨hH,hx⟩:=zz;subst hH;have:vs[j]?=some x:=hx vs hq;rw[hu]at this;cases this;exact⟨F2,ē,Ù.refl _,Ù.refl _,ă.same sF p u ru⟩
noncomputable def kJ(lo:Int)(n:Nat)(c:Int):List PV:=(ß n).map λ(i:Nat)=>.int<|lo+i*c
noncomputable def ua(i:Int):Bool:=decide<|i.natAbs<1152921504606846976
def Ϟ:List PV->Option (List PV)
 |[.int j]=>if ua j=true then some (kJ 0 j.toNat 1)else none|_=>none
@[simp]def ŷ(f:List PV->Option (List PV))(mr:M (List PV))(b:Ć):ĵ (List PV):=(mr b).bind λps a=>ĵ.zp (f ps) a
def AW{lo c:Int}{n i:Nat}{p:PV}(h:(kJ lo n c)[i]?=some p):i<n/\p=.int (lo+i*c):=by
 unfold kJ at h;by_cases hn:i<n
 ·rw[ů,List.getElem?_range hn]at h;exact⟨hn,(Ś h).symm⟩
 ·rw[wF<|by simpa using hn]at h;cases h
def AX{lo c:Int}{n:Nat}:(kJ lo n c).length=n:=by simp[kJ]
def Lp{K:KK}{Lh F:Hp}(lo:Int)(n:Nat):iG K Lh F (Ra lo n) (kJ lo n 1):=λc i F2 H a b rel sF _=>
 ⟨fun p hp=>by obtain⟨h1,rfl⟩:=AW hp;refine⟨h1,λx H' zz=>?_⟩;obtain⟨e1,e2⟩:=zz;subst e1 e2;exact⟨F2,rel,Ù.refl _,Ù.refl _,by rw[Int.mul_one];exact ă.int⟩,λhi=>by rw[AX]at hi;subst hi;exact ø _⟩
def DW{i:Int}(h:ua i=true): -(2^60)<=i/\i<2^60:=by unfold ua at h;rw[decide_eq_true_eq]at h;lia
variable{a:È}{p pos:Pos}{mr:M (List PV)}
def Fv{K:KK}{F:Hp}{ps:List PV}{vs:List V}(h:â K F ps vs):(∀i r,ps=.int i::r->∃r',vs=.int i::r'/\â K F r r')/\(ps=[]->vs=[]):=by
 refine⟨λi r e=>?_,λe=>?_⟩
 ·subst e;unfold â at h;obtain⟨x,r',h1,h2,h3⟩:=h;unfold ă at h2;exact⟨r',by rw[h1,h2],h3⟩
 ·subst e;unfold â at h;exact h
def ŀ(hg:Gl X "range")(hm:X.mg "range"=none)(ha:PA X [a] (tL (kk X cm) E mr))(hs:Ð [a] X.env=[(false,eval a X.env)]:=by exact Ō rfl):PI X tg (.Call (.Name "range" p) [a] [] pos) (tI (kk X cm) E<|ŷ Ϟ mr):=
 λÆ s b H R I h=>Dr hg hm ha hs Æ s b H R I (by
  obtain⟨c,F,d,rel,h⟩:=h;refine⟨c,F,d,rel,h.bind λps e vs F1 H1 ã s1 s2 q h1=>?_⟩;have q':â (kk X cm) F1 ps vs:=q;unfold Ϟ at h1;split at h1
  ·rename_i j;split at h1
   ·rename_i hj;obtain⟨r',e1,e2⟩:=(Fv q').1 _ _ rfl;cases(Fv e2).2 rfl;obtain⟨k1,k2⟩:=DW hj;exact⟨j,e1,by lia,by lia,h1 _ F1 H1 ã Č Č<|Lp 0 j.toNat⟩
   ·exact h1.elim
  ·exact h1.elim)
end
noncomputable def x_:Slot->Slot
 |.sh p=>.sh p|.ow ps=>.bw ps|.bw ps=>.bw ps|_=>.no
def jQ(js:List Nat)(nl:Nat)(a:Ć):Ć:=js.map (λ(j:Nat)=>x_<|(a[j]?).getD .no)++ç nl .no
noncomputable def ġ{α:Type}(g:α->Ć->Option Ć)(mt:M Bool)(me:M PV):List α->Ć->List PV->Option (List PV)
 |[],_,acc=>some acc|p::ps,ρ,acc=>match g p ρ with
  |none=>none|some ρ1=>match mt ρ1 with
   |.ok true ρ2=>match me ρ2 with
     |.ok q ρ3=>if acc.length<16777216then ġ g mt me ps ρ3 (acc++[q])else none|_=>none
   |.ok false ρ2=>ġ g mt me ps ρ2 acc|_=>none
@[simp]def Ī{α:Type}(js:List Nat)(nl:Nat)(mi:M (List α))(g:α→Ć→Option Ć)(mt:M Bool)(me:M PV)(b:Ć):ĵ RV:=(mi b).bind fun items a=>match ġ g mt me items (jQ js nl a) []with
  |some ps=>.ok (.ow ps) a|none=>.bad
abbrev EF:Ċ->XK:=λ_ _ _ _=>False
@[simp]def Ģ(a:Ć):ĵ Bool:=.ok true a
section
variable{K:KK}{c:Ctx}{F H:Hp}{σ:Ċ}{ρ:Ć}
def ya(F H H1:Hp):Ctx:=⟨H1,F,(dY F H).L,λ_ _ _=>True⟩
def ě.cap(js:List Nat)(nl:Nat)(rel:ě K c F H σ ρ){D:À}{o:HO}(hD:H D=none):ě K (ya F H<|upd H D o) F (upd H D o) (kG js nl σ) (jQ js nl ρ) where
 sub:=rel.sub.trans (Ù.upd hD)
 base:=Ù.refl _
 f0:=Ù.refl _
 gj:=λ_ _ z=>z
 lent:=λa u e=>⟨Ù.upd hD a u (aD e).1,(aD e).2⟩
 lb:=fun a e=>by
   cases q:(ya F H<|upd H D o).L a with
   |none=>rfl|some u=>have e':upd H D o a=none:=e;rw[Ù.upd hD a u (aD q).1]at e';cases e'
 len:=by simp[kG,jQ]
 slot:=λi s e=>by
  unfold jQ at e;by_cases hi:i<js.length
  ·rw[fG (by simpa using hi),ů]at e;cases ej:js[i]?with
   |none=>rw[ej]at e;cases e|some j=>
    rw[ej]at e;have e':x_ ((ρ[j]?).getD .no)=s:=Ś e;subst e';have hx:((kG js nl σ)[i]?).getD none=(σ[j]?).getD none:=by unfold kG;rw[fG (by simpa using hi),ů,ej];rfl
    rw[hx];cases er:ρ[j]?with
    |none=>trivial|some sl=>
     have q:=rel.slot j sl er;cases sl with
     |no=>trivial|sh p=>exact q|ow ps=>obtain⟨a,vs,h1,h2,h3,h4,h5⟩:=q;refine⟨a,vs,h1,?_,h5⟩;show(match F a with|none=>H a|some _=>none)=_;rw[h3];exact h2
     |bw ps=>obtain⟨a,vs,h1,h2,h3⟩:=q;obtain⟨l1,l2⟩:=rel.lent a _ h2;refine⟨a,vs,h1,?_,h3⟩;show(match F a with|none=>H a|some _=>none)=_;rw[l2];exact l1
     |rc C ns ps=>trivial|ot ps qs rs=>trivial|ol qF=>trivial|fr qF=>trivial|pw ps=>trivial|pin=>trivial|bn qs rows=>trivial|dw ie=>trivial
  ·rw[lx (by simpa using hi),jy]at e;split at e
   ·cases e;trivial
   ·cases e
 sep:=λi j a h1 _=>by
  exfalso;obtain⟨s,y,h1,_,h2⟩:=h1;have h2:=nE h2;unfold jQ at h1;by_cases hi:i<js.length
  ·rw[fG (by simpa using hi),ů]at h1;cases ej:js[i]?with
   |none=>rw[ej]at h1;cases h1|some j=>rw[ej]at h1;have e':x_ ((ρ[j]?).getD .no)=s:=Ś h1;subst e';cases q:(ρ[j]?).getD .no<;>rw[q]at h2<;>cases h2
  ·rw[lx (by simpa using hi),jy]at h1;split at h1
   ·cases h1;cases h2
   ·cases h1
def ě.rebase{H1 F1:Hp}{D:À}{ys zs:List V}(hD:H1 D=none)(hF:F1 D=none)(rel:ě K (ya F1 H1<|upd H1 D<|.lst ys) F H σ ρ):ě K (ya F1 H1<|upd H1 D<|.lst zs) F (upd H D<|.lst zs) σ ρ:=by
 have fD:F D=none:=rel.gj D (by show upd H1 D _ D≠none;rw[ö];intro z;cases z) hF;have lD:∀b u,(ya F1 H1<|upd H1 D<|.lst ys).L b=some u->b≠D:=λb u e z=>by have q:=(aD (F:=F1) (H:=H1) (a:=b) (u:=u) e).1;rw[z,hD]at q;cases q
 have ne:∀b,(ya F1 H1<|upd H1 D<|.lst ys).B b=none->b≠D:=λb z q=>by subst q;have z':upd H1 b (.lst ys) b=none:=z;rw[ö]at z';cases z'
 have back:∀b,b≠D->(ya F1 H1<|upd H1 D<|.lst ys).B b=none->(ya F1 H1<|upd H1 D<|.lst zs).B b=none:=λb hb z=>by have z':upd H1 D (.lst ys) b=none:=z;show upd H1 D (.lst zs) b=none;rw[î hb]at z'⊢;exact z'
 refine⟨λb u e=>?_,λb u e=>?_,rel.f0,λb h1 h2=>?_,λb u e=>?_,λb e=>?_,rel.len,λi s e=>?_,rel.sep⟩
 ·have hb:b≠D:=λz=>by rw[z,fD]at e;cases e
  rw[î hb];exact rel.sub b u e
 ·by_cases hb:b=D
  ·subst hb;have e':upd H1 b (.lst zs) b=some u:=e;rw[ö]at e'⊢;exact e'
  ·have e':upd H1 D (.lst zs) b=some u:=e;rw[î hb]at e'⊢;exact rel.base b u (by show upd H1 D _ b=some u;rw[î hb];exact e')
 ·refine rel.gj b (λz=>h1 ?_) h2;exact back b (ne b z) z
 ·rw[î<|lD b u e];exact rel.lent b u e
 ·refine rel.lb b ?_;have z':upd H1 D (.lst zs) b=none:=e;have hb:b≠D:=λq=>by rw[q,ö]at z';cases z'
  show upd H1 D (.lst ys) b=none;rw[î hb]at z'⊢;exact z'
 ·have q:=rel.slot i s e;cases s with
  |no=>trivial|sh p=>exact q|bw ps=>exact q|ow ps=>obtain⟨a,vs,q1,q2,q3,q4,q5⟩:=q;have hb:=ne a q4;exact⟨a,vs,q1,by rw[î hb];exact q2,q3,back a hb q4,q5⟩|rc C ns ps=>obtain⟨a,dx,fs,q1,q2,q3,q4,q5⟩:=q;have hb:=ne a q4;exact⟨a,dx,fs,q1,by rw[î hb];exact q2,q3,back a hb q4,q5⟩|ot ps qs rs=>obtain⟨p,a,xs,vs,ys,q1,q0,qx,q2,q3,q4,q5⟩:=q;have hb:=ne a q4;exact⟨p,a,xs,vs,ys,q1,q0,qx,by rw[î hb];exact q2,q3,back a hb q4,q5⟩|ol qF=>obtain⟨p,as,q1,q0,qn,qp⟩:=q;refine⟨p,as,q1,q0,qn,ig qp λa ps _ zz=>?_⟩;obtain⟨vs,q2,q3,q4,q5⟩:=zz;have hb:=ne a q4;exact⟨vs,by rw[î hb];exact q2,q3,back a hb q4,q5⟩
  |fr qF=>obtain⟨p,as,q1,q2,q3,q4,qn,qp⟩:=q;have hb:=ne p q4;exact⟨p,as,q1,by rw[î hb];exact q2,q3,back p hb q4,qn,ig qp λa ps _ ⟨vs,k1,k2,k3⟩=>⟨vs,k1,back a (ne a k2) k2,k3⟩⟩
  |dw ie=>exact q|pin=>exact q|pw ps=>obtain⟨a,vs,q1,q2,q3,q4,q5⟩:=q;have hb:=ne a q4;exact⟨a,vs,q1,by rw[î hb];exact q2,q3,back a hb q4,q5⟩|bn qs rows=>obtain⟨v,q1,a,b,ys,vs,h1,h2,h3,h4,h5⟩:=q;exact⟨v,q1,a,b,ys,vs,h1,h2,back a (ne a h3) h3,back b (ne b h4) h4,h5⟩
end
section
variable{X:Cx}{cm:String->À}{E:Ċ->XK}{tg iter:È}{mi:M (List PV)}{mt:M Bool}
def Ĳ:Cm X [] (tB (kk X cm) E Ģ):=λÆ s a H Q I h=>HM Æ s a H Q I (by
 obtain⟨c,F,b,rel,h⟩:=h;exact h true F H rel Č Č rfl)
def AY{a:È}(h:PT X a (tB (kk X cm) E mt)):Cm X [a] (tB (kk X cm) E mt):=HN h
def Fw(K:KK):RR (List PV) It:=λ_ _ _ F H items J=>iG K (dY F H).L F J items
def Fx{K:KK}{c:Ctx}{F H:Hp}{a:Ċ}{d:Ć}(rel:ě K c F H a d){b:À}{u:HO}(e:c.L b=some u):(dY F H).L b=some u:=by obtain⟨l1,l2⟩:=rel.lent b u e;show(match F b with|none=>H b|some _=>none)=some u;rw[l2];exact l1
def JB(h:PI X tg iter (tI (kk X cm) E mi)):PI X tg iter (tG (kk X cm) E (Fw<|kk X cm) mi):=λÆ s j H R I ⟨c,F,a,rel,q⟩=>h Æ s j H R I ⟨c,F,a,rel,ϴ.bind (R':=Fw<|kk X cm) (f:=λp a=>.ok p a) (by revert q;cases mi a<;>exact id) λp k v F1 H1 ã s1 s2 q h1=>h1 v F1 H1 ã Č Č λc' i F2 H2 d g ē sF sL=>q c' i F2 H2 d g ē sF λb u e=>sL b u<|Fx ã e⟩
end
abbrev Nh(α:Type):=Ctx->Hp->α->V->Prop
def OM{α:Type}(K:KK)(RI:Nh α)(Lh F:Hp)(J:It)(items:List α):Prop:=∀(c:Ctx) (i:Nat) (F2 H:Hp) (a:Ċ) (b:Ć),ě K c F2 H a b->Ù F F2->Ù Lh H->Ù Lh c.L->
 (∀p,items[i]?=some p->J.go i H/\∀x H',J.N8 i H x H'->∃F3,ě K c F3 H' a b/\Ù F2 F3/\Ù H H'/\RI c F3 p x)/\(i=items.length->J.stop i H)
def Ic{α:Type}(K:KK)(RI:Nh α):RR (List α) It:=λ_ _ _ F H items J=>OM K RI (dY F H).L F J items
def Rj{α:Type}(K:KK)(RI:Nh α)(g:α->Ć->Option Ć):TG:=λv b H Q=>∃c F a p,ě K c F H b a/\RI c F p v/\Lm K c F H Q (g p a)
section
variable{α:Type}{RI:Nh α}{X:Cx}{cm:String->À}{E:Ċ->XK}{mi:M (List α)}{g:α->Ć->Option Ć}{mt:M Bool}{me:M PV}
def vF{RJ:RR (List α) It}(hJ:∀{c j p F H items J},RJ c j p F H items J->Ic (kk X cm) RI c j p F H items J){js:List Nat}{nl:Nat}{j:Ċ}{H:Hp}{Q:VK}(h:tO (kk X cm) E (Ī js nl mi g mt me) j H Q):vy js nl (tG (kk X cm) E RJ mi) (Rj (kk X cm) RI g) (tB (kk X cm) EF mt) (tV (kk X cm) EF me) j H Q:=by
 obtain⟨c,F,p,rel,h⟩:=h;refine⟨c,F,p,rel,h.bind λitems r J F1 H1 ã s1 s2 MX h1=>?_⟩;intro D hD;have hF:F1 D=none:=ã.sub.free hD;cases ec:ġ g mt me items (jQ js nl r) []with
 |none=>rw[ec]at h1;exact h1.elim|some res=>
  rw[ec]at h1;refine⟨λi m k H'=>∃F' l ys acc,i<=items.length/\m=items.length-i/\ě (kk X cm) (ya F1 H1<|upd H1 D<|.lst ys) F' H' k l/\â (kk X cm) F' acc ys/\ġ g mt me (items.drop i) l acc=some res,
   ⟨_,F1,_,[],[],bu _,rfl,?_,â.nil,ec⟩,?_⟩
  ·exact ã.cap js nl hD
  ·rintro i m s H2 ⟨F2,d,ys,acc,hle,rfl,ē,ra,h2⟩;have s12:Ù F1 F2:=ē.f0;obtain⟨go,stop⟩:=hJ MX _ i F2 H2 s d ē s12 (λb u e=>(ē.lent b u e).1) Č;have hH2:H2 D=some (.lst ys):=ē.base D _ (show upd H1 D _ D=_ from ö);have fD:F2 D=none:=ē.gj D (by show upd H1 D _ D≠none;rw[ö];intro z;cases z) hF;by_cases mT:i<items.length
   ·obtain⟨g1,g2⟩:=go items[i] (ţ mT);rw[fI mT]at h2;unfold ġ at h2;refine .inr ⟨g1,_,λk H' z=>z,λx H3 hy=>?_⟩;obtain⟨F3,fU,s3,XF,rp⟩:=g2 x H3 hy;refine⟨_,F3,d,items[i],fU,rp,?_⟩;cases eg:g items[i] d with
    |none=>rw[eg]at h2;cases h2|some n=>
     rw[eg]at h2;dsimp only at h2;intro t qe;refine⟨_,F3,n,qe,?_⟩;cases em:mt n with
     |bad=>rw[em]at h2;cases h2|exc x a=>rw[em]at h2;cases h2|ok b a=>
      rw[em]at h2;intro b' F5 H5 AZ s5 Ie eb;have eb':b=b':=eb;subst eb';cases b with
      |false=>rw[if_neg aG];dsimp only at h2;exact⟨items.length-(i+1),by lia,F5,a,ys,acc,mT,rfl,AZ,â.same (s3.trans s5) acc ys ra,h2⟩|true=>
       rw[if_pos rfl];dsimp only at h2;refine⟨_,F5,a,AZ,?_⟩;cases ee:me a with
       |bad=>rw[ee]at h2;cases h2|exc x o=>rw[ee]at h2;cases h2|ok q o=>
        rw[ee]at h2;dsimp only at h2;intro y F6 H6 Ig s6 s6' rq;split at h2
        ·rename_i hz;have XG:=â.same ((s3.trans s5).trans s6) acc ys ra;refine⟨ys,Ig.base D _<|show upd H1 D _ D=_ from ö,by rw[<-XG.length,Ē];exact hz,?_⟩;exact⟨items.length-(i+1),by lia,F6,o,ys++[y],acc++[q],mT,rfl,Ig.rebase hD hF,â.append XG<|â.cons rq â.nil,h2⟩
        ·cases h2
   ·have e:i=items.length:=by lia
    refine .inl ⟨stop e,?_⟩;rw[gL<|by lia]at h2;unfold ġ at h2;cases h2;have gr:Gr F1 H1 F2 H2:=⟨λb u e=>ē.base b u (by show upd H1 D _ b=_;rw[î<|Ň e hD];exact e),s12,ē.sub,λb hb hf=>ē.gj b (by
     show upd H1 D _ b≠none;by_cases hbD:b=D
     ·rw[hbD,ö];intro z;cases z
     ·rw[î hbD];exact hb) hf⟩
    have T6:=ã.call gr;exact h1 _ F2 H2 T6 s12 gr.h ⟨D,ys,rfl,hH2,fD,ã.base.free hD,ã.jP gr.f<|ã.fresh hD,ra⟩
end
section
variable{X:Cx}{cm:String->À}{E:Ċ->XK}{elt tg iter:È}{ifs:List È}{scope:û}{pos:Pos}{mi:M (List PV)}{g:Tg}{mt:M Bool}{me:M PV}
def zq{js:List Nat}{nl:Nat}{d:Ċ}{H:Hp}{Q:VK}(h:tO (kk X cm) E (Ī js nl mi g mt me) d H Q):vy js nl (tG (kk X cm) E (Fw<|kk X cm) mi) (tT (kk X cm) g) (tB (kk X cm) EF mt) (tV (kk X cm) EF me) d H Q:=
 vF (RI:=λ_ F p v=>ă (kk X cm) F p v) (λh c i F2 H d e r a b _=>h c i F2 H d e r a b) h
def Ih(N':List Str)(js:List Nat)(nl:Nat)(sc:û)(Bt:X.env.scope=sc)(hcalm:X.calm=true)
 (hi:PI X.ϲ tg iter (tG (kk X cm) E (Fw<|kk X cm) mi))(hg:∀cl C s H fp,PG (iN X.ϲ N' scope cl C s H fp) tg<|tT (kk X cm) g)(ht:∀cl C s H fp,Cm (iN X.ϲ N' scope cl C s H fp) ifs<|tB (kk X cm) EF mt)(he:∀cl C s H fp,PE (iN X.ϲ N' scope cl C s H fp) elt<|tV (kk X cm) EF me)
 (hcap:kF X.ϲ sc scope N' js)(hlen:js.length+nl=N'.length:=by rfl)
 (hk:scope.kind=.function:=by rfl)(hcell:∀y∈scope.names,y.2=.cell->scope.names.lookup y.1=some .cell:=by decide+kernel)(hnames:∀y∈scope.names,y.2=.local->scope.names.lookup y.1=some .local:=by decide+kernel)
 (hfree:∀y∈scope.names,y.2=.free->(sc.names.lookup y.1=some .cell\/sc.names.lookup y.1=some .free):=by decide+kernel)
 (hs:∀x,cC iter X.env x=ì x:=by intro _;rfl):
 PE X (.ListComp elt [⟨tg,iter,ifs,0⟩] scope pos) (tO (kk X cm) E<|Ī js nl mi g mt me):=
 PE.wk (PE.ϲ<|Cn N' js nl sc Bt hcalm hi hg ht he hcap hlen hk hcell hnames hfree hs) λ_ _ _ h=>zq h
end
open M4
noncomputable abbrev bits(x:Int):Nat:=sE x
section
variable{X:Cx}{cm:String->À}{K:KK}
def JC(K:Î):R2:=λx y H Q=>∃l b xs zs,x=.ref l/\y=.ref b/\Ϫ K H l xs/\Ϫ K H b zs/\xs.length+zs.length<=sizeLine/\∀p,H p=none->Q (.ref p) (upd H p<|.lst<|xs++zs)
def Ii:ae X (Į .Add) (JC X.K):=by
 intro Æ s a H x y v u Q I rx ry h;obtain⟨l,b,xs,zs,rfl,rfl,hH,hB,hz,q⟩:=h;cases rx;cases ry;obtain⟨č,r,pl,z⟩:=I.list hH;obtain⟨gH,r2,T7,z2⟩:=I.list hB;obtain⟨⟨c1,d1,t1,T8⟩,n,e,hc,hd,hs⟩:=pl;obtain⟨⟨c2,d2,t2,Eo⟩,n2,e2,QO,An,uN⟩:=T7;simp only at hc hd hs QO An uN;subst hc hd hs QO An uN;have hl:=r.length;have EA:=r2.length;have ea:č.toArray++gH.toArray=(č++gH).toArray:=by simp
 refine concat_meets ⟨_,e,rfl⟩ ⟨_,e2,rfl⟩ noFill_list_add seq_list_add PySem.F.slot_list_add PySem.F.entry_list_add (PySem.F.args_list_add_2 _ _) (list_addW l b č.toArray gH.toArray n n2 none none T8 Eo (by simp only[Ĩ];lia)) ⟨e,e2,?_⟩;rw[ea];exact⟨.ref _,_,I.Oo (t':=s.toks) (r.append r2) (by rw[ő];lia),rfl,q _ I.fresh⟩
def JD(K:Î):R2:=λx y H Q=>∃l b xs zs,x=.ref l/\y=.ref b/\gk K H l xs/\gk K H b zs/\xs≠[]/\zs≠[]/\xs.length+zs.length<=sizeLine/\∀p,H p=none->Q (.ref p) (upd H p<|.tup<|xs++zs)
def Ij:ae X (Į .Add) (JD X.K):=by
 intro Æ s a H x y v u Q I rx ry h;obtain⟨l,b,xs,zs,rfl,rfl,hH,hB,nx,nz,hz,q⟩:=h;cases rx;cases ry;obtain⟨č,r,pl,z⟩:=I.tuple hH;obtain⟨gH,r2,T7,z2⟩:=I.tuple hB;obtain⟨⟨c1,d1,t1,T8⟩,e,hc,n,hd⟩:=pl;obtain⟨⟨c2,d2,t2,Eo⟩,e2,QO,n2,An⟩:=T7;simp only at hc hd QO An;subst hc hd QO An;have hl:=r.length;have EA:=r2.length;have GW:č≠[]:=λz=>by rw[z]at hl;exact nx<|rS.mp hl
 have GX:gH≠[]:=λz=>by rw[z]at EA;exact nz<|rS.mp EA
 have ea:č.toArray++gH.toArray=(č++gH).toArray:=by simp
 refine concat_meets ⟨_,e,rfl⟩ ⟨_,e2,rfl⟩ noFill_tuple_add seq_tuple_add PySem.F.slot_tuple_add PySem.F.entry_tuple_add (PySem.F.args_tuple_add_2 _ _) (tuple_addW2 l b č.toArray gH.toArray n n2 d1 d2 T8 Eo (by simpa using GW) (by simpa using GX) (by simp only[Ĩ];lia)) ⟨e,e2,?_⟩;rw[ea];exact⟨.ref _,_,I.laid (o:=.tup<|xs++zs) (t':=s.toks) (λ_ _ q=>Ă _ q) (ø _) ⟨by rw[ő];lia,(č++gH),r.append r2,⟨_,į _ rfl,rfl,_,rfl⟩⟩,rfl,q _ I.fresh⟩
noncomputable def ô:PV->PV->Option RV
 |.int i,.int j=>some<|.sh<|.int<|i+j|.str i,.str j=>if i.length+j.length<=16777216then some (.sh<|.str<|i++j)else none|.lst ps,.lst qs=>if ps.length+qs.length<=16777216then some (.ow<|ps++qs)else none|.tup (p::ps),.tup (q::qs)=>if(p::ps).length+(q::qs).length<=16777216then some (.sh<|.tup<|(p::ps)++(q::qs))else none|_,_=>none
def JE(K:Î):R2:=λx y H Q=>Ov x y H Q\/(JC K x y H Q\/JD K x y H Q)
def Lq:ae X (Į .Add) (JE X.K):=K6.or<|Ii.or Ij
def Lr:TU K (JE K.K) ô:=by
 intro c F H f g p q pv v u Q rel r1 r2 e k;unfold ô at e;split at e
 ·cases e;cases r1.int;cases r2.int;exact .inl<|k _ F H rel Č Č<|ă.int (K:=K) (F:=F)
 ·split at e
  ·rename_i hz;cases e;cases r1.str;cases r2.str;exact .inl ⟨by rw[Ē];exact hz,k _ F H rel Č Č<|ă.str (K:=K) (F:=F)⟩
  ·cases e
 ·split at e
  ·rename_i hz;cases e;obtain⟨a,xs,rfl,h1,h2⟩:=r1.lst rel.sub;obtain⟨b,ys,rfl,h3,h4⟩:=r2.lst rel.sub;refine .inr (.inl ⟨a,b,xs,ys,rfl,rfl,h1,h3,by rw[<-h2.length,<-h4.length,Ē];exact hz,λd hd=>?_⟩);obtain⟨q1,q2⟩:=gn rel hd<|â.append h2 h4;exact k _ F _ q1 Č (Ù.upd hd) q2
  ·cases e
 ·split at e
  ·rename_i hz;cases e;obtain⟨a,xs,rfl,h1,h2⟩:=r1.tup rel.sub;obtain⟨b,ys,rfl,h3,h4⟩:=r2.tup rel.sub;have l1:=h2.length;have l2:=h4.length;refine .inr (.inr ⟨a,b,xs,ys,rfl,rfl,h1,h3,(λz=>by rw[z]at l1;cases l1),(λz=>by rw[z]at l2;cases l2),by rw[<-l1,<-l2,Ē];exact hz,λl hl=>k _ _ _ (rel.alloc hl) (Ù.upd<|rel.sub.free hl) (Ù.upd hl) ?_⟩);show ă K _ _ _;unfold ă;exact⟨l,xs++ys,rfl,gk.of ö,â.same (Ù.upd<|rel.sub.free hl) _ _<|â.append h2 h4⟩
  ·cases e
 ·cases e
noncomputable def uT(g:Int->Int->Int):PV->PV->Option PV
 |.int i,.int j=>some<|.int<|g i j|_,_=>none
noncomputable def Cc(C:Int->Int->Bool)(g:Int->Int->Int):PV->PV->Option PV
 |.int i,.int j=>if C i j=true then some (.int<|g i j)else none|_,_=>none
noncomputable def Ni(g:Int->Int->Bool):PV->PV->Option PV
 |.int i,.int j=>some<|.bl<|g i j|_,_=>none
def Fy{g:Int->Int->Int}:kB K (zl λi j=>.int<|g i j) (uT g):=by
 intro c F H a b p q pv v u Q rel r1 r2 e k;unfold uT at e;split at e
 ·cases e;cases r1.int;cases r2.int;exact k _ F H rel Č Č ă.int
 ·cases e
def Ik{g:Int->Int->Bool}:kB K (zl λi j=>.bl<|g i j) (Ni g):=by
 intro c F H a b p q pv v u Q rel r1 r2 e k;unfold Ni at e;split at e
 ·cases e;cases r1.int;cases r2.int;exact k _ F H rel Č Č ă.bl
 ·cases e
def Fz{C:Int->Int->Bool}{C':Int->Int->Prop}{g:Int->Int->Int}(hC:∀i j,C i j=true->C' i j):kB K (mI C' λi j=>.int<|g i j) (Cc C g):=by
 intro c F H a b p q pv v u Q rel r1 r2 e k;unfold Cc at e;split at e
 ·split at e
  ·rename_i hc;cases e;cases r1.int;cases r2.int;exact⟨hC _ _ hc,k _ F H rel Č Č ă.int⟩
  ·cases e
 ·cases e
def Ş:=uT λi j=>i-j
def Ls:kB K (zl λi j=>.int<|i-j) Ş:=Fy
def kK(_ j:Int):Bool:=decide (j≠0)&&decide (bits j<=8000)
def bU:=Cc kK λi j=>i.fdiv j
def Lu:kB K (mI DN λi j=>.int<|i.fdiv j) bU:=Fz λi j h=>by unfold kK at h;simpa[DN]using h
noncomputable def vG(_ j:Int):Bool:=decide<|j≠0
def ĥ:=Cc vG λi j=>i.fmod j
def Lv:kB K (mI (λ_ j=>j≠0) λi j=>.int<|i.fmod j) ĥ:=Fz λi j h=>by unfold vG at h;simpa using h
noncomputable def zr(i j:Int):Bool:=decide (0<=j)&&decide (j.natAbs<=1000000)&&decide (i.natAbs<18446744073709551616)
def ub:=Cc zr λi j=>i^j.toNat
def yb:kB K (mI Du λi j=>.int<|i^j.toNat) ub:=Fz λi j h=>by unfold zr at h;simp only[ú,decide_eq_true_eq]at h;exact⟨h.1.1,by lia,by have:=h.2;simpa using this⟩
noncomputable def qI(i j:Int):Bool:=decide (0<=j)&&decide (j.natAbs<=1000000)&&decide (i.natAbs<18446744073709551616)
def vH:=Cc qI λi j=>i*2^j.toNat
def yc:kB K (mI Du λi j=>.int<|i*2^j.toNat) vH:=Fz λi j h=>by unfold qI at h;simp only[ú,decide_eq_true_eq]at h;exact⟨h.1.1,by lia,by have:=h.2;simpa using this⟩
noncomputable def uc(_ j:Int):Bool:=decide<|0<=j
def qJ:=Cc uc λi j=>i/2^j.toNat
def FA:kB K (mI (λ_ j=>0<=j) λi j=>.int<|i/2^j.toNat) qJ:=Fz λi j h=>by unfold uc at h;simpa using h
def iH:=uT λi j=>eE i j
def FC:=uT λi j=>eG i j
def ye:kB K (zl λi j=>.int<|eE i j) iH:=Fy
def Lw:kB K (zl λi j=>.int<|eG i j) FC:=Fy
def yf:ae X (Į .LShift) (mI Du λi j=>.int<|i*2^j.toNat):=ae.wk KJ vv
def FD:ae X (Į .RShift) (mI (λ_ j=>0<=j) λi j=>.int<|i/2^j.toNat):=ae.wk KL vv
def yg:ae X (Į .BitAnd) (zl λi j=>.int<|eE i j):=ae.wk KN nA
def Lx:ae X (Į .BitOr) (zl λi j=>.int<|eG i j):=ae.wk Oc nA
def nI:=Ni λi j=>decide<|i<j
def fV:=Ni λi j=>decide<|i<=j
def DX:=Ni λi j=>decide<|j<i
def Il:=Ni λi j=>decide<|j<=i
def iU:kB K (zl λi j=>.bl<|decide<|i<j) nI:=Ik
def bV:kB K (zl λi j=>.bl<|decide<|i<=j) fV:=Ik
def Cz:kB K (zl λi j=>.bl<|decide<|j<i) DX:=Ik
def ON:kB K (zl λi j=>.bl<|decide<|j<=i) Il:=Ik
def Ĭ(i j:Int):Bool:=decide (i.natAbs<18446744073709551616)||decide (j.natAbs<18446744073709551616)||(decide (bits i<=1048576)&&decide (bits j<=1048576))
def FE{i j:Int}(h:Ĭ i j=true):vw i j:=by
 unfold Ĭ at h;simp only[gI,ú,decide_eq_true_eq]at h;rcases h with(h|h)|h
 ·exact .inl (.inl ⟨by lia,by lia⟩)
 ·exact .inl (.inr ⟨by lia,by lia⟩)
 ·exact .inr h
def ą:PV->PV->Option PV
 |.int i,.int j=>if Ĭ i j=true then some (.int<|i*j)else none|.str z,.int n=>if 0<=n/\n<=1000/\z.length<=1000then some (.str<|S (ç n.toNat z.cps.toList).flatten)else none|_,_=>none
def Ly:kB K Fi ą:=by
 intro c F H a b p q pv v u Q rel r1 r2 e k;unfold ą at e;split at e
 ·split at e
  ·rename_i hc;cases e;cases r1.int;cases r2.int;exact⟨FE hc,k _ F H rel Č Č ă.int⟩
  ·cases e
 ·split at e
  ·rename_i hc;cases e;cases r1.str;cases r2.int;exact⟨hc,k _ F H rel Č Č ă.str⟩
  ·cases e
 ·cases e
@[simp]def zt(mr:M (List PV))(mk:M PV)(c:Ć):ĵ RV:=(mr c).bind fun ps a=>if ps.length≤16777216then(mk a).bind fun q b=>match q with
  |.int k=>if -(2^60)<=k/\k<2^60/\ps.length*k.toNat<=16777216then .ok (.ow (ç k.toNat ps).flatten) b else .bad|_=>.bad else .bad
theorem CA{α β:Type}{G:α->β->Prop}{l:List α}{m:List β}(h:Paired G l m):∀k:Nat,Paired G (ç k l).flatten (ç k m).flatten
 |0=>.nil|k+1=>by rw[fH,fH,jz,jz];exact tQ h<|CA h k
variable{E:Ċ->XK}{a b e:È}{es:List È}{pos:Pos}{ma mb:M PV}{mr:M (List PV)}
def OP{p2:Pos}(ha:PA X es (tL (kk X cm) E mr))(hb:PE X b (tR (kk X cm) E mb)):PE X (.BinOp (.List es p2) .Mult b pos) (tO (kk X cm) E<|zt mr mb):=PE.wk (EQ K1 (tK ha) hb) λj H Q ⟨c,F,g,rel,h⟩=>
 ⟨c,F,g,rel,h.bind fun ps f vs F1 H1 ã _ _ r1 h1=>by
   split at h1
   ·rename_i hz;refine⟨by rw[<-â.length r1,Ē];exact hz,λd hd=>?_⟩;refine⟨c,F1,f,ã.made hd,ϴ.bind (ϴ.mono h1 Č<|Ù.upd hd) λq i u F2 H2 ē sF sH r2 h2=>?_⟩;cases q with
    |int k=>
     dsimp only at h2;cases r2.int;split at h2
     ·rename_i hk;have hl:=â.length r1;refine⟨d,k,vs,rfl,rfl,sH _ _ ö,by lia,by lia,by rw[<-hl,Ē];exact hk.2.2,λd2 An=>?_⟩;obtain⟨q1,q2⟩:=gn ē An<|â.of<|CA (â.same sF ps vs r1).pr k.toNat;exact h2 _ F2 _ q1 Č (Ù.upd An) q2
     ·exact h2.elim
    |_=>exact h2.elim
   ·exact h1.elim⟩
noncomputable def kL:PV->Option PV
 |.int i=>some<|.int<|-i|_=>none
def kM:TY K (mU λi=>.int<|-i) kL:=by
 intro c F H d f p pv v Q rel r1 e k;unfold kL at e;split at e
 ·cases e;cases r1.int;exact k _ F H rel Č Č ă.int
 ·cases e
mutual
def cx:PV->PV->Bool
 |.non,.non=>true|.bl a,.bl b=>a==b|.bl a,.int j=>(if a then 1 else 0)==j|.int i,.bl b=>i==(if b then 1 else 0)|.int i,.int j=>i==j|.str x,.str y=>x==y|.lst xs,.lst ys=>iV xs ys|.tup xs,.tup ys=>iV xs ys|_,_=>false
def iV:List PV->List PV->Bool
 |[],[]=>true|x::xs,y::ys=>cx x y&&iV xs ys|_,_=>false
end
mutual
def Ϗ:PV->Bool
 |.non|.bl _|.int _=>true|.str x=>Ě x|.lst xs=>aF xs|.tup xs=>aF xs|_=>false
def aF:List PV->Bool
 |[]=>true|x::xs=>Ϗ x&&aF xs
end
mutual
def rn:PV->Nat
 |.lst xs=>jR xs+1|.tup xs=>jR xs+1|_=>0
def jR:List PV->Nat
 |[]=>0|x::xs=>max (rn x)<|jR xs
end
mutual
def iO:PV->aM
 |.non=>.none|.bl b=>.bool b|.int i=>.int i|.str x=>.str x|.lst xs=>.list<|iW xs|.tup xs=>.tuple<|iW xs|_=>.none
def iW:List PV->List aM
 |[]=>[]|x::xs=>iO x::iW xs
end
mutual
theorem jS:∀p:PV,Ϗ p=true->(iO p).canLay0=true
 |.non,_=>rfl|.bl _,_=>rfl|.int _,_=>rfl|.str x,h=>by unfold Ϗ at h;unfold iO xq;exact h|.lst xs,h=>by unfold Ϗ at h;unfold iO xq;exact kN xs h|.tup xs,h=>by unfold Ϗ at h;unfold iO xq;exact kN xs h|.ins _ _ _,h=>by simp[Ϗ]at h|.xc _ _ _,h=>by simp[Ϗ]at h|.ty _,h=>by simp[Ϗ]at h|.cls _,h=>by simp[Ϗ]at h|.zn _ _,h=>by simp[Ϗ]at h
theorem kN:∀ps:List PV,aF ps=true->jI (iW ps)=true
 |[],_=>rfl|p::ps,h=>by unfold aF at h;rw[ú]at h;unfold iW jI;rw[jS p h.1,kN ps h.2];rfl
end
mutual
theorem jT:∀p:PV,(iO p).depth=rn p
 |.non=>rfl|.bl _=>rfl|.int _=>rfl|.str x=>rfl|.lst xs=>by unfold iO PyData.depth rn;rw[ud xs]|.tup xs=>by unfold iO PyData.depth rn;rw[ud xs]|.ins _ _ _=>rfl|.xc _ _ _=>rfl|.ty _=>rfl|.cls _=>rfl|.zn _ _=>rfl
theorem ud:∀ps:List PV,PyData.depthAll (iW ps)=jR ps
 |[]=>rfl|p::ps=>by unfold iW PyData.depthAll jR;rw[jT p,ud ps]
end
mutual
theorem yi:∀p q:PV,Ϗ p=true->Ϗ q=true->ĸ (iO p) (iO q)=cx p q
 |.lst xs,.lst ys,h1,h2=>by unfold Ϗ at h1 h2;unfold iO cx ĸ;exact yj xs ys h1 h2|.tup xs,.tup ys,h1,h2=>by unfold Ϗ at h1 h2;unfold iO cx ĸ;exact yj xs ys h1 h2|.ins _ _ _,_,h,_=>by simp[Ϗ]at h|.xc _ _ _,_,h,_=>by simp[Ϗ]at h|.ty _,_,h,_=>by simp[Ϗ]at h|.cls _,_,h,_=>by simp[Ϗ]at h|.zn _ _,_,h,_=>by simp[Ϗ]at h|.non,q,_,h=>by cases q<;>first|rfl|(simp[Ϗ]at h)|(simp[iO,cx,ĸ])
 |.bl _,q,_,h=>by cases q<;>first|rfl|(simp[Ϗ]at h)|(simp[iO,cx,ĸ])
 |.int _,q,_,h=>by cases q<;>first|rfl|(simp[Ϗ]at h)|(simp[iO,cx,ĸ])
 |.str _,q,_,h=>by cases q<;>first|rfl|(simp[Ϗ]at h;done)|(simp[iO,cx,ĸ])
 |.lst _,.non,_,_=>by simp[iO,cx,ĸ]|.lst _,.bl _,_,_=>by simp[iO,cx,ĸ]|.lst _,.int _,_,_=>by simp[iO,cx,ĸ]|.lst _,.str _,_,_=>by simp[iO,cx,ĸ]|.lst _,.tup _,_,_=>by simp[iO,cx,ĸ]|.lst _,.ins _ _ _,_,h=>by simp[Ϗ]at h|.lst _,.xc _ _ _,_,h=>by simp[Ϗ]at h|.lst _,.ty _,_,h=>by simp[Ϗ]at h|.lst _,.cls _,_,h=>by simp[Ϗ]at h|.lst _,.zn _ _,_,h=>by simp[Ϗ]at h|.tup _,.non,_,_=>by simp[iO,cx,ĸ]|.tup _,.bl _,_,_=>by simp[iO,cx,ĸ]|.tup _,.int _,_,_=>by simp[iO,cx,ĸ]|.tup _,.str _,_,_=>by simp[iO,cx,ĸ]|.tup _,.lst _,_,_=>by simp[iO,cx,ĸ]|.tup _,.ins _ _ _,_,h=>by simp[Ϗ]at h|.tup _,.xc _ _ _,_,h=>by simp[Ϗ]at h|.tup _,.ty _,_,h=>by simp[Ϗ]at h|.tup _,.cls _,_,h=>by simp[Ϗ]at h|.tup _,.zn _ _,_,h=>by simp[Ϗ]at h
theorem yj:∀ps qs:List PV,aF ps=true->aF qs=true->oK (iW ps) (iW qs)=iV ps qs
 |[],[],_,_=>by simp[iW,iV,oK]|[],_::_,_,_=>by simp[iW,iV,oK]|_::_,[],_,_=>by simp[iW,iV,oK]|p::ps,q::qs,h1,h2=>by unfold aF at h1 h2;rw[ú]at h1 h2;unfold iW iV oK;rw[yi p q h1.1 h2.1,yj ps qs h1.2 h2.2]
end
mutual
theorem FF{F:Hp}:∀(p:PV) (v:V),Ϗ p=true->ă K F p v->Rp K.K F (iO p) v
 |.non,_,_,r=>by unfold ă at r;unfold iO Rp;exact r|.bl _,_,_,r=>by unfold ă at r;unfold iO Rp;exact r|.int _,_,_,r=>by unfold ă at r;unfold iO Rp;exact r|.str _,_,_,r=>by unfold ă at r;unfold iO Rp;exact r|.lst xs,_,h,r=>by unfold Ϗ at h;unfold ă at r;unfold iO Rp;obtain⟨a,vs,h1,h2,h3⟩:=r;exact⟨a,vs,h1,h2,mB xs vs h h3⟩|.tup xs,_,h,r=>by unfold Ϗ at h;unfold ă at r;unfold iO Rp;obtain⟨a,vs,h1,h2,h3⟩:=r;exact⟨a,vs,h1,h2,mB xs vs h h3⟩|.ins _ _ _,_,h,_=>by simp[Ϗ]at h|.xc _ _ _,_,h,_=>by simp[Ϗ]at h|.ty _,_,h,_=>by simp[Ϗ]at h|.cls _,_,h,_=>by simp[Ϗ]at h|.zn _ _,_,h,_=>by simp[Ϗ]at h
theorem mB{F:Hp}:∀(ps:List PV) (vs:List V),aF ps=true->â K F ps vs->oT K.K F (iW ps) vs
 |[],_,_,r=>by unfold â at r;unfold iW oT;exact r|p::ps,_,h,r=>by unfold aF at h;rw[ú]at h;unfold â at r;unfold iW oT;obtain⟨x,t,h1,h2,h3⟩:=r;exact⟨x,t,h1,FF p x h.1 h2,mB ps t h.2 h3⟩
end
def mD{c:Ctx}{F H:Hp}{b:Ċ}{d:Ć}{p:PV}{v:V}(s:Ù F H)(h:Ϗ p=true)(r:rR K c b d F H p v):Rp K.K H (iO p) v:=by
 rcases r with r|r
 ·exact Rp.same s _ _<|FF p v h r
 ·cases p with
  |lst ps=>obtain⟨a,vs,rfl,h3,h4⟩:=r;unfold Ϗ at h;unfold iO Rp;exact⟨a,vs,rfl,Ϫ.of h3,oT.same s _ _<|mB ps vs h h4⟩|ins C ns ps=>simp[Ϗ]at h|_=>exact r.elim
noncomputable def o_(p q:PV):Bool:=Ϗ p&&Ϗ q&&decide (min (rn p) (rn q)<=60)
def Ĺ(p q:PV):Option PV:=if o_ p q=true then some (.bl<|cx p q)else none
def cO(p q:PV):Option PV:=if o_ p q=true then some (.bl<|!cx p q)else none
def JF:kB K (HL K.K false) Ĺ:=by
 intro c F H a b p q pv v u Q rel r1 r2 e k;unfold Ĺ at e;split at e
 ·rename_i hz;cases e;unfold o_ at hz;simp only[ú,decide_eq_true_eq]at hz;refine⟨iO p,iO q,mD rel.sub hz.1.1 r1,mD rel.sub hz.1.2 r2,jS p hz.1.1,jS q hz.1.2,by rw[jT,jT];exact hz.2,?_⟩;rw[yi p q hz.1.1 hz.1.2];exact k _ F H rel Č Č ă.bl
 ·cases e
def FG:kB K (HL K.K true) cO:=by
 intro c F H a b p q pv v u Q rel r1 r2 e k;unfold cO at e;split at e
 ·rename_i hz;cases e;unfold o_ at hz;simp only[ú,decide_eq_true_eq]at hz;refine⟨iO p,iO q,mD rel.sub hz.1.1 r1,mD rel.sub hz.1.2 r2,jS p hz.1.1,jS q hz.1.2,by rw[jT,jT];exact hz.2,?_⟩;rw[yi p q hz.1.1 hz.1.2];exact k _ F H rel Č Č ă.bl
 ·cases e
noncomputable def zu:PV->Bool
 |.non=>true|_=>false
def ue(p q:PV):Option PV:=match q with
 |.non=>some<|.bl<|zu p|_=>none
def Im{c:Ctx}{F H:Hp}{b:Ċ}{d:Ć}{p:PV}{v:V}(r:rR K c b d F H p v):decide (v=.non)=zu p:=by
 rcases r with r|r
 ·cases p<;>unfold ă at r<;>first
   |(subst r;rfl)
   |(obtain⟨a,xs,rfl,_⟩:=r;rfl)
   |(obtain⟨a,xs,ys,rfl,_⟩:=r;rfl)
 ·cases p with
  |lst ps=>obtain⟨a,vs,rfl,_⟩:=r;rfl|ins C ns ps=>obtain⟨a,dx,fs,rfl,_⟩:=r;rfl|_=>exact r.elim
def uf:kB K (λx y H Q=>y=.non/\Q (.bl<|decide<|x=.non) H) ue:=by
 intro c F H a b p q pv v u Q rel r1 r2 e k;unfold ue at e;split at e
 ·cases e;refine⟨r2.non,?_⟩;rw[Im r1];exact k _ F H rel Č Č ă.bl
 ·cases e
def æ:PV->PV->Option PV
 |.lst ps,.int i=>nY ps i|.tup ps,.int i=>nY ps i|.str z,.int i=>if z.length<=16777216then(nY z.cps.toList i).map λc=>.str ⟨#[c]⟩else none
 |_,_=>none
def CB{F:Hp}{ps:List PV}{vs:List V}{i:Int}{p:PV}(r:â K F ps vs)(h:nY ps i=some p):∃v,nY vs i=some v/\ă K F p v:=by
 unfold nY at h⊢;rw[r.length]at h;cases e:DH vs.length i with
 |none=>rw[e]at h;cases h|some j=>rw[e]at h;obtain⟨v,h1,h2⟩:=dR r.pr h;exact⟨v,h1,h2⟩
def OQ:kB K (XB K.K) æ:=by
 intro c F H b d p q pv v u Q rel r1 r2 e k;unfold æ at e;split at e
 ·obtain⟨a,vs,rfl,h1,h2⟩:=r1.lst rel.sub;cases r2.int;obtain⟨x,h3,h4⟩:=CB h2 e;exact⟨vs,x,.inl h1,h3,k _ F H rel Č Č h4⟩
 ·obtain⟨a,vs,rfl,h1,h2⟩:=r1.tup rel.sub;cases r2.int;obtain⟨x,h3,h4⟩:=CB h2 e;exact⟨vs,x,.inr h1,h3,k _ F H rel Č Č h4⟩
 ·split at e
  ·rename_i z i hz;cases r1.str;cases r2.int;cases ea:nY z.cps.toList i with
   |none=>rw[ea]at e;cases e|some cc=>rw[ea]at e;cases e;exact⟨cc,by rw[Ē];exact hz,ea,k _ F H rel Č Č ă.str⟩
  ·cases e
 ·cases e
@[simp]def qf(a:Ć):ĵ (Option Int):=.ok none a
@[simp]def mP(m:M PV)(b:Ć):ĵ (Option Int):=(m b).bind fun p a=>match p with
  |.int i=>.ok (some i) a|_=>.bad
abbrev tP(K:KK)(E:Ċ->XK)(m:M (Option Int)):TO:=tG K E rI m
def gp:PO X none (tP (kk X cm) E qf):=λÆ s a H Q I h=>Hz Æ s a H Q I (by
 obtain⟨c,F,b,rel,h⟩:=h;exact h none F H rel Č Č rfl)
def Ÿ(ha:PE X e (tV (kk X cm) E ma)):PO X (some e) (tP (kk X cm) E<|mP ma):=λÆ s a H Q I h=>Fb ha Æ s a H Q I (by
 obtain⟨c,F,b,rel,h⟩:=h;refine⟨c,F,b,rel,h.bind λp d v F1 H1 ã _ _ r1 h1=>?_⟩;cases p with
 |int i=>
  have e:v=.int i:=by have kA:ă (kk X cm) F1 (.int i) v:=r1;unfold ă at kA;exact kA
  subst e;exact h1 (some i) F1 H1 ã Č Č rfl
 |_=>exact h1.elim)
def eV{α:Type}(xs:List α)(lo hi:Option Int):List α:=(xs.drop<|HT.mq xs.length 0 lo).take (HT.mq xs.length xs.length hi-HT.mq xs.length 0 lo)
def OR(p:PV)(lo hi:Option Int):Option RV:=match p with
 |.lst ps=>some<|.ow<|eV ps lo hi|.str z=>if z.length<=16777216then some (.sh<|.str<|S<|eV z.cps.toList lo hi)else none|_=>none
@[simp]def uY(ma:M PV)(ml mh:M (Option Int))(d:Ć):ĵ RV:=(ma d).bind λp a=>(ml a).bind λlo b=>(mh b).bind λhi c=>ĵ.zp (OR p lo hi) c
def ϟ{ml mh:M (Option Int)}{lo hi:Option È}{p2:Pos}(ha:PE X a (tR (kk X cm) E ma))(hl:PO X lo (tP (kk X cm) E ml))(hh:PO X hi (tP (kk X cm) E mh)):PE X (.Subscript a (.Slice lo hi none p2) pos) (tO (kk X cm) E<|uY ma ml mh):=
 PE.wk (E1 slm ha hl hh) fun i H Q ⟨c,F,j,rel,h⟩=>⟨c,F,j,rel,h.bind fun p b v F1 H1 ã _ _ r1 h1=>⟨c,F1,b,ã,h1.bind fun lo f lo' F2 H2 ē sF sH r2 h2=>⟨c,F2,f,ē,h2.bind fun hi g GY F3 H3 fU Rk XF r3 h3=>by
   have e2:lo=lo':=r2;have e3:hi=GY:=r3;subst e2 e3;have kA:rR (kk X cm) c i g F3 H3 p v:=r1.mono (sF.trans Rk)<|sH.trans XF;cases p with
   |lst ps=>
    obtain⟨a,vs,rfl,q1,q2⟩:=kA.lst fU.sub;refine⟨vs,q1,λd hd=>?_⟩;have e:â (kk X cm) F3 (eV ps lo hi) (zh vs lo hi):=by unfold eV zh;rw[q2.length];exact â.of<|Cp _<|Cq _ q2.pr
    obtain⟨z1,z2⟩:=gn fU hd e;exact h3 _ F3 _ z1 Č (Ù.upd hd) z2
   |str z=>
    cases kA.str;unfold OR at h3;dsimp only at h3;split at h3
    ·rename_i hz;exact⟨by rw[Ē];exact hz,h3 _ F3 H3 fU Č Č<|ă.str (K:=kk X cm) (F:=F3)⟩
    ·exact h3.elim
   |_=>exact h3.elim⟩⟩⟩
def uZ{c:Ctx}{F H:Hp}{a:Ċ}{b:Ć}{p:PV}{vs:List V}(h:Lj K c a b F H [p] vs):∃v,vs=[v]/\rR K c a b F H p v:=by
 cases h with
 |cons r t=>cases t;exact⟨_,rfl,r⟩
def T9{c:Ctx}{F H:Hp}{a:Ċ}{b:Ć}{p q:PV}{vs:List V}(h:Lj K c a b F H [p,q] vs):∃v u,vs=[v,u]/\rR K c a b F H p v/\rR K c a b F H q u:=by
 cases h with
 |cons r t=>
  cases t with
  |cons r' t=>cases t;exact⟨_,_,rfl,r,r'⟩
noncomputable def aX:List PV->Option PV
 |[.lst ps]=>some<|.int ps.length|[.tup ps]=>some<|.int ps.length|[.str z]=>if z.length<=16777216then some (.int z.length)else none|_=>none
def ŕ:eU K (La K.K) aX:=by
 intro c F H b d ps pv vs Q rel r e k;unfold aX at e;split at e
 ·cases e;obtain⟨v,rfl,r1⟩:=uZ r;obtain⟨a,xs,rfl,h1,h2⟩:=r1.lst rel.sub;refine⟨xs,.inl h1,?_⟩;rw[<-h2.length];exact k _ F H rel Č Č ă.int
 ·cases e;obtain⟨v,rfl,r1⟩:=uZ r;obtain⟨a,xs,rfl,h1,h2⟩:=r1.tup rel.sub;refine⟨xs,.inr h1,?_⟩;rw[<-h2.length];exact k _ F H rel Č Č ă.int
 ·split at e
  ·rename_i hz;cases e;obtain⟨v,rfl,r1⟩:=uZ r;cases r1.str;exact⟨by rw[Ē];exact hz,k _ F H rel Č Č ă.int⟩
  ·cases e
 ·cases e
noncomputable def A_:List PV->Option PV
 |[.int i]=>some<|.int<|if i<0then -i else i|_=>none
def yk:eU K MT A_:=by
 intro c F H a b ps pv vs Q rel r e k;unfold A_ at e;split at e
 ·cases e;obtain⟨v,rfl,r1⟩:=uZ r;cases r1.int;exact k _ F H rel Č Č ă.int
 ·cases e
noncomputable def CC:List PV->Option PV
 |[.int i,.int j]=>some<|.int<|if j<i then j else i|_=>none
noncomputable def CD:List PV->Option PV
 |[.int i,.int j]=>some<|.int<|if j>i then j else i|_=>none
def Io:eU K E9 CC:=by
 intro c F H a b ps pv vs Q rel r e k;unfold CC at e;split at e
 ·cases e;obtain⟨v,u,rfl,r1,r2⟩:=T9 r;cases r1.int;cases r2.int;exact k _ F H rel Č Č ă.int
 ·cases e
def Ip:eU K Fa CD:=by
 intro c F H a b ps pv vs Q rel r e k;unfold CD at e;split at e
 ·cases e;obtain⟨v,u,rfl,r1,r2⟩:=T9 r;cases r1.int;cases r2.int;exact k _ F H rel Č Č ă.int
 ·cases e
noncomputable def kO:List PV->Option RV
 |[.lst ps]=>some<|.ow ps|[.tup ps]=>some<|.ow ps|_=>none
def CG(K:Î):List V->Hp->VK->Prop:=λxs H Q=>∃p ys,xs=[.ref p]/\(Ϫ K H p ys\/gk K H p ys)/\∀l,H l=none->Q (.ref l) (upd H l<|.lst ys)
def eM:Ŗ X (.type "list") (CG X.K):=xO
def eN:Fq K (CG K.K) kO:=by
 intro c F H b d ps pv vs Q rel r e k;unfold kO at e;split at e
 ·cases e;obtain⟨v,rfl,r1⟩:=uZ r;obtain⟨a,xs,rfl,h1,h2⟩:=r1.lst rel.sub;refine⟨a,xs,rfl,.inl h1,λl hl=>?_⟩;obtain⟨q1,q2⟩:=gn rel hl h2;exact k _ F _ q1 Č (Ù.upd hl) q2
 ·cases e;obtain⟨v,rfl,r1⟩:=uZ r;obtain⟨a,xs,rfl,h1,h2⟩:=r1.tup rel.sub;refine⟨a,xs,rfl,.inr h1,λl hl=>?_⟩;obtain⟨q1,q2⟩:=gn rel hl h2;exact k _ F _ q1 Č (Ù.upd hl) q2
 ·cases e
end
theorem zw{K:KK}{F:Hp}:∀ns:List Int,â K F (ns.map .int)<|ns.map V.int
 |[]=>â.nil|n::ns=>â.cons ă.int<|zw ns
def OT(K:Î):Sp:=λvs H Q _=>∃(sa:À) (ns:List Int),vs=[.ref sa]/\Ϫ K H sa (ns.map V.int)/\ns.length<=63/\∀v H',v=.bl true->Q v H'
def FH{l:l_}{k:Nat}{x:Str}{CX:ia}{m:MF}{q:ä}{nr:List Str}{XP:(Str->Option Á)->Ñ->Prop}{YP:Þ->Ñ->Prop}{d:DefRec}{K:gX->Î}(hn:l.most=some 63)(MN:d.params.defaults=[])(hr:ϫ k gY)
 (hY:∀(w:Þ) (h:Ñ),YP w h->(K w.params).In h)
 (F:∀(w:Þ) (mg:Str→Option Á) (fa:À) (h:Ñ),(K w.params).In h→h.Ns Ĥ mg→mg d.name=some (.ref fa)→
   ∃fd:ċ,(∀(s:Ã) (u:Á),fO s fd ⟨[u],[]⟩ [(x,u)])/\∀base:Ñ,(K w.params).In base->base.Ns Ĥ mg->∃cm,b_ l.prog w (K w.params) mg base CX k fa fd [x] (vE ⟨K w.params,cm⟩ 1 m))
 (ht:∀ns:List Int,ns.length<=63->m [.sh<|.lst<|ns.map .int]=.ret (.sh<|.bl true))
 (Op:∀(H:Hp) (s:Ã) (e:Á) (s':Ã),CX [] H s (λ_ _ _=>False) e s'->False)
 (QJ:fb≠[]->∀w:Þ,xA (K w.params)=true:=by intro z;exact absurd rfl z)(En:∀y z,y∈fb->z∈fb->y=z:=by simp[fb])(MS:∀y,y∈fb->∃d,(recsOf q).find? (λe=>e.name==y)=some d:=by simp[fb]):
 sS q nr XP YP l.row.toRowW d [] (λf vs=>sx f vs):=by
 refine L2.HG (n:=63) (k:=k) (x:=x) (CX:=λ_=>CX) (sp:=λw=>OT<|K w.params) hn (by decide) MN hr hY (λw mg fa h h1 h2 h3=>?_) (λw H a ns hl _ hS=>⟨a,ns,rfl,hS,hl,λ_ _ z=>z⟩) (λw H s e s' z=>Op H s e s' z) QJ En MS;obtain⟨fd,hb,hF⟩:=F w mg fa h h1 h2 h3;refine⟨fd,hb,λbase k1 k2=>?_⟩;obtain⟨cm,G⟩:=hF base k1 k2;refine G.imp λvs H Q E hs=>?_;obtain⟨sa,ns,rfl,hS,hl,hq⟩:=hs;refine⟨H,[.sh<|.lst<|ns.map .int],rfl,Ù.refl _,.cons ?_ .nil,?_⟩
 ·show ă _ _ _ _;unfold ă;exact⟨sa,_,rfl,hS,zw ns⟩
 ·rw[ht ns hl];intro v F' H' g rf;have e:v=.bl true:=tY (K:=⟨K w.params,cm⟩) (F:=F') rf;exact hq v H' e
section
variable{X:Cx}{K:KK}
noncomputable def qg:List PV->Option PV
 |[.lst ps]=>some<|.tup ps|[.tup ps]=>some<|.tup ps|_=>none
def FI(K:Î):List V->Hp->VK->Prop:=λxs H Q=>∃p ys,xs=[.ref p]/\((Ϫ K H p ys/\∀l,H l=none->Q (.ref l) (upd H l<|.tup ys))\/(gk K H p ys/\Q (.ref p) H))
def zx:Ŗ X (.type "tuple") (FI X.K):=uV
def zy:eU K (FI K.K) qg:=by
 intro c F H b d ps pv vs Q rel r e k;unfold qg at e;split at e
 ·cases e;obtain⟨v,rfl,r1⟩:=uZ r;obtain⟨a,xs,rfl,h1,h2⟩:=r1.lst rel.sub;refine⟨a,xs,rfl,.inl ⟨h1,λl hl=>k _ _ _ (rel.alloc hl) (Ù.upd<|rel.sub.free hl) (Ù.upd hl) ?_⟩⟩;unfold ă;exact⟨l,xs,rfl,gk.of ö,â.same (Ù.upd<|rel.sub.free hl) _ _ h2⟩
 ·cases e;obtain⟨v,rfl,r1⟩:=uZ r;have kA:=r1;obtain⟨a,xs,rfl,h1,h2⟩:=r1.tup rel.sub;refine⟨a,xs,rfl,.inr ⟨h1,k _ F H rel Č Č ?_⟩⟩;rcases kA with q|q
  ·exact q
  ·exact q.elim
 ·cases e
noncomputable def dJ:List PV->Option (List Bool)
 |[]=>some []|.bl b::ps=>(dJ ps).map (b::·)|_::_=>none
theorem vI{F:Hp}:∀{ps:List PV}{vs:List V}{bs:List Bool},â K F ps vs->dJ ps=some bs->vs=bs.map V.bl
 |[],vs,bs,r,h=>by cases h;have r':=r.pr;cases r';rfl|p::ps,vs,bs,r,h=>by
  cases p with
  |bl b=>
   unfold dJ at h;cases eb:dJ ps with
   |none=>rw[eb]at h;cases h|some cs=>
    rw[eb]at h;cases h;have r':=r.pr;cases r' with
    |cons r1 t=>rw[tY r1,vI (â.of t) eb];rfl
  |_=>simp[dJ]at h
def pb:List PV->Option PV
 |[.lst ps]=>(dJ ps).map λbs=>.bl<|bs.all id
 |_=>none
def nJ:eU K (Lc K.K) pb:=by
 intro c F H b d ps pv vs Q rel r e k;unfold pb at e;split at e
 ·rename_i ps;obtain⟨v,rfl,r1⟩:=uZ r;obtain⟨a,xs,rfl,h1,h2⟩:=r1.lst rel.sub;cases eb:dJ ps with
  |none=>rw[eb]at e;cases e|some bs=>rw[eb]at e;cases e;refine⟨bs,by rw[<-vI h2 eb];exact h1,k _ F H rel Č Č ă.bl⟩
 ·cases e
noncomputable def CH(_ j:Int):Bool:=decide (0<j)&&decide (j.natAbs<1073741824)
def ij:List PV->Option PV
 |[.int i,.int j]=>if CH i j=true then some (.tup [.int<|i/j,.int<|i%j])else none|_=>none
def CI:List V->Hp->VK->Prop:=λxs H Q=>∃i j,xs=[.int i,.int j]/\Ob i j/\∀p,H p=none->Q (.ref p) (upd H p<|.tup [.int<|i/j,.int<|i%j])
def vJ:Ŗ X (.builtin "divmod") CI:=zf
def vK:eU K CI ij:=by
 intro c F H a b ps pv vs Q rel r e k;unfold ij at e;split at e
 ·split at e
  ·rename_i i j hd;cases e;obtain⟨v,u,rfl,r1,r2⟩:=T9 r;cases r1.int;cases r2.int;unfold CH at hd;simp only[ú,decide_eq_true_eq]at hd;refine⟨i,j,rfl,⟨hd.1,by lia⟩,λl hl=>k _ _ _ (rel.alloc hl) (Ù.upd<|rel.sub.free hl) (Ù.upd hl) ?_⟩;unfold ă;exact⟨l,_,rfl,gk.of ö,â.cons ă.int<|â.cons ă.int â.nil⟩
  ·cases e
 ·cases e
end
section
variable{α β:Type}{ρ:Ć}{i j n k:Nat}{p q:PV}{ps:List PV}{ma mb:M PV}{a b:M Fl}{ta:M Bool}{f:PV->PV->Option PV}{fo:PV->PV->Option RV}{g:Tg}{gs:Eu}
@[simp]theorem Ua:(cV:M α) ρ=.bad:=rfl
@[simp high]theorem g_0{β:Type _}{z:β}{l:List β}:(z::l)[0]?=some z:=rfl
@[simp high]theorem g_s{β:Type _}{z:β}{l:List β}{n:Nat}:(z::l)[n+1]?=l[n]?:=rfl
@[simp high]theorem lq1{β:Type _}{z:β}:[z].length=1:=rfl
@[simp high]theorem lq2{β:Type _}{y z:β}:[y,z].length=2:=rfl
@[simp high]theorem lq3{β:Type _}{x y z:β}:[x,y,z].length=3:=rfl
@[simp high]theorem lq4{β:Type _}{w x y z:β}:[w,x,y,z].length=4:=rfl
@[simp high]theorem lq5{β:Type _}{v w x y z:β}:[v,w,x,y,z].length=5:=rfl
def Lz(r:ĵ Fl)(b:M Fl):ĵ Fl:=r.bind λf c=>match f with|.nx=>b c|f=>.ok f c
@[simp]theorem Ub:è a b ρ=Lz (a ρ) b:=rfl
@[simp]theorem XH:Lz (.ok .nx ρ) b=b ρ:=rfl
@[simp]theorem XI{r:RV}:Lz (.ok (.rt r) ρ) b=.ok (.rt r) ρ:=rfl
@[simp]theorem XJ:Lz (.ok .bk ρ) b=.ok .bk ρ:=rfl
@[simp]theorem XM:Lz (.ok .ct ρ) b=.ok .ct ρ:=rfl
@[simp]theorem Uc:Lz .bad b=.bad:=rfl
@[simp]theorem Ud{x:PX}:Lz (.exc x ρ) b=.exc x ρ:=rfl
@[simp]theorem Ue:(RV.sh p).val=p:=rfl
@[simp]theorem Uf:(RV.ow ps).val=.lst ps:=rfl
@[simp]theorem Ug:(RV.sh p).slot=.sh p:=rfl
@[simp]theorem Uh:(RV.ow ps).slot=.ow ps:=rfl
def OU{β:Type}(f:PV->PV->Option β)(p:PV)(r:ĵ PV):ĵ β:=r.bind λq c=>ĵ.zp (f p q) c
def OW{β:Type}(f:PV->PV->Option β)(r:ĵ PV)(mb:M PV):ĵ β:=r.bind λp c=>OU f p<|mb c
@[simp]theorem Ui:Ê f ma mb ρ=OW f (ma ρ) mb:=rfl
@[simp]theorem XN{β:Type}{f:PV->PV->Option β}{p:PV}:OW f (.ok p ρ) mb=OU f p (mb ρ):=rfl
@[simp]theorem Uj{β:Type}{f:PV->PV->Option β}{p q:PV}:OU f p (.ok q ρ)=ĵ.zp (f p q) ρ:=rfl
@[simp]theorem Uk{β:Type}{f:PV->PV->Option β}:OW f .bad mb=.bad:=rfl
@[simp]theorem Rl{β:Type}{f:PV->PV->Option β}{p:PV}:OU f p .bad=.bad:=rfl
@[simp]theorem Ul{β:Type}{f:PV->PV->Option β}{x:PX}:OW f (.exc x ρ) mb=.exc x ρ:=rfl
@[simp]theorem Rm{β:Type}{f:PV->PV->Option β}{p:PV}{x:PX}:OU f p (.exc x ρ)=.exc x ρ:=rfl
@[simp]theorem Rn:ü fo ma mb ρ=OW fo (ma ρ) mb:=rfl
@[simp]theorem Um:iF ma mb ρ=(ma ρ).bind fun p c=>match p with|.bl b=>if b=true then mb c else .ok (.bl false) c|_=>.bad:=by
  unfold iF;congr
  funext p c
  cases p with
  |bl b=>cases b<;>rfl|_=>rfl
@[simp]theorem XO:Ri ma mb ρ=(ma ρ).bind fun p c=>match p with|.bl b=>if b=true then .ok (.bl true) c else mb c|_=>.bad:=by
  unfold Ri;congr
  funext p c
  cases p with
  |bl b=>cases b<;>rfl|_=>rfl
def Ro{β:Type}(r:ĵ Bool)(x y:M β):ĵ β:=r.bind λb c=>if b=true then x c else y c
@[simp]theorem XQ{x y:M α}:a_ ta x y ρ=Ro (ta ρ) x y:=rfl
@[simp]theorem XR{x y:M α}{b:Bool}:Ro (.ok b ρ) x y=if b=true then x ρ else y ρ:=rfl
@[simp]theorem Uo{x y:M α}:Ro .bad x y=.bad:=rfl
@[simp]theorem Up{x y:M α}{z:PX}:Ro (.exc z ρ) x y=.exc z ρ:=rfl
@[simp]theorem OX:é i ρ=(match ρ[i]?with|some (.sh p)=>.ok p ρ|some (.ow ps)=>.ok (.lst ps) (ρ.set i<|.sh<|.lst ps)|some (.bn qs rows)=>.ok (.lst (.lst qs::rows)) ρ|_=>.bad):=rfl
@[simp]theorem XS:Â i ρ=(match ρ[i]?with|some (.sh p)=>.ok p ρ|some (.ow ps)=>.ok (.lst ps) ρ|some (.bw ps)=>.ok (.lst ps) ρ|some (.rc C ns ps)=>.ok (.ins C ns ps) ρ|some (.bn qs rows)=>.ok (.lst (.lst qs::rows)) ρ|some (.pw ps)=>.ok (.lst ps) ρ|_=>.bad):=rfl
@[simp]theorem XT:ce i ρ=(match ρ[i]?with|some (.sh p)=>.ok (.sh p) ρ|some (.ow ps)=>.ok (.ow ps) (ρ.set i .no)|_=>.bad):=rfl
@[simp]theorem FJ:gN i p ρ=some (ρ.set i<|.sh p):=rfl
@[simp]theorem OY:ű [] ρ=some ρ:=rfl
@[simp]theorem Nj:ð g gs (p::ps) ρ=(g p ρ).bind λc=>gs ps c:=rfl
@[simp]theorem XU:gT n gs (.tup ps) ρ=if ps.length=n then gs ps ρ else none:=rfl
@[simp]theorem Uq{lo hi:Option Int}:OR (.lst ps) lo hi=some (.ow<|eV ps lo hi):=rfl
@[simp]theorem LA{mi:M (List PV)}:cW mi g b ρ=(mi ρ).bind λitems c=>ĺ g b items c:=rfl
@[simp]theorem Ur{XV:M Fl}{as:List Slot}:ď n k XV as=if as.length=n then FR.of (XV<|Ŀ k as)else .bad:=rfl
@[simp]theorem Us{r:RV}:FR.of (.ok (.rt r) ρ)=.ret r:=rfl
@[simp]theorem Ut:FR.of (.ok .nx ρ)=.ret (.sh .non):=rfl
@[simp]theorem Uu{x:PX}:FR.of (.exc x ρ)=.exc x:=rfl
@[simp]theorem Uv:FR.of .bad=.bad:=rfl
@[simp]theorem OZ{as:List Slot}:Ŀ k as=as++ç (k-as.length) .no:=rfl
@[simp]theorem Uw:eS (.sh p)=some (.sh p):=rfl
@[simp]theorem Ux:eS (.ow ps)=some (.bw ps):=rfl
@[simp]theorem Uy{qs rows:List PV}:eS (.bn qs rows)=some (.sh<|.lst (.lst qs::rows)):=rfl
@[simp]theorem Uz:eS (.bw ps)=some (.bw ps):=rfl
@[simp]theorem UA:x_ (.sh p)=.sh p:=rfl
@[simp]theorem UB:x_ (.ow ps)=.bw ps:=rfl
@[simp]theorem UC:x_ (.bw ps)=.bw ps:=rfl
@[simp]theorem UD{js:List Nat}{nl:Nat}:jQ js nl ρ=js.map (λ(j:Nat)=>x_<|(ρ[j]?).getD .no)++ç nl .no:=rfl
@[simp]theorem yl:ī i ρ=(match ρ[i]?with
  |some (.bw ps)=>.ok ps ρ|some (.sh<|.lst ps)=>.ok ps ρ|some (.sh<|.tup ps)=>.ok ps ρ|some (.sh<|.str z)=>.ok (z.cps.toList.map λc=>.str ⟨#[c]⟩) ρ
  |some (.ow ps)=>.ok ps<|ρ.set i<|.sh<|.lst ps|_=>.bad):=rfl
@[simp]theorem Rq{x y:Int}:ô (.int x) (.int y)=some (.sh<|.int<|x+y):=rfl
@[simp]theorem Rr{x y:Int}:Ş (.int x) (.int y)=some (.int<|x-y):=rfl
@[simp]theorem Rt{x y:Int}:ą (.int x) (.int y)=if Ĭ x y=true then some (.int<|x*y)else none:=rfl
@[simp]theorem ym{x y:Int}:bU (.int x) (.int y)=if kK x y=true then some (.int<|x.fdiv y)else none:=rfl
@[simp]theorem sZ{x y:Int}:ĥ (.int x) (.int y)=if vG x y=true then some (.int<|x.fmod y)else none:=rfl
@[simp]theorem CJ{x y:Int}:ub (.int x) (.int y)=if zr x y=true then some (.int<|x^y.toNat)else none:=rfl
@[simp]theorem Ru{x y:Int}:vH (.int x) (.int y)=if qI x y=true then some (.int<|x*2^y.toNat)else none:=rfl
@[simp]theorem Rv{x y:Int}:qJ (.int x) (.int y)=if uc x y=true then some (.int<|x/2^y.toNat)else none:=rfl
@[simp]theorem Rx{x:Int}:kL (.int x)=some (.int<|-x):=rfl
@[simp]theorem UE{x y:Int}:nI (.int x) (.int y)=some (.bl<|decide<|x<y):=rfl
@[simp]theorem UF{x y:Int}:fV (.int x) (.int y)=some (.bl<|decide<|x<=y):=rfl
@[simp]theorem UG{x y:Int}:DX (.int x) (.int y)=some (.bl<|decide<|y<x):=rfl
@[simp]theorem UH{x y:Int}:Il (.int x) (.int y)=some (.bl<|decide<|y<=x):=rfl
@[simp]theorem UI{x y:Int}:Ĺ (.int x) (.int y)=some (.bl<|decide<|x=y):=by
  have h:cx (.int x) (.int y)=decide (x=y):=by rw[cx.eq_def];rfl
  rw[<-h];rfl
@[simp]theorem UJ{x y:Int}:cO (.int x) (.int y)=some (.bl<|!decide (x=y)):=by
  have h:cx (.int x) (.int y)=decide (x=y):=by rw[cx.eq_def];rfl
  rw[<-h];rfl
@[simp]theorem UK{x y:Bool}:Ĺ (.bl x) (.bl y)=some (.bl<|x==y):=rfl
@[simp]theorem UL{x y:Bool}:cO (.bl x) (.bl y)=some (.bl<|!(x==y)):=rfl
@[simp]theorem UM{p:PV}:ue p .non=some (.bl<|zu p):=rfl
@[simp]theorem UN{x:Int}:æ (.lst ps) (.int x)=nY ps x:=rfl
@[simp]theorem UO{x:Int}:æ (.tup ps) (.int x)=nY ps x:=rfl
@[simp]theorem yn:aX [.lst ps]=some (.int ps.length):=rfl
@[simp]theorem Ry:aX [.tup ps]=some (.int ps.length):=rfl
@[simp]theorem UP{x:Int}:A_ [.int x]=some (.int<|if x<0then -x else x):=rfl
@[simp]theorem UQ{x y:Int}:CC [.int x,.int y]=some (.int<|if y<x then y else x):=rfl
@[simp]theorem UR{x y:Int}:CD [.int x,.int y]=some (.int<|if y>x then y else x):=rfl
@[simp]theorem O_:kO [.lst ps]=some (.ow ps):=rfl
@[simp]theorem O0:kO [.tup ps]=some (.ow ps):=rfl
@[simp]theorem Rz:qg [.lst ps]=some (.tup ps):=rfl
@[simp]theorem RA:qg [.tup ps]=some (.tup ps):=rfl
@[simp]theorem RC{x:Bool}:Ng (.bl x)=some x:=rfl
@[simp]theorem RE{x:Int}:Ng (.int x)=some (x !=0):=rfl
@[simp]theorem RF:Ng (.lst ps)=some (!ps.isEmpty):=rfl
@[simp]theorem zA(xs:List α)(n:Nat):nY xs (n:Int)=xs[n]?:=by
  unfold nY DH;rw[if_pos<|by lia];by_cases h:n<xs.length
  ·rw[if_pos<|by lia];simp
  ·rw[if_neg<|by lia];simp;lia
@[simp]theorem RK(xs:List α)(n:Nat):nY xs (no_index (ϊ n):Int)=xs[(no_index (ϊ n):Nat)]?:=zA xs n
@[simp]theorem Nk{x y:Int}:vG x y=decide (y≠0):=rfl
end
def ş{x y:Int}(h1: -(2^64)<x)(h2:x<2^64):Ĭ x y=true:=by unfold Ĭ;rw[decide_eq_true (by lia:x.natAbs<18446744073709551616)];rfl
def J8{x y:Int}(h1: -(2^64)<y)(h2:y<2^64):Ĭ x y=true:=by unfold Ĭ;rw[decide_eq_true (by lia:y.natAbs<18446744073709551616)];simp
def O1{x y:Int}(h1:bits x<=1048576)(h2:bits y<=1048576):Ĭ x y=true:=by unfold Ĭ;simp[h1,h2]
def zB{x y:Int}(h1:y≠0)(h2:bits y<=8000):kK x y=true:=by unfold kK;simp[h1,h2]
section
variable{g:Tg}{mb:M Fl}{mc mt:M Bool}{me:M PV}{items:List PV}{ρ:Ć}
def zC(I:Nat->Ć->Prop)(R:ĵ Fl->Prop)(h0:I 0 ρ)
 (hs:∀i p ρ,items[i]?=some p->I i ρ->∃b,g p ρ=some b/\((∃a,(mb b=.ok .nx a\/mb b=.ok .ct a)/\I (i+1) a)\/(∃r a,mb b=.ok (.rt r) a/\R (.ok (.rt r) a))\/(∃a,mb b=.ok .bk a/\R (.ok .nx a))\/∃x a,mb b=.exc x a/\R (.exc x a)))
 (hd:∀ρ,I items.length ρ->R (.ok .nx ρ)):R (ĺ g mb items ρ):=by
 induction items generalizing ρ I with
 |nil=>exact hd ρ h0|cons p ps ih=>
  obtain⟨b,e1,h⟩:=hs 0 p ρ rfl h0;unfold ĺ;rw[e1];dsimp only;rcases h with⟨a,e2,h2⟩|⟨r,a,e2,h2⟩|⟨a,e2,h2⟩|⟨x,a,e2,h2⟩
  ·have go:R (ĺ g mb ps a):=ih (λi=>I<|i+1) h2 (λi q ρ e hi=>hs (i+1) q ρ (by simpa using e) hi) (λρ h=>hd ρ<|by simpa using h);rcases e2 with e2|e2
   ·rw[e2];exact go
   ·rw[e2];exact go
  ·rw[e2];exact h2
  ·rw[e2];exact h2
  ·rw[e2];exact h2
def zD(I:Nat->Ć->Prop)(h0:I 0 ρ)(hs:∀i p ρ,items[i]?=some p->I i ρ->∃b c,g p ρ=some b/\mb b=.ok .nx c/\I (i+1) c):∃a,ĺ g mb items ρ=.ok .nx a/\I items.length a:=
 zC I (λr=>∃a,r=.ok .nx a/\I items.length a) h0 (λi p ρ e hi=>by obtain⟨b,c,h1,h2,h3⟩:=hs i p ρ e hi;exact⟨b,h1,.inl ⟨c,.inl h2,h3⟩⟩) λρ h=>⟨ρ,rfl,h⟩
theorem Ğ{α:Type}(c f:α->PV)(I:Ć->Prop):∀(xs:List α) (ρ:Ć) (acc:List PV),I ρ->acc.length+xs.length<=16777216->
 (∀x∈xs,∀ρ,I ρ->∃b d a,g (c x) ρ=some b/\mt b=.ok true d/\me d=.ok (f x) a/\I a)->ġ g mt me (xs.map c) ρ acc=some (acc++xs.map f)
 |[],ρ,acc,_,_,_=>by simp[ġ]|x::xs,ρ,acc,h,hz,hs=>by obtain⟨b,d,a,h1,h2,h3,h4⟩:=hs x ł ρ h;rw[Ó,ġ,h1];dsimp only;rw[h2];dsimp only;rw[h3];dsimp only;rw[if_pos (by simp at hz;lia),Ğ c f I xs a (acc++[f x]) h4 (by simp at hz⊢;lia) λy hy=>hs y<|õ _ hy];simp
def A0{β:Type}(st:β->Ć)(I:β->Prop)(μ:β->Nat)(hs:∀b,I b->mc (st b)=.ok false (st b)\/(mc (st b)=.ok true (st b)/\∃b',mb (st b)=.ok .nx (st b')/\I b'/\μ b'<μ b)){b:β}(h0:I b):
 ∃b',aE mc mb (st b)=.ok .nx (st b')/\I b'/\mc (st b')=.ok false (st b'):=by
 have go:∀n b,μ b<=n->I b->∃b',aE mc mb (st b)=.ok .nx (st b')/\I b'/\mc (st b')=.ok false (st b'):=by
  intro n
  induction n with
  |zero=>
   intro b hn hi;rcases hs b hi with e|⟨e,b',_,_,hl⟩
   ·exact⟨b,by rw[cQ,e];rfl,hi,e⟩
   ·lia
  |succ n ih=>
   intro b hn hi;rcases hs b hi with e|⟨e,b',e2,GY,hl⟩
   ·exact⟨b,by rw[cQ,e];rfl,hi,e⟩
   ·obtain⟨b2,q1,q2⟩:=ih b' (by lia) GY;refine⟨b2,?_,q2⟩;rw[cQ,e];simp only[ĵ.aQ,if_true,e2];exact q1
 exact go (μ b) b (ø _) h0
end
def A3(Q:String->Prop):List String->Prop
 |[]=>True|c::cs=>Q c/\A3 Q cs
theorem A3.get{Q:String->Prop}:∀{cs:List String}{C:String},A3 Q cs->cs.contains C=true->Q C
 |[],_,_,h=>by simp at h|c::cs,C,⟨h1,h2⟩,h=>by
  by_cases e:C=c
  ·rw[e];exact h1
  ·refine h2.get ?_;rw[wG]at h;have:(C==c)=false:=by simpa using e
   rw[this,wp]at h;exact h
section
variable{X:Cx}{cm:String->À}{K:KK}{E:Ċ->XK}{a b e o:È}{es:List È}{pos dI:Pos}{m mb:M PV}{f:Str}
theorem ug{F:Hp}:∀{fs:List (Str×V)}{ps:List PV}{p:PV},â K F ps (fs.map (·.2))->((fs.map (·.1)).zip ps).lookup f=some p->∃v,fs.lookup f=some v/\ă K F p v
 |[],ps,p,_,h=>by simp at h|(g,v)::fs,ps,p,r,h=>by
  have r':=r.pr;rw[Ó]at r';cases r' with
  |cons r1 t=>
   rename_i q qs;rw[Ó,List.zip_cons_cons,Ř]at h;rw[Ř];cases hg:f==g with
   |true=>simp only[hg]at h;cases h;exact⟨v,rfl,r1⟩|false=>simp only[hg]at h;exact ug (â.of t) h
theorem rR.ins{c:Ctx}{F H:Hp}{d:Ċ}{g:Ć}{C:String}{ns:List Str}{ps:List PV}{v:V}(s:Ù F H)(h:rR K c d g F H (.ins C ns ps) v):∃a dx fs,v=.ref a/\H a=some (.ins (K.cm C) dx fs)/\fs.map (·.1)=ns/\â K F ps (fs.map (·.2)):=by
 rcases h with h|h
 ·unfold ă at h;obtain⟨a,dx,fs,h1,h2,h3,h4⟩:=h;exact⟨a,dx,fs,h1,s _ _ h2,h3,h4⟩
 ·exact h
noncomputable def ŏ(cs:List String)(f:Str):PV->Option PV
 |.ins C ns ps=>if cs.contains C=true then(ns.zip ps).lookup f else none|_=>none
def O2(cs:List String)(MY:A3 (λC=>Az X.K (cm C)/\ff X.K (cm C) f) cs)(he:PE X e (tR (kk X cm) E m))(hb:dh e f X.env (eval e X.env)=eval e X.env:=by kernel_rfl):PE X (.Attribute e f pos) (tV (kk X cm) E<|eR (ŏ cs f) m):=
 PE.wk (KR he hb) fun i H Q ⟨c,F,d,rel,h⟩=>⟨c,F,d,rel,h.bind fun p g v F1 H1 ã _ _ r1 h1=>by
   cases p with
   |ins C ns ps=>
    unfold ŏ at h1;dsimp only at h1;split at h1
    ·rename_i hc;obtain⟨a,dx,fs,rfl,q2,q3,q4⟩:=r1.ins ã.sub;cases el:(ns.zip ps).lookup f with
     |none=>rw[el]at h1;exact h1.elim|some q=>rw[el]at h1;subst q3;obtain⟨v,e1,e2⟩:=ug q4 el;obtain⟨k1,k2⟩:=MY.get hc;exact⟨a,_,dx,fs,v,rfl,q2,k1,k2,e1,h1 v F1 H1 ã Č Č e2⟩
    ·exact h1.elim
   |_=>exact h1.elim⟩
def qh(X:Cx)(cm:String->À)(CX:ia)(k n:Nat)(m:Str)(C:String)(mf:MF):Prop:=Az X.K (cm C)/\∃f fd ps,Em X.K (cm C) m f/\b_ X.prog X.w X.K X.mg X.base CX k f fd ps (vE (kk X cm) n mf)/\Binds X.K fd ps []/\
 ∀{ps:List Slot},(∃r,mf ps=r/\∀z,r=z->z≠.bad)->ps.length=n
def uh(Q:String->MF->Prop):List (String×MF)->Prop
 |[]=>True|(c,mf)::cs=>Q c mf/\uh Q cs
theorem uh.get{Q:String->MF->Prop}:∀{cs:List (String×MF)}{C:String}{mf:MF},uh Q cs->cs.lookup C=some mf->Q C mf
 |[],_,_,_,h=>by simp at h|(c,g)::cs,C,mf,⟨h1,h2⟩,h=>by
  rw[Ř]at h;cases hc:C==c with
  |true=>
   rw[hc]at h;cases h;have:C=c:=by simpa using hc
   rw[this];exact h1
  |false=>rw[hc]at h;exact h2.get h
def gq(m:Str)(am:List (String×MF))(mo:M PV)(ms:M (List Slot)):M RV:=λg=>(mo g).bind λp d=>match p with
 |.ins C ns ps=>match am.lookup C with
   |some mf=>if ns.contains m=true then .bad else(ms d).bind λas c=>match mf (.sh (.ins C ns ps)::as)with
    |.ret r=>.ok r c|.exc x=>.exc x c|.bad=>.bad
   |none=>.bad
 |_=>.bad
theorem vL{m:Str}:∀{fs:List (Str×V)},(fs.map (·.1)).contains m=false->fs.lookup m=none
 |[],_=>rfl|(g,v)::fs,h=>by rw[Ó,wG,Bool.or_eq_false_iff]at h;rw[Ř,h.1];exact vL h.2
variable{CX:ia}{k n:Nat}{qK:Str}{am:List (String×MF)}{ms:M (List Slot)}
def zE{c:Ctx}{F H:Hp}{d:Ċ}{i:Ć}{Q:VK}(rel:ě (kk X cm) c F H d i)(h:ϴ (kk X cm) E (rO<|kk X cm) c F H d Q (gq qK am m ms i))(nK:uh (λC mf=>qh X cm CX k n qK C mf) am):
 ϴ (kk X cm) E (rV<|kk X cm) c F H d (λx H1=>∃a C dx fs g fd ps mf,x=.ref a/\H1 a=some (.ins C dx fs)/\Az X.K C/\Em X.K C qK g/\fs.lookup qK=none/\b_ X.prog X.w X.K X.mg X.base CX k g fd ps (vE (kk X cm) n mf)/\Binds X.K fd ps []/\
  tA (kk X cm) E ms d H1 λvs H2=>vE (kk X cm) n mf (.ref a::vs) H2 Q<|E d) (m i):=
 ϴ.bind h λp j v F1 H1 ã _ _ r1 h1=>by
  cases p with
  |ins C ns ps=>
   dsimp only at h1;cases el:am.lookup C with
   |none=>rw[el]at h1;exact h1.elim|some mf=>
    rw[el]at h1;dsimp only at h1;split at h1
    ·exact h1.elim
    ·rename_i hn;obtain⟨k1,f,fd,qs,k2,k3,k4,k5⟩:=nK.get el;have kA:ă (kk X cm) F1 (.ins C ns ps) v:=r1;have r2:=kA;unfold ă at r2;obtain⟨a,dx,fs,rfl,q2,q3,q4⟩:=r2;refine⟨a,_,dx,fs,f,fd,qs,mf,rfl,ã.sub _ _ q2,k1,k2,vL (by rw[q3];simpa using hn),k3,k4,c,F1,j,ã,ϴ.bind h1 λas l vs F2 H2 ē sF sH r3 h3=>?_⟩;exact t_ (vs:=.ref a::vs) k5 ē (.cons (show dL _ _ _ (.sh _) _ from ă.same sF _ _ kA) r3) h3
  |_=>exact h1.elim
def LB{pl:Sem Bool}(nK:uh (λC mf=>qh X cm CX k n qK C mf) am)(hr:ϫ k X.A)(hx:dn CX X E)(he:PE X o (tV (kk X cm) E m))(ha:PA X (e::es) (tA (kk X cm) E ms))
 (gi:Ð (e::es) X.env=(false,eval e X.env)::Ð es X.env:=by exact Ō rfl)(hpl:(Ĉ pos<|Ð es X.env).any (·.1)=false:=by kernel_rfl)
 (ht:eval (.Call (.Attribute o qK dI) (e::es) [] pos) X.env=(do
   let ov<-eval o X.env
   gR dI.atName
   let (f,first)<-cB [ov] (lJ ov qK pl)
   g_ pos f first (Ĉ pos<|Ð (e::es) X.env) (bv pos<|bz [] X.env)):=by rfl):
 PE X (.Call (.Attribute o qK dI) (e::es) [] pos) (tO (kk X cm) E<|gq qK am m ms):=by
 rintro Æ s d H Q I ⟨c,F,i,rel,h⟩;refine B6 (pl:=pl) (ώ (he Æ s d H _ I ⟨c,F,i,rel,zE rel h nK⟩) λu s1 zz=>?_) ht;obtain⟨x,H1,I1,rx,a,C,dx,fs,g,fd,ps,mf,ex,ea,cl,k2,l,k3,k4,q⟩:=zz;subst ex;obtain rfl:u=ť a:=rx;refine tJ I1 ea cl k2 l ?_;refine oP (first:=[.ref a]) (h₀:=X.base) I.ok.mod.Js k2.kp (ώ (ha pos Æ s1 d H1 _ I1 q) λus s2 ⟨vs,H2,I2,r,q2⟩=>⟨I2.yW,?_⟩) gi hpl;exact oY (us:=.ref a::us) (vs:=.ref a::vs) k3 hr k4 hx I2 (.cons rfl r) q2
def Iq{pl:Sem Bool}(nK:uh (λC mf=>qh X cm CX k n qK C mf) am)(hr:ϫ k X.A)(hx:dn CX X E)(he:PE X o (tV (kk X cm) E m))
 (ht:eval (.Call (.Attribute o qK dI) [] [] pos) X.env=(do
   let ov<-eval o X.env
   gR dI.atName
   let (f,first)<-cB [ov] (lJ ov qK pl)
   g_ pos f first (Ĉ pos<|Ð [] X.env) (bv pos<|bz [] X.env)):=by rfl):
 PE X (.Call (.Attribute o qK dI) [] [] pos) (tO (kk X cm) E<|gq qK am m Ø):=by
 rintro Æ s d H Q I ⟨c,F,i,rel,h⟩;refine B6 (pl:=pl) (ώ (he Æ s d H _ I ⟨c,F,i,rel,zE rel h nK⟩) λu s1 zz=>?_) ht;obtain⟨x,H1,I1,rx,a,C,dx,fs,g,fd,ps,mf,ex,ea,cl,k2,l,k3,k4,q⟩:=zz;subst ex;obtain rfl:u=ť a:=rx;refine tJ I1 ea cl k2 l ?_;obtain⟨c1,F1,j,ã,q⟩:=q;exact PySem.W.callWith_K0 (first:=[.ref a]) I1.yW k2.kp<|oY (us:=[.ref a]) (vs:=[.ref a]) k3 hr k4 hx I1 (.cons rfl .nil)<|q [] F1 H1 ã Č Č .nil
noncomputable def putN(f:Str):List Str->List Str
 |[]=>[f]|g::r=>if g=f then g::r else g::putN f r
noncomputable def A4(f:Str)(p:PV):List Str->List PV->List PV
 |[],_=>[p]|g::r,q::qs=>if g=f then p::qs else q::A4 f p r qs|_::_,[]=>[]
theorem CK{F:Hp}{p:PV}{y:V}(ry:ă K F p y):∀{fs:List (Str×V)}{ps:List PV},â K F ps (fs.map (·.2))->(jM f y fs).map (·.1)=putN f (fs.map (·.1))/\â K F (A4 f p (fs.map (·.1)) ps) ((jM f y fs).map (·.2))
 |[],ps,r=>⟨rfl,â.cons ry â.nil⟩|(g,v)::fs,ps,r=>by
  have r':=r.pr;rw[Ó]at r';cases r' with
  |cons r1 t=>
   rename_i q qs;unfold jM;rw[Ó];unfold putN A4;by_cases hg:g=f
   ·rw[if_pos hg,if_pos hg,if_pos hg];exact⟨rfl,â.cons ry<|â.of t⟩
   ·rw[if_neg hg,if_neg hg,if_neg hg];obtain⟨h1,h2⟩:=CK ry<|â.of t;exact⟨by rw[Ó,h1],â.cons r1 h2⟩
@[simp]def km(i:Nat)(cs:List String)(f:Str)(mv:M PV)(d:Ć):ĵ Fl:=(mv d).bind fun p c=>match c[i]?with
  |some (.rc C ns ps)=>if cs.contains C=true/\ns.length<1000then .ok .nx (c.set i<|.rc C (putN f ns)<|A4 f p ns ps)else .bad|_=>.bad
def LC{i:Nat}{x:Str}{px aY:Pos}(cs:List String)(MY:A3 (λC=>Az X.K (cm C)/\ff X.K (cm C) f) cs)(ho:PE X (.Name x px) (dQ i))(he:PE X e (tV (kk X cm) E m))(hs:ņ e (some<|.Attribute (.Name x px) f aY) pos.line X.env=ì false:=by kernel_rfl):
 PS X (.Assign [.Attribute (.Name x px) f aY] e pos) (tS (kk X cm) E<|km i cs f m):=PS.wk (KS ho he hs) λD g H ⟨c,F,j,rel,h⟩=>⟨c,F,j,rel,ϻ.bind h λp d y F1 H1 ã s1 ry h1=>by
 cases e1:d[i]?with
 |none=>rw[e1]at h1;exact h1.elim|some sl=>
  rw[e1]at h1;cases sl with
  |rc C ns ps=>
   dsimp only at h1;split at h1
   ·rename_i hc;obtain⟨a,dx,fs,q1,q2,q3,q4,q5,q6,q7⟩:=ã.slot i _ e1;subst q5;obtain⟨k1,k2⟩:=MY.get hc.1;refine⟨.ref a,ļ q1,a,_,dx,fs,rfl,q2,k1,k2,by simpa using hc.2,?_⟩;obtain⟨z1,z2⟩:=CK (f:=f) (p:=p) ry q6;exact h1 g F1 _ (ã.write ⟨_,_,e1,ļ q1,rfl⟩ (ļ q1) ⟨a,dx,_,rfl,ö,q3,q4,z1,z2,q7⟩ λ_ z=>(V.ref.inj z).symm) Č
   ·exact h1.elim
  |_=>exact h1.elim⟩
inductive IR where
 |ok (ns:List Str) (ps:List PV)|exc (x:PX)|bad
abbrev MI:=List Slot->IR
noncomputable def IR.of:ĵ Fl->IR
 |.ok .nx (.rc _ ns ps::_)=>.ok ns ps|.exc x _=>.exc x|_=>.bad
def dO(n k:Nat)(C:String)(mb:M Fl):MI:=λas=>if as.length+1=n then IR.of (mb (.rc C [] []::Ŀ (k-1) as))else .bad
structure RM(a:À)(F H F' H':Hp):Prop where
 h:∀b u,b≠a->H b=some u->H' b=some u
 f:Ù F F'
 sub:Ù F' H'
 out:∀b,b≠a->H b≠none->F b=none->F' b=none
def US(K:KK)(E:XK)(F H:Hp)(Q:VK)(a dx:À)(C:String):IR->Prop
 |.ok ns ps=>∀F' H' fs,RM a F H F' H'->H' a=some (.ins (K.cm C) dx fs)->F' a=none->fs.map (·.1)=ns->â K F' ps (fs.map (·.2))->Q .non H'|.exc x=>∀C' d F' H',RM a F H F' H'->DT K F' x C' d->E C' d H'|.bad=>False
def O3(K:KK)(n:Nat)(C:String)(mi:MI):Sp:=λvs H Q E=>∃F a dx yR as,vs=.ref a::yR/\as.length+1=n/\H a=some (.ins (K.cm C) dx [])/\F a=none/\Ù F H/\Paired (dL K F H) as yR/\US K E F H Q a dx C (mi as)
def Ir(a dx:À)(C:String)(F H:Hp):Ctx:=⟨λb=>if b=a then none else H b,F,λb=>if b=a then none else(dY F H).L b,λa' dx' C'=>a'=a/\dx'=dx/\C'=C⟩
def ě.XW{c:Ċ}{d:Ć}{a dx:À}{C:String}{F H F' H':Hp}(r:ě K (Ir a dx C F H) F' H' c d):RM a F H F' H':=
 ⟨λb u hb e=>r.base b u (by show(if b=a then none else H b)=_;rw[if_neg hb];exact e),r.f0,r.sub,λb hb h1 h2=>r.gj b (by show(if b=a then none else H b)≠none;rw[if_neg hb];exact h1) h2⟩
def ě.LD{F H:Hp}{N:List Str}{as:List Slot}{vs:List V}{a dx:À}{C:String}(s:Ù F H)(ha:H a=some (.ins (K.cm C) dx []))(hF:F a=none)(h:Paired (dL K F H) as vs):
 ě K (Ir a dx C F H) F H (L2.start N (.ref a::vs)) (.rc C [] []::Ŀ (N.length-1) as):=by
 have r0:=ě.start (N:=N) (K:=K) s (as:=.sh (.int 0)::as) (vs:=.int 0::vs)<|.cons (ă.int (K:=K) (F:=F) (i:=0)) h;have est:L2.start N (.ref a::vs)=some (.ref a)::(L2.start N (.int 0::vs)).tail:=by unfold L2.start;simp
 have UT:(L2.start N (V.int 0::vs)).tail.length=(Ŀ (N.length-1) as).length:=by unfold L2.start Ŀ;simp[Paired.length h];lia
 have tl:∀i:Nat,(L2.start N (.int 0::vs)).tail[i]?=(L2.start N (.int 0::vs))[i+1]?:=λi=>by simp
 have sp:∀i:Nat,(Ŀ (N.length-1) as)[i]?=(Ŀ N.length (.sh (.int 0)::as))[i+1]?:=λi=>by unfold Ŀ;simp only[c_,oh,Ĕ];rw[show N.length-1-as.length=N.length-(as.length+1) by lia]
 have qL:∀(i:Nat) (s':Slot),(Ŀ (N.length-1) as)[i]?=some s'->s'.own=false:=λi s' e=>by
  unfold Ŀ at e;by_cases hi:i<as.length
  ·rw[fG hi]at e;obtain⟨v,_,h3⟩:=dR h e;exact(dL.slot h3).2
  ·rw[lx (by lia),jy]at e;split at e
   ·cases e;rfl
   ·cases e
 rw[est];refine⟨s,λb u e=>?_,Ù.refl _,λ_ _ z=>z,λb u e=>?_,λb e=>?_,?_,λi s' e=>?_,λi j b h1 h2=>?_⟩
 ·have e':(if b=a then none else H b)=some u:=e;split at e'
  ·cases e'
  ·exact e'
 ·have e':(if b=a then none else(dY F H).L b)=some u:=e;split at e'
  ·cases e'
  ·exact aD e'
 ·show(if b=a then none else(dY F H).L b)=none;have e':(if b=a then none else H b)=none:=e;split
  ·rfl
  ·rename_i hb;rw[if_neg hb]at e';exact r0.lb b e'
 ·simp[UT]
 ·cases i with
  |zero=>cases e;exact⟨a,dx,[],rfl,ha,hF,by show(if a=a then none else H a)=none;rw[if_pos rfl],rfl,â.nil,rfl,rfl,rfl⟩|succ i=>
   have e':(Ŀ (N.length-1) as)[i]?=some s':=by simpa using e
   have q:=r0.slot (i+1) s' (by rw[<-sp];exact e');rw[<-tl]at q;show aZ K (Ir a dx C F H) F H (((some (V.ref a)::(L2.start N (.int 0::vs)).tail)[i+1]?).getD none) s';rw[oh];cases s' with
   |no=>trivial|sh p=>exact q|bw ps=>obtain⟨b,ws,q1,q2,q3⟩:=q;refine⟨b,ws,q1,?_,q3⟩;show(if b=a then none else(dY F H).L b)=_;rw[if_neg (λz=>by have:=(aD q2).1;rw[z,ha]at this;cases this)];exact q2
   |ow ps=>have:=qL i _ e';cases this|rc C ns ps=>have:=qL i _ e';cases this|ot ps qs rs=>have:=qL i _ e';cases this|ol qF=>have:=qL i _ e';cases this|fr qF=>have:=qL i _ e';cases this|pw ps=>have:=qL i _ e';cases this|pin=>have:=qL i _ e';cases this|dw ie=>
    obtain⟨b,ts,q1,q2,q3⟩:=q;have lt:∀{x:À}{u:HO},(dY F H).L x=some u->(∀o,u=.ins (K.cm C) dx o->False)->(if x=a then none else(dY F H).L x)=some u:=fun{x u} e1 e2=>by rw[if_neg (λz=>by have:=(aD e1).1;rw[z,ha]at this;cases this;exact e2 _ rfl)];exact e1
    exact⟨b,ts,q1,lt q2 (λ_ z=>by cases z),ig q3 λt d _ ⟨xs,y,vs,k1,k2,k3,k4⟩=>⟨xs,y,vs,k1,k2,lt k3 (λ_ z=>by cases z),k4⟩⟩
   |bn qs rows=>
    obtain⟨v,q1,q2⟩:=q;refine⟨v,q1,q2.base λb u z=>?_⟩;have z':(if b=a then none else H b)=some u:=z;split at z'
    ·cases z'
    ·exact z'
 ·have NI:∀{i},Ŏ F (some (.ref a)::(L2.start N (.int 0::vs)).tail) (Slot.rc C [] []::Ŀ (N.length-1) as) i b→i=0:=fun{i} ⟨s',y,q1,_,q2⟩=>by
   have q2:=nE q2;cases i with
   |zero=>rfl|succ i=>have:=qL i s' (by simpa using q1);rw[this]at q2;cases q2
  rw[NI h1,NI h2]
end
section
variable{P:ä}{w:Þ}{K:Î}{cm:String->À}{mg:Str->Option Á}{base:Ñ}{CX:ia}
def fnI{x Ő:Str}{st:í}{f:À}{fd:ċ}{N ps:List Str}{k n j:Nat}{C:String}{mb:M Fl}{mi:MI}(F:G1 K x Ő st f fd)(S:ό N ps (ÿ st))(hn:ps.length=n)(hj:N.length=j)(hf:mi=dO n j C mb)
 (li:∀(cdv:Á) (A:ê) (outer:List Env) (s:Ã) (H:Hp) (E:XK),ϫ k (A.deeper<|Ϙ Ő (ÿ st) s.heap.objs.size f cdv)→
   ca (tM CX P w K mg base N Ő (ÿ st) f cdv A outer s H E) (ύ st) (tS ⟨K,cm⟩ (λ_=>E) mb)):b_ P w K mg base CX (k+1) f fd ps (O3 ⟨K,cm⟩ n C mi):=by
 subst hn hj hf;obtain⟨oc,od,kV,doc,pm,an,cdv,ct,Hd,rfl,lk,Ek⟩:=F.ex;refine EZ lk Ek S (λvs H Q E ⟨F,a,dx,yR,as,h1,h2,_,_,_,h3,_⟩=>by rw[h1,Ĕ,<-Paired.length h3];exact h2) λA outer s H vs Q E hr Ez=>?_;obtain⟨F,a,dx,yR,as,rfl,h2,h3,h4,h5,h6,h7⟩:=Ez;refine⟨_,li cdv A outer s H E hr,Ir a dx C F H,F,_,ě.LD h5 h3 h4 h6,?_⟩;unfold dO at h7;rw[if_pos h2]at h7;cases e:mb (.rc C [] []::Ŀ (N.length-1) as)with
 |bad=>rw[e]at h7;exact h7|exc x c=>rw[e]at h7;exact λg C' d F' H' rel s1 q=>h7 C' d F' H' rel.XW q
 |ok fl c=>
  rw[e]at h7;cases fl with
  |nx=>
   cases c with
   |nil=>exact h7.elim|cons sl c=>
    cases sl with
    |rc C' ns qs=>intro g F' H' rel s1;obtain⟨b,dy,fs,q1,q2,q3,q4,q5,q6,rfl,rfl,rfl⟩:=rel.slot 0 _ rfl;exact h7 F' H' fs rel.XW q2 q3 q5 q6|_=>exact h7.elim
  |bk=>exact h7.elim|ct=>exact h7.elim|rt r=>exact h7.elim
end
@[simp]def eW(C:String)(mi:MI)(ms:M (List Slot))(b:Ć):ĵ PV:=(ms b).bind fun as a=>match mi as with
  |.ok ns ps=>.ok (.ins C ns ps) a|.exc x=>.exc x a|.bad=>.bad
section
variable{X:Cx}{cm:String->À}{E:Ċ->XK}{e:È}{es:List È}{pos p:Pos}{CX:ia}{k n:Nat}{f:À}{fd:ċ}{ps:List Str}{C:String}{mi:MI}{ms:M (List Slot)}{x:Str}
def FK{c:Ctx}{F1 H1:Hp}{i:Ċ}{a:Ć}{Q:VK}{as:List Slot}{vs:List V}(hlen:(∃r,mi as=r/\∀z,r=z->z≠.bad)->as.length+1=n)(ã:ě (kk X cm) c F1 H1 i a)(r1:Paired (dL (kk X cm) F1 H1) as vs)
 (h:ϴ (kk X cm) E (rV<|kk X cm) c F1 H1 i Q (match mi as with|.ok ns ps=>.ok (.ins C ns ps) a|.exc x=>.exc x a|.bad=>.bad)):
 ∀x dx,H1 x=none->H1 dx=none->dx≠x->O3 (kk X cm) n C mi (.ref x::vs) (upd (upd H1 dx<|.own x) x<|.ins (cm C) dx []) (λv H2=>v=.non/\Q (.ref x) H2) (E i):=by
 intro x dx hx hdx jv;have up:∀b u,H1 b=some u->upd (upd H1 dx<|.own x) x (.ins (cm C) dx []) b=some u:=λb u e=>by rw[î<|Ň e hx,î<|Ň e hdx];exact e
 have Iu:∀{F' H':Hp},RM x F1 (upd (upd H1 dx<|.own x) x<|.ins (cm C) dx []) F' H'->Gr F1 H1 F' H':=fun{F' H'} g=>
  ⟨fun b u e=>g.h b u (Ň e hx)<|up b u e,g.f,g.sub,fun b hb hf=>by
    obtain⟨u,hu⟩:∃u,H1 b=some u:=by
     cases q:H1 b with
     |none=>exact absurd q hb|some u=>exact⟨u,rfl⟩
    exact g.out b (Ň hu hx) (by rw[up b u hu];intro z;cases z) hf⟩
 refine⟨F1,x,dx,vs,as,rfl,?_,ö,ã.sub.free hx,λb u e=>up b u<|ã.sub b u e,?_,?_⟩
 ·refine hlen ⟨_,rfl,λz hz hb=>?_⟩;rw[hz,hb]at h;exact h
 ·refine Paired.mono (λs v hs=>?_) r1;cases s with
  |sh p=>exact hs|bw qs=>obtain⟨b,ws,q1,q2,q3,q4⟩:=hs;exact⟨b,ws,q1,up b _ q2,q3,q4⟩|dw ie=>obtain⟨b,ts,q1,q2,q3,q4⟩:=hs;exact⟨b,ts,q1,up b _ q2,q3,ig q4 λt d _ ⟨xs,y,ws,k1,k2,k3,k4⟩=>⟨xs,y,ws,k1,k2,⟨up y _ k3.1,k3.2⟩,k4⟩⟩
  |_=>exact hs.elim
 ·cases em:mi as with
  |bad=>rw[em]at h;exact h|exc y=>rw[em]at h;exact λC' d F' H' g rx=>h C' d F' H' (ã.call<|Iu g) g.f rx
  |ok ns qs=>rw[em]at h;intro F' H' fs g hx' W0 hn hr;have r2:=ã.call<|Iu g;have r3:=r2.freeze hx' (ã.base.free hx) W0<|ã.jP (Iu g).f (ã.fresh hx);refine⟨rfl,h _ _ H' r3 (g.f.trans<|Ù.upd W0) (Iu g).h ?_⟩;show ă _ _ _ _;unfold ă;exact⟨x,dx,fs,rfl,ö,hn,â.same (Ù.upd W0) qs _ hr⟩
def DZ{Æ:List (À×Obj)}{a:Ċ}{H:Hp}{s:Ã}{Q:VK}{us:List Á}{vs:List V}{sp:Sp}{C:À}(M:Mk X.K C f)(F:b_ X.prog X.w X.K X.mg X.base CX k f fd ps sp)(hr:ϫ (k+1) X.A)(hb:Binds X.K fd ps [])
 (hx:dn CX X E)(I:Inv X Æ a H s)(r:ĳ vs us)
 (h:∀x dx,H x=none->H dx=none->dx≠x->sp (.ref x::vs) (upd (upd H dx<|.own x) x<|.ins C dx []) (λv H2=>v=.non/\Q (.ref x) H2) (E a)):
 Ï (Ö X.prog X.w) X.A (call (.ref C) us) (EP X Æ a Q) X.xe s:=by
 have hq:=h (s.heap.objs.size+1) s.heap.objs.size (I.hok.fresh<|wN _) (I.hok.fresh<|ø _)<|Ņ<|si _;have I2:=Inv.made (C:=C) I;have r2:ĳ (V.ref (s.heap.objs.size+1)::vs) (ť (s.heap.objs.size+1)::us):=.cons rfl r;have hl:(ť (s.heap.objs.size+1)::us++[]).length=ps.length:=by have e:=r2.length;rw[F.len _ _ _ _ hq]at e;rw[jw];exact e.symm
 have QN:=hb {s with heap:=(s.heap.push eK).push (fS C s.heap.objs.size)} (ť (s.heap.objs.size+1)::us) I2.yW hl;rw[jw]at QN;refine wpAny_call<|EW (f:=f) I.yW M.makes M.init (beq_iff_eq.mp M.fn)<|lN (F.run _ X.stack _ _ ⟨ť (s.heap.objs.size+1)::us,[]⟩ _ _ _ (E a) (hr.make C us []) (I2.env0.make C us []) QN r2 hq) λr s' QP=>?_;cases r with
 |error e=>exact hx Æ a _ _ e s' I2 QP|ok fl=>
  cases fl with
  |ret u=>obtain⟨v,H',I3,rv,ev,q3⟩:=I2.after QP;subst ev;exact⟨rv,⟨V.ref<|s.heap.objs.size+1,H',I3,rfl,q3⟩⟩|next=>exact aI QP|brk=>exact aI QP|cont=>exact aI QP
def D_{n k:Nat}{C:String}{mb:M Fl}{as:List Slot}(h:∃r,dO n k C mb as=r/\∀z,r=z->z≠.bad):as.length+1=n:=by
 obtain⟨r,h1,h2⟩:=h;unfold dO at h1;by_cases hl:as.length+1=n
 ·exact hl
 ·rw[if_neg hl]at h1;exact absurd h1.symm (λz=>h2 .bad (by rw[<-h1]) rfl)
def LF(M:Mk X.K (cm C) f)(F:b_ X.prog X.w X.K X.mg X.base CX k f fd ps (O3 (kk X cm) n C mi))(hlen:∀{as:List Slot},(∃r,mi as=r/\∀z,r=z->z≠.bad)->as.length+1=n)(hr:ϫ (k+1) X.A)(hg:Gl X x)(hm:X.mg x=some (.ref<|cm C))(hb:Binds X.K fd ps [])(hx:dn CX X E)
 (ha:PA X (e::es) (tA (kk X cm) E ms))(qz:(x==("__debug__":Str))=false:=by kernel_rfl)(he:Ð (e::es) X.env=(false,eval e X.env)::Ð es X.env:=by exact Ō rfl)(hpl:(Ĉ pos<|Ð es X.env).any (·.1)=false:=by kernel_rfl):
 PE X (.Call (.Name x p) (e::es) [] pos) (tV (kk X cm) E<|eW C mi ms):=by
 rintro Æ s a H Q I ⟨c,F',b,rel,h⟩;refine lK<|sU I hg hm ?_ qz;refine oP (h₀:=X.base) I.ok.mod.Js M.kp (ώ (ha pos Æ s a H (λvs H1=>∀x dx,H1 x=none->H1 dx=none->dx≠x->O3 (kk X cm) n C mi (.ref x::vs) (upd (upd H1 dx<|.own x) x<|.ins (cm C) dx []) (λv H2=>v=.non/\Q (.ref x) H2) (E a)) I
  ⟨c,F',b,rel,ϴ.bind h λas d vs F1 H1 ã _ _ r1 h1=>FK hlen ã r1 h1⟩) λus s1 ⟨vs,H1,I1,r,q⟩=>⟨I1.yW,?_⟩) he hpl
 exact DZ M F hr hb hx I1 r q
end
def kC.sub{P:ä}{w:Þ}{H:Hp}{h B:Ñ}(x:kC P w H h)(k:∀b o u,H b=some u->h.get? b=some o->B.get? b=some o):kC P w H B:=λa o e=>
 (x a o e).stay (fun b u hb q=>by
   rcases hb with rfl|hb
   ·exact k _ _ _ e q
   ·exact k _ _ _ hb q) (λ_ q=>q) λ_ _ q=>q
noncomputable def D3(X:Cx)(xe:Á->Ã->Prop)(Æ:List (À×Obj)):Cx:={X with xe:=xe,pn:=X.pn++Æ}
section
variable{X:Cx}{Æ:List (À×Obj)}{σ:Ċ}{H:Hp}{s:Ã}{xe:Á->Ã->Prop}
def Inv.O4(I:Inv X Æ σ H s):Inv (D3 X xe Æ) [] σ H s:=
 ⟨⟨I.ok.mod,I.ok.kind,I.ok.glob,I.ok.blt,I.ok.above,I.ok.inj,I.ok.has,I.ok.cab,I.ok.hd,I.ok.frames,I.ok.stk,I.ok.Q7,I.ok.bs,I.ok.EE,I.ok.zc,I.ok.Do,I.ok.oQ,I.ok.Hn,I.ok.tb⟩,
   I.os,I.bare,I.base,I.loc,I.cell,I.free,I.kl,λp hp=>I.pin p (by simpa[D3]using hp),I.hok,I.len⟩
def Inv.vM{vg:List (À×Obj)}(I:Inv (D3 X xe Æ) vg σ H s):Inv X Æ σ H s:=
 ⟨⟨I.ok.mod,I.ok.kind,I.ok.glob,I.ok.blt,I.ok.above,I.ok.inj,I.ok.has,I.ok.cab,I.ok.hd,I.ok.frames,I.ok.stk,I.ok.Q7,I.ok.bs,I.ok.EE,I.ok.zc,I.ok.Do,I.ok.oQ,I.ok.Hn,I.ok.tb⟩,
   I.os,I.bare,I.base,I.loc,I.cell,I.free,I.kl,λp hp=>I.pin p<|n_ _ hp,I.hok,I.len⟩
theorem SP.vM{vg:List (À×Obj)}{D:Ends}{f:Flow}(h:SP (D3 X xe Æ) vg D f s):SP X Æ D f s:=by
 cases f with
 |next=>obtain⟨a,H',I,q⟩:=h;exact⟨a,H',Inv.vM I,q⟩|brk=>obtain⟨a,H',I,q⟩:=h;exact⟨a,H',Inv.vM I,q⟩|cont=>obtain⟨a,H',I,q⟩:=h;exact⟨a,H',Inv.vM I,q⟩|ret u=>obtain⟨v,a,H',I,r,q⟩:=h;exact⟨v,a,H',Inv.vM I,r,q⟩
end
abbrev MH:=PX->Ć->ĵ Fl
open Builtin Builtin.ObjectAttr
section
variable{X:Cx}{K:KK}
def FM:List V->Hp->VK->Prop:=λxs H Q=>(∃i,xs=[.int i]/\Q (.int i) H)\/∃k,xs=[.bl k]/\Q (.int<|if k then 1 else 0) H
def LG:Ŗ X (.type "int") FM:=DB
noncomputable def zF:List PV->Option PV
 |[.int i]=>some<|.int i|[.bl k]=>some<|.int<|if k then 1 else 0|_=>none
def LH:eU K FM zF:=by
 intro c F H a b ps pv vs Q rel r e k;unfold zF at e;split at e
 ·cases e;obtain⟨v,rfl,r1⟩:=uZ r;cases r1.int;exact .inl ⟨_,rfl,k _ F H rel Č Č ă.int⟩
 ·cases e;obtain⟨v,rfl,r1⟩:=uZ r;cases r1.bl;exact .inr ⟨_,rfl,k _ F H rel Č Č ă.int⟩
 ·cases e
def FN:List V->Hp->VK->Prop:=λxs H Q=>∃i,xs=[.int i]/\i.natAbs.log2<1920/\Q (.str<|bF i) H
def LI:Ŗ X (.type "str") FN:=xJ
noncomputable def Iv:List PV->Option PV
 |[.int i]=>if i.natAbs.log2<1920then some (.str<|bF i)else none|_=>none
def LJ:eU K FN Iv:=by
 intro c F H a b ps pv vs Q rel r e k;unfold Iv at e;split at e
 ·split at e
  ·rename_i hz;cases e;obtain⟨v,rfl,r1⟩:=uZ r;cases r1.int;exact⟨_,rfl,hz,k _ F H rel Č Č ă.str⟩
  ·cases e
 ·cases e
theorem cP:∀{ns:List Int}{č:List Á},ĳ (ns.map V.int) č->lE č ns
 |[],č,h=>by cases h;exact .nil|n::ns,č,h=>by
  cases h with
  |cons r t=>obtain⟨k,e⟩:=(show ∃k,_=oM n k from r);subst e;exact .cons n k<|cP t
def O5(K:Î):List V->Hp->VK->Prop:=λxs H Q=>∃(p:À) (ns:List Int),xs=[.ref p]/\Ϫ K H p (ns.map V.int)/\Q (.int ns.sum) H
def A5(hc:X.calm=true):Ŗ X (.builtin "sum") (O5 X.K):=by
 intro Æ s a H xs us Q I r h;obtain⟨p,ns,rfl,hS,q⟩:=h;obtain⟨u,rfl,ru⟩:=vals1 r;cases ru;obtain⟨č,rv,pl,hz⟩:=I.list hS;have hi:=cP rv;obtain⟨ys,e⟩:=hi.allInts.items;have Am:ns=ys.toList.map (·.1):=by rw[<-hi.numsOf,<-sy,<-e]
 have hl:=pl.isList;rw[e]at hl;refine sum_intListG (show X.A.handled=none from I.ok.hd hc) hl λh' tk t' hk=>?_;refine⟨.int ns.sum,H,I.kept hk,⟨t',?_⟩,q⟩;rw[preSum_eq,wD (by simp),<-Am]
section
variable{prog:ä}{w:Þ}{A:ê}{E:Á->Ã->Prop}{s:Ã}{l:À}{xs:Array (Int×Tok)}
def zG{Q:Á->Ã->Prop}(hl:s.heap.IsTuple l (hG xs))
 (h:∀s₂:Ã,s₂={s with heap:=s.heap.push {cls:=.type "tuple_iterator",data:=.fields #[.ref l,.int 0 0]}}→
   (s₂.heap.IsTupleIter s.heap.objs.size l 0/\s₂.heap.IsTuple l (hG xs))->(∀b∈[s.heap.objs.size,l],b<s₂.heap.objs.size)->l≠s.heap.objs.size->(∀h':Ñ,(∀b o,b∉[s.heap.objs.size]->s₂.heap.get? b=some o->h'.get? b=some o)->∀b o,s.heap.get? b=some o->h'.get? b=some o)->Q (.ref s.heap.objs.size) s₂):
 Ï (Ö prog w) A (gU<|.ref l) Q E s:=by
 have mT:l<s.heap.objs.size:=by obtain⟨_,e,_⟩:=hl;exact ā e
 refine xf hl<|h _ rfl ⟨⟨_,į _ rfl,rfl,rfl⟩,hl.push _⟩ (λb hb=>?_) (Ņ mT) λh' hk b o e=>?_
 ·show b<(s.heap.push _).objs.size;rw[ϱ];rcases þ.mp hb with rfl|hb
  ·exact si _
  ·rcases þ.mp hb with rfl|hb
   ·exact sj mT
   ·cases hb
 ·refine hk b o (λhm=>?_)<|Ă _ e;rcases þ.mp hm with e1|hm
  ·exact absurd (e1▸ā e)<|eo _
  ·cases hm
def A6{Q:Á->Ã->Prop}(hh:A.handled=none)(hl:s.heap.IsTuple l (hG xs))(jv:0<xs.size)
 (h:∀v h' tk,(hG xs)[argBest (λi j=>decide<|di xs i>di xs j)<|xs.size-1]?=some v->(∀b o,s.heap.get? b=some o->h'.get? b=some o)->Q v {s with heap:=h',toks:=tk}):
 Ï (Ö prog w) A (call (.builtin "max") [.ref l]) Q E s:=by
 refine call_max_walk<|zG hl λs₂ e st hfp hlI hk0=>?_;subst e;refine⟨_,_,_,_,_,_,_,rfl,Walks.tuple (A:=A.in1) hh _ l hlI<|hG xs,st,hfp,by simpa[hG]using jv,CmpOf.ints_gt (di xs)<|λ_ _=>intItems_at,λv h' tk hP hk=>?_⟩;exact h v h' tk (by simpa[hG]using hP)<|hk0 h' hk
end
def O6(K:Î):List V->Hp->VK->Prop:=λxs H Q=>∃(p:À) (ns:List Int),xs=[.ref p]/\(Ϫ K H p (ns.map V.int)\/gk K H p (ns.map V.int))/\0<ns.length/\∀M,M∈ns->(∀a∈ns,a<=M)->Q (.int M) H
def FO(hc:X.calm=true):Ŗ X (.builtin "max") (O6 X.K):=by
 intro Æ s c H xs us Q I r h;obtain⟨p,ns,rfl,hS,jv,q⟩:=h;obtain⟨u,rfl,ru⟩:=vals1 r;cases ru;have lf:∀(ys:Array (Int×Tok)),ns=ys.toList.map (·.1)->0<ys.size->∀v h' tk,(hG ys)[argBest (λi j=>decide<|di ys i>di ys j)<|ys.size-1]?=some v->(∀b o,s.heap.get? b=some o->h'.get? b=some o)->EP X Æ c Q v {s with heap:=h',toks:=tk}:=by
  intro ys Am hsz v h' tk hv hk;obtain⟨t,rfl⟩:=intItems_at hv;obtain⟨h1,h2⟩:=argBest_gt (di ys)<|ys.size-1;refine⟨.int _,H,I.kept hk,⟨t,rfl⟩,q _ ?_ λa ha=>?_⟩
  ·rw[Am,numAt_eq];have hj:argBest (λi j=>decide<|di ys i>di ys j) (ys.size-1)<(ys.toList.map (·.1)).length:=by rw[Ę,cZ];lia
   rw[aJ,ţ hj];exact Œ _
  ·rw[Am]at ha;obtain⟨j,hj,rfl⟩:=rP.mp ha;rw[Ę,cZ]at hj;have:=h2 j (by lia);rw[numAt_eq ys j,aJ,ţ (by rw[Ę,cZ];exact hj)]at this;exact this
 rcases hS with hS|hS
 ·obtain⟨č,rv,pl,hz⟩:=I.list hS;have hi:=cP rv;obtain⟨ys,e⟩:=hi.allInts.items;have Am:ns=ys.toList.map (·.1):=by rw[<-hi.numsOf,<-sy,<-e]
  have hl:=pl.isList;rw[e]at hl;have hsz:0<ys.size:=by rw[Am,Ę,cZ]at jv;exact jv
  exact max_intList (show X.A.handled=none from I.ok.hd hc) hl hsz<|lf ys Am hsz
 ·obtain⟨č,rv,pl,hz⟩:=I.tuple hS;have hi:=cP rv;obtain⟨ys,e⟩:=hi.allInts.items;have Am:ns=ys.toList.map (·.1):=by rw[<-hi.numsOf,<-sy,<-e]
  have hl:s.heap.IsTuple p č.toArray:=pl;rw[e]at hl;have hsz:0<ys.size:=by rw[Am,Ę,cZ]at jv;exact jv
  exact A6 (show X.A.handled=none from I.ok.hd hc) hl hsz<|lf ys Am hsz
def O7(K:Î):List V->Hp->VK->Prop:=λxs H Q=>∃(p:À) (ns:List Int),xs=[.ref p]/\Ϫ K H p (ns.map V.int)/\0<ns.length/\∀M,M∈ns->(∀a∈ns,M<=a)->Q (.int M) H
def FP(hc:X.calm=true):Ŗ X (.builtin "min") (O7 X.K):=by
 intro Æ s b H xs us Q I r h;obtain⟨p,ns,rfl,hS,jv,q⟩:=h;obtain⟨u,rfl,ru⟩:=vals1 r;cases ru;obtain⟨č,rv,pl,hz⟩:=I.list hS;have hi:=cP rv;obtain⟨ys,e⟩:=hi.allInts.items;have Am:ns=ys.toList.map (·.1):=by rw[<-hi.numsOf,<-sy,<-e]
 have hl:=pl.isList;rw[e]at hl;have hsz:0<ys.size:=by rw[Am,Ę,cZ]at jv;exact jv
 refine min_intList (show X.A.handled=none from I.ok.hd hc) hl hsz λv h' tk hv hk=>?_;obtain⟨t,rfl⟩:=intItems_at hv;obtain⟨h1,h2⟩:=argBest_lt (di ys)<|ys.size-1;refine⟨.int _,H,I.kept hk,⟨t,rfl⟩,q _ ?_ λa ha=>?_⟩
 ·rw[Am,numAt_eq];have hj:argBest (λi j=>decide<|di ys i<di ys j) (ys.size-1)<(ys.toList.map (·.1)).length:=by rw[Ę,cZ];lia
  rw[aJ,ţ hj];exact Œ _
 ·rw[Am]at ha;obtain⟨j,hj,rfl⟩:=rP.mp ha;rw[Ę,cZ]at hj;have:=h2 j (by lia);rw[numAt_eq ys j,aJ,ţ (by rw[Ę,cZ];exact hj)]at this;exact this
noncomputable def bp:List PV->Option (List Int)
 |[]=>some []|.int b::ps=>(bp ps).map (b::·)|_::_=>none
@[simp]theorem nL:∀ns:List Int,bp (ns.map PV.int)=some ns
  |[]=>rfl|n::ns=>by rw[Ó,bp,nL ns];rfl
theorem pX{F:Hp}:∀{ps:List PV}{vs:List V}{bs:List Int},â K F ps vs->bp ps=some bs->vs=bs.map V.int
 |[],vs,bs,r,h=>by cases h;cases r.pr;rfl|p::ps,vs,bs,r,h=>by
  cases r.pr with
  |cons r1 t=>
   cases p with
   |int b=>unfold bp at h;obtain⟨cs,e,rfl⟩:=eB.mp h;rw[pX (â.of t) e,show _=V.int b from r1];rfl|_=>cases h
noncomputable def yS(f:Int->Int->Int):List Int->Option Int
 |[]=>none|n::ns=>some<|ns.foldl f n
theorem wj:∀(ns:List Int) (n:Int),ns.foldl max n∈n::ns/\∀a∈n::ns,a<=ns.foldl max n
 |[],n=>by simp|m::ns,n=>by
  obtain⟨h1,h2⟩:=wj ns<|max n m;rw[br];refine⟨?_,λa ha=>?_⟩
  ·rcases þ.mp h1 with e|e
   ·rw[e];by_cases h:n<=m
    ·rw[Int.max_eq_right h];simp
    ·rw[Int.max_eq_left<|by lia];simp
   ·simp[e]
  ·have hm:=h2 (max n m) ł;rcases þ.mp ha with rfl|ha
   ·lia
   ·rcases þ.mp ha with rfl|ha
    ·lia
    ·exact h2 a<|õ _ ha
theorem wl:∀(ns:List Int) (n:Int),ns.foldl min n∈n::ns/\∀a∈n::ns,ns.foldl min n<=a
 |[],n=>by simp|m::ns,n=>by
  obtain⟨h1,h2⟩:=wl ns<|min n m;rw[br];refine⟨?_,λa ha=>?_⟩
  ·rcases þ.mp h1 with e|e
   ·rw[e];by_cases h:n<=m
    ·rw[Int.min_eq_left h];simp
    ·rw[Int.min_eq_right<|by lia];simp
   ·simp[e]
  ·have hm:=h2 (min n m) ł;rcases þ.mp ha with rfl|ha
   ·lia
   ·rcases þ.mp ha with rfl|ha
    ·lia
    ·exact h2 a<|õ _ ha
def yo:List PV->Option PV
 |[.lst ps]=>(bp ps).map λns=>.int ns.sum
 |_=>none
def vN:List PV->Option PV
 |[.lst ps]=>((bp ps).bind (yS max)).map .int|[.tup ps]=>((bp ps).bind (yS max)).map .int|_=>none
def vO:List PV->Option PV
 |[.lst ps]=>((bp ps).bind (yS min)).map .int|_=>none
def A7:eU K (O5 K.K) yo:=by
 intro c F H b d ps pv vs Q rel r e k;unfold yo at e;split at e
 ·rename_i ps;obtain⟨v,rfl,r1⟩:=uZ r;obtain⟨a,xs,rfl,h1,h2⟩:=r1.lst rel.sub;obtain⟨ns,eb,rfl⟩:=eB.mp e;exact⟨a,ns,rfl,by rw[<-pX h2 eb];exact h1,k _ F H rel Č Č ă.int⟩
 ·cases e
def FQ:eU K (O6 K.K) vN:=by
 intro c F H b d ps pv vs Q rel r e k;have lf:∀(ps:List PV) (xs:List V),â K F ps xs->((bp ps).bind (yS max)).map PV.int=some pv->∃ns:List Int,xs=ns.map V.int/\0<ns.length/\∀M,M∈ns->(∀a∈ns,a<=M)->Q (.int M) H:=by
  intro ps xs h2 e;obtain⟨m,em,rfl⟩:=eB.mp e;obtain⟨ns,eb,hb⟩:=oq.mp em;cases ns with
  |nil=>cases hb|cons n ns=>cases hb;obtain⟨z1,z2⟩:=wj ns n;refine⟨n::ns,pX h2 eb,by simp,λM m1 m2=>?_⟩;have:M=ns.foldl max n:=Int.le_antisymm (z2 M m1)<|m2 _ z1;rw[this];exact k _ F H rel Č Č ă.int
 unfold vN at e;split at e
 ·rename_i ps;obtain⟨v,rfl,r1⟩:=uZ r;obtain⟨a,xs,rfl,h1,h2⟩:=r1.lst rel.sub;obtain⟨ns,rfl,hl,hq⟩:=lf ps xs h2 e;exact⟨a,ns,rfl,.inl h1,hl,hq⟩
 ·rename_i ps;obtain⟨v,rfl,r1⟩:=uZ r;obtain⟨a,xs,rfl,h1,h2⟩:=r1.tup rel.sub;obtain⟨ns,rfl,hl,hq⟩:=lf ps xs h2 e;exact⟨a,ns,rfl,.inr h1,hl,hq⟩
 ·cases e
def FS:eU K (O7 K.K) vO:=by
 intro c F H b d ps pv vs Q rel r e k;unfold vO at e;split at e
 ·rename_i ps;obtain⟨v,rfl,r1⟩:=uZ r;obtain⟨a,xs,rfl,h1,h2⟩:=r1.lst rel.sub;obtain⟨m,em,rfl⟩:=eB.mp e;obtain⟨ns,eb,hb⟩:=oq.mp em;cases ns with
  |nil=>cases hb|cons n ns=>cases hb;obtain⟨z1,z2⟩:=wl ns n;refine⟨a,n::ns,rfl,by rw[<-pX h2 eb];exact h1,by simp,λM m1 m2=>?_⟩;have:M=ns.foldl min n:=Int.le_antisymm (m2 _ z1)<|z2 M m1;rw[this];exact k _ F H rel Č Č ă.int
 ·cases e
@[simp]theorem RO{i:Int}:zF [.int i]=some (.int i):=rfl
@[simp]theorem RP{b:Bool}:zF [.bl b]=some (.int<|if b then 1 else 0):=rfl
@[simp]theorem RQ{i:Int}:Iv [.int i]=if i.natAbs.log2<1920then some (.str<|bF i)else none:=rfl
@[simp]theorem ik{ps:List PV}:yo [.lst ps]=(bp ps).map λns=>.int ns.sum:=rfl
@[simp]theorem Iw{ps:List PV}:vN [.lst ps]=((bp ps).bind (yS max)).map .int:=rfl
@[simp]theorem Ix{ps:List PV}:vO [.lst ps]=((bp ps).bind (yS min)).map .int:=rfl
@[simp]theorem RS{f:Int->Int->Int}{n:Int}{ns:List Int}:yS f (n::ns)=some (ns.foldl f n):=rfl
end
noncomputable def O8(K:Î)(C:À):Bool:=oN K C fQ&&sR K C&&xx K C&&ϛ K (.ref C) "__setattr__"==some (some<|.builtin "object.__setattr__")
def LK{K:Î}{C:À}(h:O8 K C=true):Az K C:=by unfold O8 at h;simp only[ú,beq_iff_eq]at h;exact⟨h.1.1.1,h.1.1.2,h.1.2,h.2⟩
noncomputable def FT(K:Î)(C:À)(m:Str)(f:À):Bool:=ϛ K (.ref C) m==some (some<|.ref f)&&oO K (.ref f)&&bE K (.ref f)
def Iy{K:Î}{C f:À}{m:Str}(h:FT K C m f=true):Em K C m f:=by unfold FT at h;simp only[ú,beq_iff_eq]at h;exact⟨h.1.1,h.1.2,h.2⟩
noncomputable def UU(K:Î)(C f:À):Bool:=xz K C&&ϛ K (.ref C) "__init__"==some (some<|.ref f)&&oO K (.ref f)&&bE K (.ref C)
def O9{K:Î}{C f:À}(h:UU K C f=true):Mk K C f:=by unfold UU at h;simp only[ú,beq_iff_eq]at h;exact⟨h.1.1.1,h.1.1.2,h.1.2,h.2⟩
section
variable{ρ:Ć}{n k:Nat}{C:String}{cs:List String}{f m:Str}{mo:M PV}{ms:M (List Slot)}{mb:M Fl}{am:List (String×MF)}{as:List Slot}{ns:List Str}{ps:List PV}
@[simp]theorem RT:dO n k C mb as=if as.length+1=n then IR.of (mb (.rc C [] []::Ŀ (k-1) as))else .bad:=rfl
@[simp]theorem UV{C:String}:IR.of (.ok .nx (.rc C ns ps::ρ))=.ok ns ps:=rfl
@[simp]theorem UW:ŏ cs f (.ins C ns ps)=if cs.contains C=true then(ns.zip ps).lookup f else none:=rfl
@[simp]theorem Iz:gq m am mo ms ρ=(mo ρ).bind fun p b=>match p with
  |.ins C ns ps=>match am.lookup C with
    |some mf=>if ns.contains m=true then .bad else(ms b).bind λas a=>match mf (.sh (.ins C ns ps)::as)with
     |.ret r=>.ok r a|.exc x=>.exc x a|.bad=>.bad
    |none=>.bad
  |_=>.bad:=rfl
end
end P
namespace M3
open PySem PySem.Spec PyProof.Rows L2 M2
section
variable{X:Cx}{elt tg iter:È}{ifs:List È}{scope:û}{pos:Pos}{wi:TI}{g:TG}{tt:TT}{te:TE}
def IA{iv:Nat}{y:Str}{py Ao:Pos}(hN:X.N.Nodup)(hiN:X.N[iv]?=some y)(hy:X.env.scope.names.lookup y=some .local)(QU:ņ (.ListComp elt [⟨tg,iter,ifs,0⟩] scope pos) (some<|.Name y py) Ao.line X.env=ì true)(N':List Str)(js:List Nat)(nl:Nat)(sc:û)(Bt:X.env.scope=sc)(hcalm:X.calm=true)
 (hi:PI X.ϲ tg iter wi)(hg:∀cl C s H fp,PG (iN X.ϲ N' scope cl C s H fp) tg g)(ht:∀cl C s H fp,Cm (iN X.ϲ N' scope cl C s H fp) ifs tt)(he:∀cl C s H fp,PE (iN X.ϲ N' scope cl C s H fp) elt te)
 (hcap:kF X.ϲ sc scope N' js)(hlen:js.length+nl=N'.length:=by rfl)
 (hk:scope.kind=.function:=by rfl)(hcell:∀y∈scope.names,y.2=.cell->scope.names.lookup y.1=some .cell:=by decide+kernel)(hnames:∀y∈scope.names,y.2=.local->scope.names.lookup y.1=some .local:=by decide+kernel)
 (hfree:∀y∈scope.names,y.2=.free->(sc.names.lookup y.1=some .cell\/sc.names.lookup y.1=some .free):=by decide+kernel)
 (hs:∀x,cC iter X.env x=ì x:=by intro _;rfl):
 PS X.ϲ (.Assign [.Name y py] (.ListComp elt [⟨tg,iter,ifs,0⟩] scope pos) Ao) (λD a H=>vy js nl wi g tt te a H λv H'=>D.nx (a.set iv<|some v) H'):=by
 intro Æ s a H DD I h;rw[exec_Assign_Name_used _ _ _ _<|show ņ _ _ _ X.ϲ.env=ì true from QU];refine Ò<|oA<|Ò ?_;show Ï _ X.A (do let _<-comprehension (.ListComp elt [⟨tg,iter,ifs,0⟩] scope pos) scope X.ϲ.env _ (newList []) false (eval iter X.ϲ.env) (some<|de (.Name y py) X.ϲ.env)) _ _ s;refine Ò<|Ϯ (vz (QQ:=λ_ s'=>SP X.ϲ Æ DD .next s') (use:=some<|de (.Name y py) X.ϲ.env) N' js nl sc Bt hcalm hi hg ht he hcap hlen hk hcell hnames hfree hs I h λD C m s6 H5 hm kp hCL hcC hpC hnC hsz qn _=>?_) (λ_ s' hq=>ĉ<|ĉ hq) λ_ _ e=>e;have I7:Inv X.ϲ Æ a H5 s6:=kp s6.heap λb u _ e=>e;refine wpAny_assign_Name<|vh (X:=X.ϲ) (i:=iv) I7 hN hiN (.inl hy) (v:=.ref D) rfl (λs8 I8 zz=>?_)<|.inr hy;obtain⟨a8,sb8,UX⟩:=zz;have ne8:C≠a8:=by
  rcases UX with rfl|UX
  ·exact hCL
  ·exact λz=>hcC _ _ UX z.symm
 refine⟨m,hm.sameBut sb8 ne8,λh' Hf=>⟨_,H5,?_,qn⟩⟩;have kp:∀b o,b≠C->s8.heap.get? b=some o->h'.get? b=some o:=λb o hb e=>Hf.extBut b o hb e;have UY:∀b o,b∉[C]->s8.heap.get? b=some o->h'.get? b=some o:=λb o hb e=>kp b o (λz=>hb (by rw[z];exact ł)) e;refine I8.call' (ch:=[C]) (s':={s8 with heap:=h'}) rfl ⟨λb o e _ _ hx=>UY b o hx e,λb o e _ _ hx=>⟨o.slots,UY b o hx e⟩,λb o _ n _=>n,λb o e hx=>⟨o,UY b o hx e⟩,λ_ _ q=>q,λ_ _ _ q=>q,λ_ ps q=>q⟩ (Ck I8.hok hnC kp) I8.bare λb hb=>?_;cases rT.mp hb;exact⟨.inr hsz,hCL,hcC,hpC⟩
end
end M3
namespace P
open PySem PySem.Spec PyProof.Rows L2 M2 M3 M4
section
variable{X:Cx}{cm:String->À}{E:Ċ->XK}{elt tg iter:È}{ifs:List È}{scope:û}{pos:Pos}{mi:M (List PV)}{g:Tg}{mt:M Bool}{me:M PV}
theorem PS.ϲ{st:í}{t:TS}(h:PS X.ϲ st t):PS X st t:=λÆ s a H D I hw=>
 Ϯ (h Æ s a H D (I.wish _) hw) (λ_ _ q=>q.jK) λ_ _ z=>aI z
def LM{i:Nat}{y:Str}{py Ao:Pos}(hN:X.N.Nodup)(W3:X.N[i]?=some y)(hy:X.env.scope.names.lookup y=some .local)(N':List Str)(js:List Nat)(nl:Nat)(sc:û)(Bt:X.env.scope=sc)(hcalm:X.calm=true)
 (hi:PI X.ϲ tg iter (tI (kk X cm) E mi))(hg:∀cl C s H fp,PG (iN X.ϲ N' scope cl C s H fp) tg<|tT (kk X cm) g)(ht:∀cl C s H fp,Cm (iN X.ϲ N' scope cl C s H fp) ifs<|tB (kk X cm) EF mt)(he:∀cl C s H fp,PE (iN X.ϲ N' scope cl C s H fp) elt<|tV (kk X cm) EF me)
 (hcap:kF X.ϲ sc scope N' js)(hlen:js.length+nl=N'.length:=by rfl)
 (hk:scope.kind=.function:=by rfl)(hcell:∀y∈scope.names,y.2=.cell->scope.names.lookup y.1=some .cell:=by decide+kernel)(hnames:∀y∈scope.names,y.2=.local->scope.names.lookup y.1=some .local:=by decide+kernel)
 (hfree:∀y∈scope.names,y.2=.free->(sc.names.lookup y.1=some .cell\/sc.names.lookup y.1=some .free):=by decide+kernel)
 (hs:∀x,cC iter X.env x=ì x:=by intro _;rfl)(QU:ņ (.ListComp elt [⟨tg,iter,ifs,0⟩] scope pos) (some<|.Name y py) Ao.line X.env=ì true:=by rfl):
 PS X (.Assign [.Name y py] (.ListComp elt [⟨tg,iter,ifs,0⟩] scope pos) Ao) (tS (kk X cm) E<|ý i<|Ī js nl mi g mt me):=
 PS.wk (PS.ϲ<|IA hN W3 hy QU N' js nl sc Bt hcalm (JB hi) hg ht he hcap hlen hk hcell hnames hfree hs) fun D e H ⟨c,F,b,rel,h⟩=>zq ⟨c,F,b,rel,ϻ.bind h fun r d v F1 H1 ã s1 q h1=>by
   cases r with
   |sh p=>exact h1 _ F1 H1 (ã.put rfl ⟨v,rfl,q⟩) Č|ow ps=>obtain⟨a,vs,rfl,q1,q2,q3,q4,q5⟩:=q;exact h1 _ F1 H1 (ã.DR ⟨a,vs,rfl,q1,q2,q3,q5⟩ λ_ z=>V.ref.inj z▸q4) Č
   |ot ps qs rs=>obtain⟨p,a,xs,vs,ys,rfl,q0,qx,q1,q2,q3,q4,q5,q6⟩:=q;exact h1 _ F1 H1 (ã.DR (s:=.ot ps qs rs) ⟨p,a,xs,vs,ys,rfl,q0,qx,q1,q2,q3,q5,q6⟩ λ_ z=>oV (ps:=ps) (qs:=qs) (rs:=rs) z ⟨p,xs,ys,rfl,q0,qx.length.symm⟩▸q4) Č
   |bn t ps qs rows=>exact h1 _ F1 H1 (ã.Ll q) Č⟩
end
def UZ(K:KK)(r:V->List V->Hp->VK->Prop)(f:PV->List PV->Option PV):Prop:=∀{c:Ctx}{F H:Hp}{a:Ċ}{b:Ć}{p:PV}{ps:List PV}{pv:PV}{v:V}{vs:List V}{Q:VK},ě K c F H a b->rR K c a b F H p v->Lj K c a b F H ps vs->f p ps=some pv->
 (∀z F' H',ě K c F' H' a b->Ù F F'->Ù H H'->ă K F' pv z->Q z H')->r v vs H Q
@[simp]def FU(f:PV→List PV→Option PV)(mo:M PV)(ms:M (List PV))(c:Ć):ĵ PV:=(mo c).bind fun p a=>match p with
  |.str _=>(ms a).bind λps b=>ĵ.zp (f p ps) b
  |_=>.bad
section
variable{X:Cx}{cm:String->À}{K:KK}{E:Ċ->XK}{o e:È}{es:List È}{name:Str}{dI gf:Pos}{id:String}{r:V->List V->Hp->VK->Prop}{f:PV->List PV->Option PV}{mo:M PV}{ms:M (List PV)}
def zH(pa:PlainAttrs "str")(slot:PySem.Slot "str" name id)(lm:typeOf (.builtin id)=ì (.type "method_descriptor"))(hf:UZ (kk X cm) r f)(hm:Nc X id r)(ho:PE X o (tR (kk X cm) E mo))(ha:PA X (e::es) (G2 (kk X cm) E ms))
 (jq:dh o name X.env (eval o X.env)=eval o X.env:=by kernel_rfl)
 (qA:((Ĉ gf<|Ð (e::es) X.env).all (fun x=>!x.1)&&(bv gf<|bz [] X.env).all (fun x=>x.1.isSome)
   &&decide ((e::es).length+([]:List ϯ).length+(if([]:List ϯ).isEmpty then 0 else 1)<30))=true:=by rfl)
 (jr:(dI.endLine==gf.line)=true:=by rfl)(hs:Ð (e::es) X.env=(false,eval e X.env)::Ð es X.env:=by exact Ō rfl)(nW:(Ĉ gf<|Ð es X.env).any (·.1)=false:=by kernel_rfl):
 PE X (.Call (.Attribute o name dI) (e::es) [] gf) (tV (kk X cm) E<|FU f mo ms):=
 PE.wk (fk pa slot lm hm ho ha jq qA jr hs nW) fun g H Q ⟨c,F,b,rel,h⟩=>⟨c,F,b,rel,ϴ.bind h fun p a v F1 H1 ã _ _ r1 h1=>by
   cases p with
   |str z=>
    cases r1.str;refine⟨rfl,c,F1,a,ã,ϴ.bind h1 λps d vs F2 H2 ē sF sH r2 h2=>?_⟩;cases ef:f (.str z) ps with
    |none=>rw[ef]at h2;exact h2.elim|some pv=>rw[ef]at h2;exact hf ē (.inl<|ă.str (K:=kk X cm) (F:=F2)) r2 ef λz F' H' Š s1 s2 q'=>h2 z F' H' Š s1 s2 q'
   |_=>exact h1.elim⟩
noncomputable def lq:List PV->Option (List<|List Nat)
 |[]=>some []|.str z::ps=>(lq ps).map (z.cps.toList::·)|_::_=>none
theorem zI{F:Hp}:∀{ps:List PV}{vs:List V}{bs:List (List Nat)},â K F ps vs->lq ps=some bs->vs=bs.map λl=>V.str<|S l
 |[],vs,bs,r,h=>by cases h;cases r.pr;rfl|p::ps,vs,bs,r,h=>by
  cases r.pr with
  |cons r1 t=>
   cases p with
   |str z=>unfold lq at h;obtain⟨cs,e,rfl⟩:=eB.mp h;rw[zI (â.of t) e,show _=V.str z from r1,Ó,Ld]|_=>cases h
def eX:PV->List PV->Option PV
 |.str z,[.lst ps]=>(lq ps).bind λys=>if(ys.map bq).sum+ys.length*z.length<=16777216then some (.str<|S<|Ė z.cps.toList ys)else none
 |_,_=>none
def mE:UZ K (Fj K.K) eX:=by
 intro c F H b d p ps pv v vs Q rel r1 r2 e k;unfold eX at e;split at e
 ·rename_i z qs;cases r1.str;obtain⟨u,rfl,r3⟩:=uZ r2;obtain⟨a,xs,rfl,h1,h2⟩:=r3.lst rel.sub;obtain⟨ys,eb,e⟩:=oq.mp e;split at e
  ·rename_i hz;cases e;exact⟨ys,by rw[<-zI h2 eb];exact h1,hz,k _ F H rel Č Č ă.str⟩
  ·cases e
 ·cases e
noncomputable def pc:PV->List PV->Option PV
 |.str z,[.str y]=>some<|.bl<|decide<|z.cps.toList.take y.cps.toList.length=y.cps.toList|_,_=>none
def vP:UZ K xU pc:=by
 intro c F H a b p ps pv v vs Q rel r1 r2 e k;unfold pc at e;split at e
 ·cases r1.str;obtain⟨u,rfl,r3⟩:=uZ r2;cases r3.str;cases e;exact k _ F H rel Č Č ă.bl
 ·cases e
end
end P
namespace PySem
open AutoSeq1 (wpAny_loadPart')
namespace RU
def Pa(a:Á)(t:Tok):checkTypeCall "enumerate" ⟨[a],[(Å "start",.int 1 t)]⟩=ì ():=by kernel_rfl
def Pb(a:Á)(t:Tok):checkBuiltinCall "enumerate.__new__" ⟨[.type "enumerate",a],[(Å "start",.int 1 t)]⟩=ì ():=by kernel_rfl
def W4(l:À)(items:Array Á)(n:Nat)(t:Tok)(W5:Option À)(sl:Array (Option Á)):
 Meets (lP.«enumerate.__new__» ⟨[.type "enumerate",.ref l],[(Å "start",.int 1 t)]⟩) (λ_ R s=>s.heap.get? l=some {cls:=.type "list",dict:=W5,data:=.seq items n,slots:=sl}/\
  R (.ok<|.ret<|.ref (s.heap.push {cls:=.type "list_iterator",data:=.fields #[.ref l,.int 0 0]}).objs.size)
    {s with heap:=(s.heap.push {cls:=.type "list_iterator",data:=.fields #[.ref l,.int 0 0]}).push {cls:=.type "enumerate",data:=.fields #[.none,.bool false,.ref s.heap.objs.size,dg 1,.none,.none]}}):=
 .of_wp fun prog w A R s h=>by
   obtain⟨hp,g,d,tk,os⟩:=s;obtain⟨hl,h⟩:=h;have Jl:=sub_enumerate;have hL:Heap.IsList (xr ⟨hp,g,d,tk,os⟩) l items:=⟨_,hl,rfl,n,rfl⟩
   wp_walk using wpAny_loadPart' hl
   refine wpAny_stack_any λst=>ĉ ?_;split
   ·rename_i c _ _ _ _ _;cases(c==xt "enumerate")
    ·wp_walk using wpAny_loadPart' hl,lO hL
     exact⟨_,rfl,h⟩
    ·wp_walk using wpAny_loadPart' hl,lO hL
     exact⟨_,rfl,h⟩
   ·wp_walk using wpAny_loadPart' hl,lO hL
    exact⟨_,rfl,h⟩
section
variable{prog:ä}{w:Þ}{A:ê}{E:Á->Ã->Prop}{s:Ã}
def Pc{self a:Á}{t:Tok}:Meets (lP.«object.__init__» ⟨[self,a],[(Å "start",.int 1 t)]⟩) (λ_ R s=>s.TypeIs self "enumerate"/\R (.ok<|.ret .none) s):=by
 have hl:=xm.init.lookup;have hm:=xm.made;refine Meets.of_wp λprog w A R s hs=>?_;obtain⟨hT,hq⟩:=hs
 repeat (any_goals (first|assumption|wp_step))
 exact⟨_,rfl,hq⟩
def Pd(a b:Á)(t:Tok):argsOk "object.__init__" ⟨[a,b],[(Å "start",.int 1 t)]⟩:=by unfold argsOk;kernel_rfl
def Pe{l:À}{items:Array Á}{t:Tok}{Q:Á->Ã->Prop}(hL:s.heap.IsList l items)
 (h:∀h',bA h' (s.heap.objs.size+1) s.heap.objs.size 1 .none->h'.IsListIter s.heap.objs.size l 0->h'.objs.size=s.heap.objs.size+2->(∀b o,s.heap.get? b=some o->h'.get? b=some o)->Q (.ref<|s.heap.objs.size+1) {s with heap:=h'}):
 Ï (Ö prog w) A (call (.type "enumerate") [.ref l] [(Å "start",.int 1 t)]) Q E s:=by
 obtain⟨⟨c,W5,dt,sl⟩,hl,hc,n,hd⟩:=hL
 replace hc:c=.type "list":=hc
 replace hd:dt=.seq items n:=hd
 subst hc hd;have ft:=xm;obtain⟨c,tl,Zao⟩:=ft.mro;have Zab:=ft.made;have Jl:=ft.sub;have hct:=Pa (.ref l) t;refine wpAny_call<|codeAny_of_tree ?_;show Ï _ _ (callAny (.type "enumerate") _) _ _ _;refine ĉ ⟨Code.quiet_builtin _ (by decide+kernel),codeAny_builtin F.entry_type_call ?_⟩;rw[Around.under_plain (weight_type_call_type "enumerate" [.ref l] [(Å "start",.int 1 t)])<|units_type_call_type "enumerate" [.ref l] [(Å "start",.int 1 t)]];have h1:=ft.notType;have h2:=ft.canCreate
 repeat (any_goals (first|assumption|wp_step))
 refine lN (codeAny_call_builtin ft.plain F.entry_enumerate_new<|wpAny_of_eq (Pb (.ref l) t)<|W4 l items n t W5 sl prog w A.in1 (wants (λobj s₁=>s₁.TypeIs obj "enumerate"/\Q obj s₁) E) s ⟨hl,?_⟩) λr s₁ hr=>?_
 ·have hz:(s.heap.push {cls:=.type "list_iterator",data:=.fields #[.ref l,.int 0 0]}).objs.size=s.heap.objs.size+1:=ϱ ..;show _/\_;rw[hz];have he:bA ((s.heap.push {cls:=.type "list_iterator",data:=.fields #[.ref l,.int 0 0]}).push {cls:=.type "enumerate",data:=.fields #[.none,.bool false,.ref s.heap.objs.size,dg 1,.none,.none]}) (s.heap.objs.size+1) s.heap.objs.size 1 .none:=by
   have:=į (s.heap.push {cls:=.type "list_iterator",data:=.fields #[.ref l,.int 0 0]}) (o:={cls:=.type "enumerate",data:=.fields #[.none,.bool false,.ref s.heap.objs.size,dg 1,.none,.none]}) rfl;rw[hz]at this;exact this
  exact⟨⟨_,he,rfl⟩,h _ he ⟨_,Ă _<|į _ rfl,rfl,rfl⟩ (by rw[ϱ,hz]) λb o x=>Ă _<|Ă _ x⟩
 ·cases r with
  |error e=>exact hr|ok fl=>
   cases fl with
   |ret obj=>
    obtain⟨hT,hq⟩:=hr;have hli:=ft.init.lookup;have NJ:=ft.init.bind obj
    repeat (any_goals (first|assumption|wp_step))
    refine lN (codeAny_call_builtin ft.init.plain F.entry_object_init<|ft.init.check _ _ _ _ _ _ _ _ hT (Pd _ _ t)<|Pc prog w A.in1 (wants (λr s₂=>r=.none/\Q obj s₂) E) s₁ ⟨hT,rfl,hq⟩) λr₂ s₂ W6=>?_;cases r₂ with
    |error e=>exact W6|ok fl₂=>
     cases fl₂ with
     |ret r=>
      obtain⟨rfl,hq⟩:=W6
      repeat (any_goals (first|assumption|wp_step))
     |_=>exact W6.elim
   |_=>exact hr.elim
def Ep{e it l:À}{i:Nat}{k:Int}{items:Array Á}{x rm:Á}{Q:Á->Ã->Prop}(he:bA s.heap e it k rm)(pY:s.heap.IsListIter it l i)(hl:s.heap.IsList l items)(hx:items[i]?=some x)(jv:e≠it)
 (hQ:∀h',IsEnumOut h' e it (k+1) x s.heap.objs.size->h'.IsListIter it l (i+1)->h'.get? s.heap.objs.size=some {cls:=.type "tuple",data:=.seq #[.int k s.toks,x]}->h'.objs.size=s.heap.objs.size+1->(∀b o,b≠e->b≠it->s.heap.get? b=some o->h'.get? b=some o)->Q (.ref s.heap.objs.size) {s with heap:=h',toks:=s.toks+1}):
 Ï (Ö prog w) A (lP.«enumerate.__next__» ⟨[.ref e],[]⟩) (λlf s'=>∃v,lf=.done (.ret v)/\Q v s') E s:=by
 obtain⟨hp,g,d,tk,os⟩:=s;show Ï _ _ (cF (.ref e) 2>>=_) _ _ _;refine Ò<|ϋ he rfl (x:=.ref it) rfl ?_;refine Ò (wpAny_nextOf_list_item pY hl hx λha QV sa=>?_)
 replace sa:Ŝ it hp ha:=sa
 have ea:bA ha e it k rm:=(sa.2 e jv).trans he;show Ï _ _ (cF (.ref e) 3>>=_) _ _ ⟨ha,g,d,tk,os⟩;refine Ò<|ϋ ea rfl (x:=dg k) rfl ?_;show Ï _ _ (cF (.ref e) 4>>=_) _ _ ⟨ha,g,d,tk,os⟩;refine Ò<|ϋ ea rfl (x:=.none) rfl ?_;show Ï _ _ (mkInt k>>=_) _ _ ⟨ha,g,d,tk,os⟩;refine Ò<|wpAny_mkInt ?_;show Ï _ _ (setField (.ref e) 3 (dg<|k+1)>>=_) _ _ ⟨ha,g,d,tk+1,os⟩;refine Ò (dm ea (by simp) λhb eb sb=>?_)
 replace sb:Ŝ e ha hb:=sb
 replace eb:bA hb e it (k+1) rm:=eb
 show Ï _ _ (setField (.ref e) 4 .none>>=_) _ _ ⟨hb,g,d,tk+1,os⟩;refine Ò (dm eb (by simp) λhc ec sc=>?_)
 replace sc:Ŝ e hb hc:=sc
 replace ec:bA hc e it (k+1) rm:=ec
 show Ï _ _ (newTuple [.int k tk,x]>>=_) _ _ ⟨hc,g,d,tk+1,os⟩;refine Ò<|wpAny_newTuple ?_;have ed:bA (hc.push {cls:=.type "tuple",data:=.seq #[.int k tk,x]}) e it (k+1) rm:=Ă _ ec;generalize QW:hc.push {cls:=.type "tuple",data:=.seq #[.int k tk,x]}=hd at ed;have hsz:hc.objs.size=hp.objs.size:=by rw[sc.1,sb.1,sa.1]
 have W7:e<hp.objs.size:=ā he;have td:hd.get? hp.objs.size=some {cls:=.type "tuple",data:=.seq #[.int k tk,x]}:=by rw[<-QW,<-hsz];exact į _ rfl
 have zd:hd.objs.size=hp.objs.size+1:=by rw[<-QW,ϱ,hsz]
 have kd:∀b o,b≠e->b≠it->hp.get? b=some o->hd.get? b=some o:=λb o yZ NJ q=>by rw[<-QW];exact Ă _<|sc.extBut b o yZ<|sb.extBut b o yZ<|sa.extBut b o NJ q
 have itd:hd.IsListIter it l (i+1):=by rw[<-QW];obtain⟨o,ho,r⟩:=(QV.extBut sb.extBut<|đ jv).extBut sc.extBut (đ jv);exact⟨o,Ă _ ho,r⟩
 show Ï _ _ (lS (.ref e)>>=_) _ _ ⟨hd,g,d,tk+1,os⟩;rw[hsz];clear QW ec sc eb sb ea sa QV hsz hc hb ha;refine Ò ?_
 ·unfold lS;refine Ò<|ϋ ed rfl (x:=.none) rfl<|ĉ ?_;simp only[if_true];refine Ò<|sA ?_;refine Ò<|ϋ ed rfl (x:=rm) rfl ?_;refine Ò (dm ed (by simp) λh5 e5 s5=>?_)
  replace s5:Ŝ e hd h5:=s5
  replace e5:bA h5 e it (k+1) x:=e5
  show Ï _ _ (sI (.ref e) (.ref hp.objs.size)>>=_) _ _ ⟨h5,g,d,tk+1,os⟩;refine Ò ?_
  ·unfold sI;refine Ò (dm e5 (by simp) λh6 e6 s6=>?_)
   replace s6:Ŝ e h5 h6:=s6
   replace e6:IsEnumOut h6 e it (k+1) x hp.objs.size:=e6
   refine dm e6 (by simp) λh7 e7 s7=>?_
   replace s7:Ŝ e h6 h7:=s7
   replace e7:IsEnumOut h7 e it (k+1) x hp.objs.size:=e7
   refine Ò<|sB<|ĉ ⟨_,rfl,hQ h7 e7 ?_ ?_ ?_ ?_⟩
   ·exact((itd.extBut s5.extBut<|đ jv).extBut s6.extBut (đ jv)).extBut s7.extBut (đ jv)
   ·exact s7.extBut _ _ (db W7)<|s6.extBut _ _ (db W7)<|s5.extBut _ _ (db W7) td
   ·rw[s7.1,s6.1,s5.1,zd]
   ·exact λb o yZ NJ q=>s7.extBut b o yZ<|s6.extBut b o yZ<|s5.extBut b o yZ<|kd b o yZ NJ q
def LO{e it l:À}{i:Nat}{k:Int}{items:Array Á}{x rm:Á}{Q:Option Á->Ã->Prop}(he:bA s.heap e it k rm)(pY:s.heap.IsListIter it l i)(hl:s.heap.IsList l items)(hx:items[i]?=some x)(jv:e≠it)
 (hQ:∀h',IsEnumOut h' e it (k+1) x s.heap.objs.size->h'.IsListIter it l (i+1)->h'.get? s.heap.objs.size=some {cls:=.type "tuple",data:=.seq #[.int k s.toks,x]}->h'.objs.size=s.heap.objs.size+1->(∀b o,b≠e->b≠it->s.heap.get? b=some o->h'.get? b=some o)->Q (some<|.ref s.heap.objs.size) {s with heap:=h',toks:=s.toks+1}):
 Ï (Ö prog w) A (df<|.ref e) Q E s:=by
 have hT:s.TypeIs (.ref e) "enumerate":=⟨_,he,rfl⟩;unfold df;exact Ò<|sC<|lQ (name:=Å "__next__") hT sJ<|lR sJ hT BS (Ep he pY hl hx jv λh' a b c d k=>ĉ<|hQ h' a b c d k)<|BU _
def A8{e it l:À}{i:Nat}{k:Int}{items:Array Á}{rm:Á}{Q:Option Á->Ã->Prop}(hh:A.handled=none)(he:bA s.heap e it k rm)(pY:s.heap.IsListIter it l i)(hl:s.heap.IsList l items)(hx:items[i]?=none)
 (hQ:∀h',sO it s.heap h'->Q none {s with heap:=h'}):Ï (Ö prog w) A (df<|.ref e) Q E s:=by
 have hT:s.TypeIs (.ref e) "enumerate":=⟨_,he,rfl⟩;unfold df;refine Ò<|sC<|lQ (name:=Å "__next__") hT sJ<|lR sJ hT BS ?_ (BU _);show Ï _ _ (cF (.ref e) 2>>=_) _ _ _;refine Ò<|ϋ he rfl (x:=.ref it) rfl ?_;refine Ò<|wpAny_nextOf_list_end hh pY hl hx λh' x W8 hx'=>?_;obtain⟨o,ho,hc⟩:=hx';refine Ò<|wpAny_isInstance (T:="StopIteration") (b:=true) ⟨o,ho,hc⟩ isSubtype_stop ?_;exact ĉ<|hQ _ W8
end
end RU
end PySem
namespace P
open PySem PySem.Spec PyProof.Rows L2 M2 M3 M4
section
variable{X:Cx}{Æ:List (À×Obj)}{σ:Ċ}{H:Hp}{s:Ã}{h':Ñ}
def turns{t':Nat}{fp:List À}(I:Inv X Æ σ H s)(k:∀b o,b∉fp->s.heap.get? b=some o->h'.get? b=some o)(hf:∀b∈fp,nu X Æ H b):Inv X Æ σ H {s with heap:=h',toks:=t'}:=by
 have N_:∀b u,H b=some u->b∉fp:=λb u e z=>by rw[(hf b z).1]at e;cases e
 have hL:X.env.locals∉fp:=λz=>(hf _ z).2.1 rfl;refine I.step (g':=s.gens) (d':=s.drawn) (ch:=fp) (λb hb=>?_) (λb o _ _ hc e _=>k b o hc e) (λb o _ _ hc e _=>⟨o.slots,k b o hc e⟩) (λ_ _ _ _ n=>n)
  (λb o hc e=>⟨o,k b o hc e⟩) (λ_ _ e=>e) (λ_ _ _ e=>e) (λb ps e=>e) (λm hm=>?_) (λb u e=>?_) I.bare
 ·obtain⟨f0,f1,f2,f3,f4,f5⟩:=hf b hb;exact⟨f3,f1,f4,f5⟩
 ·obtain⟨o,es,ep,ho,r⟩:=hm;exact⟨o,es,ep,k _ o hL ho,r⟩
 ·refine(I.hok b u e).stay (λc v hc q=>k c v ?_ q) (λ_ q=>q) λ_ _ q=>q;rcases hc with z|z
  ·rw[z];exact N_ b u e
  ·exact N_ c _ z
def LP{a b:À}{o:HO}(f:nu X Æ H b)(h:b≠a):nu X Æ (upd H a o) b:=⟨by rw[î h];exact f.1,f.2⟩
def ui{t':Nat}{fp:List À}{u1 u2:Á}{x1 x2:V}(I:Inv X Æ σ H s)(r1:RelV x1 u1)(r2:RelV x2 u2)(ht:∃o,h'.get? s.heap.objs.size=some o/\o={cls:=.type "tuple",data:=.seq #[u1,u2]})
 (k:∀b o,b∉fp->s.heap.get? b=some o->h'.get? b=some o)(hf:∀b∈fp,nu X Æ H b)(mT:∀b∈fp,b<s.heap.objs.size):
 Inv X Æ σ (upd H s.heap.objs.size<|.tup [x1,x2]) {s with heap:=h',toks:=t'}:=by
 have I1:Inv X Æ σ (upd H s.heap.objs.size<|.tup [x1,x2]) {s with heap:=s.heap.push {cls:=.type "tuple",data:=.seq #[u1,u2]},toks:=s.toks}:=
  I.laid (t':=s.toks) (λb u e=>Ă _ e) (ø _) ⟨by show 2<=sizeLine;decide,[u1,u2],.cons r1<|.cons r2 .nil,⟨_,į _ rfl,rfl,_,rfl⟩⟩
 refine turns (fp:=fp) (s:={s with heap:=s.heap.push {cls:=.type "tuple",data:=.seq #[u1,u2]},toks:=s.toks}) (h':=h') (t':=t') I1 (λb o hb e=>?_) λb hb=>LP (hf b hb)<|Ņ<|mT b hb;rcases Heap.get?_push_cases e with⟨rfl,rfl⟩|e
 ·obtain⟨o,h1,h2⟩:=ht;rw[h1,h2]
 ·exact k b o hb e
end
def IB(z:Nat)(K:Î)(a:À):It:=
 ⟨λi H=>∃xs x,Ϫ K H a xs/\xs[i]?=some x,λi H y H'=>∃x T,(∀xs,Ϫ K H a xs->xs[i]?=some x)/\H T=none/\y=.ref T/\H'=upd H T (.tup [.int ((i+z:Nat):Int),x]),λi H=>∃xs,Ϫ K H a xs/\xs.length<=i⟩
abbrev Ite:=IB 0
def vQ(z:Nat){P:ä}{w:Þ}{K:Î}{elts:List È}{k:Nat}{pos:Pos}(a e it:À)(jv:e≠it):Br P w K (.Tuple elts k pos) (IB z K a) [e,it] e (λi h=>(∃rm,bA h e it (((i+z:Nat):Int)) rm)/\h.IsListIter it a i) where
 mem:=by simp
 obj:=λi h st b hb=>by
  obtain⟨⟨rm,he⟩,pY⟩:=st;rcases þ.mp hb with rfl|hb
  ·exact⟨_,he,fun v z=>by have z':xk _=oI v:=z;cases z'⟩
  ·have e':b=it:=by simpa using hb
   subst e';obtain⟨o,e1,c,d⟩:=pY;exact⟨o,e1,λv z=>by rw[d]at z;cases z⟩
 keep:=λi h h' st k=>⟨let ⟨rm,he⟩:=st.1;⟨rm,k e (by simp) _ he⟩,st.2.at λo q=>k it (by simp) o q⟩
 item:=by
  intro X hP hw hK hc i Æ s f H E I hf st hg;subst hP hw hK;obtain⟨⟨rm,he⟩,pY⟩:=st;obtain⟨xs,x,hq,hx⟩:=hg;obtain⟨č,rv,p,hz⟩:=I.list hq;obtain⟨u,hu,ru⟩:=rv.get hx;have elt:e<s.heap.objs.size:=ā he;have ilt:it<s.heap.objs.size:=by obtain⟨_,q,_⟩:=pY;exact ā q
  refine RU.LO he pY p.isList (x:=u) (by simpa using hu) jv λh' ho MZ hT hsz hk=>?_;refine⟨.ref s.heap.objs.size,rfl,wpAny_letOwnedTupleGo_enum ho λM_ W8 Hf=>?_⟩;have uN:Ŝ e h' M_:=Hf;have mT:∀b∈[e,it],b<s.heap.objs.size:=λb hb=>by
   rcases þ.mp hb with rfl|hb
   ·exact elt
   ·have e':b=it:=by simpa using hb
    subst e';exact ilt
  have I2:=ui (fp:=[e,it]) (h':=M_) (t':=s.toks+1) (x1:=.int<|((i+z:Nat):Int)) I ⟨s.toks,rfl⟩ ru ⟨_,(uN.2 _<|db elt).trans hT,rfl⟩ (λb o hb q=>by have yZ:b≠e:=λz=>hb (by simp[z]);have NJ:b≠it:=λz=>hb (by simp[z]);exact(uN.2 b yZ).trans (hk b o yZ NJ q)) hf mT;refine⟨.ref s.heap.objs.size,_,I2,rfl,⟨x,s.heap.objs.size,λys hy=>by rw[I.tz hy hq];exact hx,I.fresh,rfl,rfl⟩,⟨⟨u,?_⟩,MZ.at λo q=>(uN.2 it jv.symm).trans q⟩,λb hb=>?_⟩
  ·have he2:bA M_ e it ((((i+z:Nat):Int))+1) u:=W8;show bA M_ e it (((i+1+z:Nat):Int)) u;rw[show(((i+1+z:Nat):Int))=((i+z:Nat):Int)+1 by lia];exact he2
  ·rw[î<|Ņ<|mT b hb];exact(hf b hb).1
 done:=by intro X hP hw hK hc i Æ s f H E I hf st hg;subst hP hw hK;obtain⟨⟨rm,he⟩,pY⟩:=st;obtain⟨xs,hq,hx⟩:=hg;obtain⟨č,rv,p,hz⟩:=I.list hq;have hl:=rv.length;refine RU.A8 (I.ok.hd hc) he pY p.isList (by simp;lia) λh' eb=>⟨rfl,turns (fp:=[e,it]) (t':=s.toks) I (λb o hb q=>eb b o (λz=>hb<|by simp[z]) q) hf⟩
 self:=λ_ _ _ _ _ st h=>let ⟨_,he⟩:=st.1;xg he h
section
variable{X:Cx}{elts:List È}{k:Nat}{tp:Pos}
def Pf(K:Î)(ta:TA):TI:=λb H R=>ta b H λvs H1=>∃a,vs=[.ref a]/\(∃xs,Ϫ K H1 a xs)/\R (Ite K a) H1
def IC{l:È}{ta:TA}{p pos:Pos}(hg:Gl X "enumerate")(hm:X.mg "enumerate"=none)(ha:PA X [l] ta)(hs:Ð [l] X.env=[(false,eval l X.env)]:=by exact Ō rfl):PI X (.Tuple elts k tp) (.Call (.Name "enumerate" p) [l] [] pos) (Pf X.K ta):=by
 intro Æ s c H R I h;refine Call_<|qb I hg hm boot_enumerate<|sr (ώ (ha pos Æ s c H _ I h) λus s1 zz=>?_) hs rfl;obtain⟨vs,H1,I1,r1,q1⟩:=zz;obtain⟨a,e,⟨xs,hq⟩,q⟩:=q1;subst e;obtain⟨u,rfl,ru⟩:=r1.one;cases ru;obtain⟨č,rv,pl,hz⟩:=I1.list hq;refine call_enumerate_list pl.isList λh' he pY hsz hk=>?_;have I2:Inv X Æ c H1 {s1 with heap:=h'}:=I1.kept (t':=s1.toks) hk;refine xg (s:={s1 with heap:=h'}) he ⟨s1.heap.objs.size+1,[s1.heap.objs.size+1,s1.heap.objs.size],_,_,H1,rfl,I2,vQ 0 a _ _<|Nat.succ_ne_self _,⟨⟨_,he⟩,pY⟩,λb hb=>?_,q⟩;have Hg:s1.heap.objs.size<=b:=by
  rcases þ.mp hb with rfl|hb
  ·exact wN _
  ·have e':b=s1.heap.objs.size:=by simpa using hb
   exact se e'.symm
 exact I1.AC Hg<|I1.hok.fresh Hg
end
def Ph(K:KK):RR (List PV) V:=λc _ _ F H items v=>∃a,v=.ref a/\(∃xs,Ϫ K.K H a xs)/\iG K c.L F (Jt K.K a) items
def rTs(K:KK):RR (List PV) V:=λc _ _ F H items v=>∃a,v=.ref a/\(∃xs,gk K.K H a xs)/\iG K c.L F (N9 K.K a) items
def RX(K:KK):RR (List PV) V:=λc a b F H items v=>Ph K c a b F H items v\/rTs K c a b F H items v
def kP{K:KK}{L F:Hp}{ps:List PV}{v:V}(h:ă K F (.lst ps) v):∃a,v=.ref a/\(∃xs,Ϫ K.K F a xs)/\iG K L F (Jt K.K a) ps:=by unfold ă at h;obtain⟨a,vs,rfl,e1,e2⟩:=h;refine⟨a,rfl,⟨vs,e1⟩,?_⟩;intro c' i F2 H2 b c ē sF _;have hq:Ϫ K.K H2 a vs:=(sF.trans ē.sub).seq e1;refine⟨λp hp=>?_,λhi=>⟨vs,hq,by rw[hi,e2.length];exact ø _⟩⟩;obtain⟨u,hu,ru⟩:=dR e2.pr hp;refine⟨⟨vs,u,hq,hu⟩,λx H' zz=>?_⟩;obtain⟨hH,hx⟩:=zz;subst hH;have:vs[i]?=some x:=hx vs hq;rw[hu]at this;cases this;exact⟨F2,ē,Ù.refl _,Ù.refl _,ă.same sF p u ru⟩
def FV{K:KK}{L F:Hp}{ps:List PV}{v:V}(h:ă K F (.tup ps) v):∃a,v=.ref a/\(∃xs,gk K.K F a xs)/\iG K L F (N9 K.K a) ps:=by unfold ă at h;obtain⟨a,vs,rfl,e1,e2⟩:=h;refine⟨a,rfl,⟨vs,e1⟩,?_⟩;intro c' i F2 H2 b c ē sF _;have hq:gk K.K H2 a vs:=Ù.tup (sF.trans ē.sub) e1;refine⟨λp hp=>?_,λhi=>⟨vs,hq,by rw[hi,e2.length];exact ø _⟩⟩;obtain⟨u,hu,ru⟩:=dR e2.pr hp;refine⟨⟨vs,u,hq,hu⟩,λx H' zz=>?_⟩;obtain⟨hH,hx⟩:=zz;subst hH;have:vs[i]?=some x:=hx vs hq;rw[hu]at this;cases this;exact⟨F2,ē,Ù.refl _,Ù.refl _,ă.same sF p u ru⟩
def vR{K:KK}{c:Ctx}{F:Hp}{a:À}{vs:List V}{ps:List PV}(h2:c.L a=some (.lst vs))(h3:â K F ps vs):iG K c.L F (Jt K.K a) ps:=by intro c' j F2 H2 b d ē sF sL;have hq:Ϫ K.K H2 a vs:=Ϫ.of<|sL a _ h2;refine⟨λp hp=>?_,λhi=>⟨vs,hq,by rw[hi,h3.length];exact ø _⟩⟩;obtain⟨u,hu,ru⟩:=dR h3.pr hp;refine⟨⟨vs,u,hq,hu⟩,λx H' zz=>?_⟩;obtain⟨hH,hx⟩:=zz;subst hH;have:vs[j]?=some x:=hx vs hq;rw[hu]at this;cases this;exact⟨F2,ē,Ù.refl _,Ù.refl _,ă.same sF p u ru⟩
def iG.mono{K:KK}{L F F1:Hp}{J:It}{ps:List PV}(h:iG K L F J ps)(s:Ù F F1):iG K L F1 J ps:=λc i F2 H a b rel sF sL=>h c i F2 H a b rel (s.trans sF) sL
@[simp]def Nl(m:M PV)(b:Ć):ĵ (List PV):=(m b).bind fun p a=>match p with
  |.lst ps=>.ok ps a|_=>.bad
noncomputable def ID(i:Nat):M (List PV):=λρ=>match ρ[i]?with
 |some (.bw ps)=>.ok ps ρ|some (.sh<|.lst ps)=>.ok ps ρ|some (.ow ps)=>.ok ps<|ρ.set i<|.sh<|.lst ps|_=>.bad
noncomputable def FX(i:Nat):M (List PV):=λρ=>match ρ[i]?with
 |some (.bw ps)=>.ok ps ρ|some (.sh<|.lst ps)=>.ok ps ρ|some (.sh<|.tup ps)=>.ok ps ρ|some (.ow ps)=>.ok ps<|ρ.set i<|.sh<|.lst ps|_=>.bad
section
variable{X:Cx}{cm:String->À}{E:Ċ->XK}{e:È}{m:M PV}
def LQ(h:PE X e (tV (kk X cm) E m)):PE X e (tG (kk X cm) E (Ph<|kk X cm)<|Nl m):=PE.wk h λf H Q ⟨c,F,b,rel,h⟩=>⟨c,F,b,rel,h.bind λp d v F1 H1 ã s1 s2 q h1=>by
 cases p with
 |lst ps=>obtain⟨a,e1,⟨xs,e2⟩,e3⟩:=kP (L:=c.L) (show ă (kk X cm) F1 (.lst ps) v from q);exact h1 v F1 H1 ã Č Č ⟨a,e1,⟨xs,ã.sub.seq e2⟩,e3⟩|_=>exact h1.elim⟩
def JG(i:Nat){x:Str}{px:Pos}(hk:Dp X i x=true:=by kernel_rfl):PE X (.Name x px) (tG (kk X cm) E (RX<|kk X cm)<|FX i):=PE.wk (mV hk)<|by
 rintro d H Q ⟨c,F,b,rel,h⟩;unfold FX at h;cases e:b[i]?with
 |none=>rw[e]at h;exact h.elim|some sl=>
  rw[e]at h;cases sl with
  |no=>exact h.elim|rc C ns ps=>exact h.elim|ot ps qs rs=>exact h.elim|ol qF=>exact h.elim|fr qF=>exact h.elim|pw ps=>exact h.elim|pin=>exact h.elim|bn qs rows=>exact h.elim|dw ie=>exact h.elim|ow ps=>obtain⟨a,vs,z1,z2,z3,z4⟩:=rel.share e;obtain⟨a',e1,⟨xs,e2⟩,e3⟩:=kP (L:=c.L) z3;cases e1;exact⟨.ref a,z1,h _ _ H z4 (Ù.upd z2) Č<|.inl ⟨a,rfl,⟨xs,z4.sub.seq e2⟩,e3⟩⟩|bw ps=>obtain⟨a,vs,h1,h2,h3⟩:=rel.slot i _ e;exact⟨.ref a,ļ h1,h _ F H rel Č Č<|.inl ⟨a,rfl,⟨vs,Ϫ.of (rel.lent a _ h2).1⟩,vR h2 h3⟩⟩|sh p=>
   obtain⟨v,h1,h2⟩:=rel.slot i _ e;cases p with
   |lst ps=>obtain⟨a,e1,⟨xs,e2⟩,e3⟩:=kP (L:=c.L) h2;exact⟨v,ļ h1,h v F H rel Č Č<|.inl ⟨a,e1,⟨xs,rel.sub.seq e2⟩,e3⟩⟩|tup ps=>obtain⟨a,e1,⟨xs,e2⟩,e3⟩:=FV (L:=c.L) h2;exact⟨v,ļ h1,h v F H rel Č Č<|.inr ⟨a,e1,⟨xs,Ù.tup rel.sub e2⟩,e3⟩⟩|_=>exact h.elim
def Pj(i:Nat){x:Str}{px:Pos}(hk:Dp X i x=true:=by kernel_rfl):PE X (.Name x px) (tG (kk X cm) E (Ph<|kk X cm)<|ID i):=PE.wk (mV hk)<|by
 rintro d H Q ⟨c,F,b,rel,h⟩;unfold ID at h;cases e:b[i]?with
 |none=>rw[e]at h;exact h.elim|some sl=>
  rw[e]at h;cases sl with
  |no=>exact h.elim|rc C ns ps=>exact h.elim|ot ps qs rs=>exact h.elim|ol qF=>exact h.elim|fr qF=>exact h.elim|pw ps=>exact h.elim|pin=>exact h.elim|bn qs rows=>exact h.elim|dw ie=>exact h.elim|ow ps=>obtain⟨a,vs,z1,z2,z3,z4⟩:=rel.share e;obtain⟨a',e1,⟨xs,e2⟩,e3⟩:=kP (L:=c.L) z3;cases e1;exact⟨.ref a,z1,h _ _ H z4 (Ù.upd z2) Č ⟨a,rfl,⟨xs,z4.sub.seq e2⟩,e3⟩⟩|bw ps=>obtain⟨a,vs,h1,h2,h3⟩:=rel.slot i _ e;exact⟨.ref a,ļ h1,h _ F H rel Č Č ⟨a,rfl,⟨vs,Ϫ.of (rel.lent a _ h2).1⟩,vR h2 h3⟩⟩|sh p=>
   obtain⟨v,h1,h2⟩:=rel.slot i _ e;cases p with
   |lst ps=>obtain⟨a,e1,⟨xs,e2⟩,e3⟩:=kP (L:=c.L) h2;exact⟨v,ļ h1,h v F H rel Č Č ⟨a,e1,⟨xs,rel.sub.seq e2⟩,e3⟩⟩|_=>exact h.elim
noncomputable def aa:Nat->List PV->List PV
 |_,[]=>[]|k,p::ps=>.tup [.int k,p]::aa (k+1) ps
theorem vS:∀(k:Nat) (ps:List PV),(aa k ps).length=ps.length
 |_,[]=>rfl|k,_::ps=>congrArg (·+1)<|vS (k+1) ps
theorem vT:∀(k:Nat) (ps:List PV) (i:Nat),(aa k ps)[i]?=ps[i]?.map λp=>.tup [.int ((k+i:Nat):Int),p]
 |_,[],_=>rfl|k,p::ps,0=>rfl|k,p::ps,i+1=>by show(aa (k+1) ps)[i]?=_;rw[vT (k+1) ps i,oh,show k+1+i=k+(i+1) by lia]
@[simp]def CL(m:M (List PV))(b:Ć):ĵ (List PV):=(m b).bind λps a=>.ok (aa 0 ps) a
def CM{K:KK}{c:Ctx}{F H:Hp}{a:Ċ}{b:Ć}{T:À}{p q:PV}{x y:V}(rel:ě K c F H a b)(hT:H T=none)(r1:ă K F p x)(r2:ă K F q y):ě K c (upd F T<|.tup [x,y]) (upd H T<|.tup [x,y]) a b/\ă K (upd F T<|.tup [x,y]) (.tup [p,q]) (.ref T):=by have hF:=rel.sub.free hT;refine⟨rel.alloc hT,?_⟩;unfold ă;exact⟨T,[x,y],rfl,gk.of ö,â.cons (ă.same (Ù.upd hF) p x r1)<|â.cons (ă.same (Ù.upd hF) q y r2) â.nil⟩
def uj(z:Nat){K:KK}{L F:Hp}{a:À}{ps:List PV}(h:iG K L F (Jt K.K a) ps):iG K L F (IB z K.K a) (aa z ps):=by
 intro c i F2 H b d rel sF sL;obtain⟨g,st⟩:=h c i F2 H b d rel sF sL;refine⟨λp hp=>?_,λhi=>st<|by rw[hi,vS]⟩;rw[vT,oo z i]at hp;cases eq:ps[i]?with
 |none=>rw[eq]at hp;cases hp|some q=>rw[eq]at hp;cases hp;obtain⟨⟨xs,x,hq,hx⟩,g2⟩:=g q eq;refine⟨⟨xs,x,hq,hx⟩,λy H' zz=>?_⟩;obtain⟨x',T,h1,hT,ey,eH⟩:=zz;subst ey eH;obtain⟨F3,fU,s3,_,rp⟩:=g2 x' H ⟨rfl,h1⟩;obtain⟨r1,r2⟩:=CM (p:=.int ((i+z:Nat):Int)) (x:=.int ((i+z:Nat):Int)) fU hT (by unfold ă;rfl) rp;exact⟨_,r1,s3.trans<|Ù.upd<|fU.sub.free hT,Ù.upd hT,r2⟩
def D4{K:KK}{L F:Hp}{a:À}{ps:List PV}(h:iG K L F (Jt K.K a) ps):iG K L F (Ite K.K a) (aa 0 ps):=uj 0 h
def A9{elts:List È}{k:Nat}{tp p pos:Pos}{mi:M (List PV)}(hg:Gl X "enumerate")(hm:X.mg "enumerate"=none)(hl:PE X e (tG (kk X cm) E (Ph<|kk X cm) mi))(hs:Ð [e] X.env=[(false,eval e X.env)]:=by exact Ō rfl):
 PI X (.Tuple elts k tp) (.Call (.Name "enumerate" p) [e] [] pos) (tI (kk X cm) E<|CL mi):=λÆ s b H R I h=>IC hg hm (ϳ hl bZ hs) hs Æ s b H R I (by
 obtain⟨c,F,d,rel,h⟩:=h;refine⟨c,F,d,rel,h.bind λps f v F1 H1 ã s1 s2 q h1=>?_⟩;obtain⟨a,e1,e2,e3⟩:=q;subst e1;exact⟨a,rfl,e2,h1 _ F1 H1 ã Č Č<|D4 e3⟩)
@[simp]def IE(i:Nat)(mo:M RV)(b:Ć):ĵ Fl:=match b[i]?with
  |some (.ow _)=>(mo b).bind λr a=>match a[i]?,r with
   |some (.ow ps),.ow qs=>if ps.length+qs.length<=16777216then .ok .nx (a.set i<|.ow<|ps++qs)else .bad|_,_=>.bad
  |_=>.bad
def CN{i:Nat}{mo:M RV}{D:Ends}{d:Ċ}{H:Hp}(h:tS (kk X cm) E (IE i mo) D d H):qB (K0 X.K "list" Cf (dQ i) (EX (tO (kk X cm) E mo) DF)) D d H:=by
 obtain⟨c,F,g,rel,h⟩:=h;unfold IE at h;cases e1:g[i]?with
 |none=>rw[e1]at h;exact h.elim|some sl=>
  rw[e1]at h;cases sl with
  |ow T1=>
   obtain⟨a,T2,z1,z2,z3,z4,z5,z6⟩:=rel.ow e1;refine⟨.ref a,z1,.inl ⟨rfl,_,Ϫ.of z2⟩,c,F,g,rel,?_⟩;refine ϻ.bind h λr f v F1 H1 ã s1 q h1=>?_;cases e2:f[i]?with
   |none=>simp only[e2]at h1;exact h1.elim|some Eo=>
    simp only[e2]at h1;cases Eo with
    |ow ps=>
     cases r with
     |ow qs=>
      obtain⟨b,us,eb,hb1,hb2,hb3,hb4,XX⟩:=q;subst eb;obtain⟨a2,vs,w1,w2,w3,w4,w5,w6⟩:=ã.ow e2;rw[z1]at w1;cases w1;dsimp only at h1;split at h1
      ·rename_i hz;refine⟨a,b,vs,us,rfl,rfl,w2,hb1,by rw[<-w5.length,<-XX.length,Ē];exact hz,h1 d F1 _ (ã.write w6 z1 ⟨a,vs++us,rfl,ö,w3,w4,â.append w5 XX⟩ λ_ z=>(V.ref.inj z).symm) Č⟩
      ·exact h1.elim
     |_=>exact h1.elim
    |_=>exact h1.elim
  |_=>exact h.elim
@[simp]theorem U_{i:Nat}{a:Ć}:ID i a=(match a[i]?with
  |some (.bw ps)=>.ok ps a|some (.sh<|.lst ps)=>.ok ps a|some (.ow ps)=>.ok ps<|a.set i<|.sh<|.lst ps|_=>.bad):=rfl
@[simp]theorem U0{i:Nat}{a:Ć}:FX i a=(match a[i]?with
  |some (.bw ps)=>.ok ps a|some (.sh<|.lst ps)=>.ok ps a|some (.sh<|.tup ps)=>.ok ps a|some (.ow ps)=>.ok ps<|a.set i<|.sh<|.lst ps|_=>.bad):=rfl
end
def Pk{X:Cx}:Xs X .BitOr (ipI λi j=>eG i j):=by intro Æ s a H x y v u Q I r1 r2 h;obtain⟨i,j,e1,e2,q⟩:=h;subst e1;subst e2;obtain⟨t,rfl⟩:=r1;obtain⟨t',rfl⟩:=r2;exact ior_int ⟨.int _,H,I.tok _,⟨_,rfl⟩,q⟩
@[simp]def zJ(i:Nat)(m:M PV)(b:Ć):ĵ Fl:=match b[i]?with
  |some (.sh<|.int _)=>(m b).bind λq a=>match a[i]?,q with
   |some (.sh<|.int k),.int j=>.ok .nx<|a.set i<|.sh<|.int<|eG k j|_,_=>.bad
  |_=>.bad
section
variable{X:Cx}{cm:String->À}{E:Ċ->XK}{e:È}{m:M PV}{pos:Pos}
def yq{K:KK}{F:Hp}{i:Int}{v:V}(h:ă K F (.int i) v):v=.int i:=by unfold ă at h;exact h
def Ba{i:Nat}{x:Str}{aY:Pos}(hN:X.N.Nodup)(hi:X.N[i]?=some x)(hx:Loc X.env.scope x)(he:PE X e (tV (kk X cm) E m))(hf:X.fn x=true\/X.env.scope.names.lookup x=some .local:=by first|exact .inl rfl|exact .inr rfl|assumption):
 PS X (.AugAssign (.Name x aY) .BitOr e pos) (tS (kk X cm) E<|zJ i m):=PS.wk (KA hN hi hx he Pk hf)<|by
 rintro D d H ⟨c,F,b,rel,h⟩;unfold zJ at h;cases e1:b[i]?with
 |none=>rw[e1]at h;exact h.elim|some sl=>
  rw[e1]at h;cases sl with
  |sh p=>
   cases p with
   |int k0=>
    obtain⟨v,h1,h2⟩:=rel.slot i _ e1;cases yq h2;refine⟨.int k0,ļ h1,c,F,b,rel,ϻ.bind h λq a u F1 H1 ã s1 rq uQ=>?_⟩;cases e2:a[i]?with
    |none=>simp only[e2]at uQ;exact uQ.elim|some Eo=>
     simp only[e2]at uQ;cases Eo with
     |sh p2=>
      cases p2 with
      |int k=>
       cases q with
       |int j=>obtain⟨v2,w1,w2⟩:=ã.slot i _ e2;cases yq w2;rw[h1]at w1;cases w1;cases yq rq;exact⟨k0,j,rfl,rfl,uQ _ F1 H1 (ã.put rfl ⟨_,rfl,ă.int⟩) Č⟩|_=>exact uQ.elim
      |_=>exact uQ.elim
     |_=>exact uQ.elim
   |_=>exact h.elim
  |_=>exact h.elim
def LR:G0 X (unaryOp .Invert) (mU λi=>.int<|ac i):=by
 intro Æ s a H x v Q I r h;unfold mU at h;split at h
 ·obtain⟨t,rfl⟩:=r;exact invert_int ⟨.int _,H,I.tok _,⟨_,rfl⟩,h⟩
 ·exact h.elim
noncomputable def CO:PV->Option PV
 |.int i=>some<|.int<|ac i|_=>none
@[simp]theorem RY{i:Int}:CO (.int i)=some (.int<|ac i):=rfl
def LS{K:KK}:TY K (mU λi=>.int<|ac i) CO:=by
 intro c F H a b p pv v Q rel r e k;unfold CO at e;split at e
 ·cases e;cases r.int;exact k _ F H rel Č Č ă.int
 ·cases e
end
section
variable{prog:ä}{w:Þ}{A:ê}{E:Á->Ã->Prop}{s:Ã}
def pd{it l:À}{i:Nat}{items}{x:Á}{Q:Á->Ã->Prop}(pY:s.heap.IsTupleIter it l i)
 (hl:s.heap.IsTuple l items)(hx:items[i]?=some x)
 (hQ:∀h',h'.IsTupleIter it l (i+1)->Ŝ it s.heap h'->Q x {s with heap:=h'}):
 Ï (Ö prog w) A (hV<|.ref it) Q E s:=by
 obtain⟨o,ho,hc,hd⟩:=id pY;obtain⟨ol,W9,_,nl,J9⟩:=hl;unfold hV;refine Ò (lQ (name:=Å "__next__") pY.typeIs sK
  (lR sK pY.typeIs BV ?_ (BW _)))
 show Ï _ _ (cF (.ref it) 0>>=_) _ _ s;refine Ò<|ϋ ho hd (x:=.ref l) rfl ?_;show Ï _ _ (if(ť l==Value.none)=true then _ else _) _ _ s;rw[if_neg<|show ¬((ť l==Value.none)=true)from aG];show Ï _ _ (cF (.ref it) 1>>=_) _ _ s;refine Ò<|ϋ ho hd (x:=.int i 0) rfl ?_;show Ï _ _ (seqItems? (.ref l)>>=_) _ _ s;refine Ò<|hU W9 J9 ?_;simp only[rE,hx];refine Ò (wpAny_setField ho hd (by simp)<|ĉ ⟨x,rfl,ĉ<|hQ _ ?_ (B1 ..)⟩);exact⟨_,B_ _ ho<|Obj.isFreed_of_fields<|Obj.data_mapFields hd _,(Obj.cls_mapFields ..).trans hc,by
  rw[Obj.data_mapFields hd];simp[dg]⟩
def qi{it l:À}{i:Nat}{items}{Q:Á->Ã->Prop}(hh:A.handled=none)
 (pY:s.heap.IsTupleIter it l i)(hl:s.heap.IsTuple l items)(hx:items[i]?=none)
 (hE:∀h' e,sO it s.heap h'->(∃o,h'.get? e=some o/\o.cls=.type "StopIteration")->E (.ref e) {s with heap:=h'}):
 Ï (Ö prog w) A (hV<|.ref it) Q E s:=by
 obtain⟨o,ho,hc,hd⟩:=id pY;obtain⟨ol,W9,_,nl,J9⟩:=hl;unfold hV;refine Ò (lQ (name:=Å "__next__") pY.typeIs sK
  (lR sK pY.typeIs BV ?_ (BW _)))
 show Ï _ _ (cF (.ref it) 0>>=_) _ _ s;refine Ò<|ϋ ho hd (x:=.ref l) rfl ?_;show Ï _ _ (if(ť l==Value.none)=true then _ else _) _ _ s;rw[if_neg<|show ¬((ť l==Value.none)=true)from aG];show Ï _ _ (cF (.ref it) 1>>=_) _ _ s;refine Ò<|ϋ ho hd (x:=.int i 0) rfl ?_;show Ï _ _ (seqItems? (.ref l)>>=_) _ _ s;refine Ò<|hU W9 J9 ?_;simp only[rE,hx];refine Ò (sA<|Ò<|wpAny_setField ho hd (by simp) ?_);show Ï _ _ (newExc (.type "StopIteration") []>>=_) _ _ _;refine Ò ?_;simp only[newExc,newTuple];refine Ò (xa ?_ (by size_fits));refine Ò (m:=firstArgMember _ _) (wpAny_of_eq (a:=Value.none) (by first|rfl|(simp only[firstArgMember];rfl)) ?_);refine xa ?_ (by size_fits);simp only[raiseNew];refine Ò (wpAny_handled ?_)
 first|rw[show A.in1.handled=none from hh]|rw[hh]
 refine Ò<|ĉ<|wpAny_throw ?_;exact hE _ _ (((B1 ..).extBut.push _).push _) ⟨_,į _ rfl,rfl⟩
end
def zK{prog:ä}{w:Þ}{A:ê}(hh:A.handled=none)(it l:À)(jv:l≠it)(items:Array Á):
 eD prog w A it [it,l] items.size (λi v=>items[i]?=some v) (λi h=>h.IsTupleIter it l i/\h.IsTuple l items) where
 live:=λ_ _ st=>let ⟨o,ho,_⟩:=st.1;⟨o,ho⟩
 frame:=λ_ _ _ st hk=>⟨let ⟨o,ho,r⟩:=st.1;⟨o,hk it (by simp) o ho,r⟩,let ⟨o,ho,r⟩:=st.2;⟨o,hk l (by simp) o ho,r⟩⟩
 item:=λi s Q E hi st hQ=>by refine pd st.1 st.2 (x:=items[i]) (by simp[hi]) λh' MZ Hf=>?_;exact hQ _ h' s.toks (by simp[hi]) ⟨MZ,st.2.extBut Hf.extBut jv⟩ Hf
 done:=λs Q E st hE=>qi hh st.1 st.2 (by simp) hE
structure Nn(z TI TO i1 i2:À)(f1 f2:List À):Prop where
 TIz:TI≠z
 TOz:TO≠z
 i1z:i1≠z
 i2z:i2≠z
 TITO:TI≠TO
 TIi1:TI≠i1
 TIi2:TI≠i2
 TOi1:TO≠i1
 TOi2:TO≠i2
 i12:i1≠i2
 z1:z∉f1
 z2:z∉f2
 t1:TO∉f1
 t2:TO∉f2
 a1:i1∉f2
 a2:i2∉f1
section
variable{prog:ä}{w:Þ}{A:ê}{E:Á->Ã->Prop}{s:Ã}
def uk{z TI TO i1 i2:À}{f1 f2:List À}{n1 n2 k1 k2:Nat}{P1 P2:Nat->Á->Prop}{S1 S2:Nat->Ñ->Prop}{a b:Á}{Q:Á->Ã->Prop}(D:Nn z TI TO i1 i2 f1 f2)
 (D1:eD prog w A i1 f1 n1 P1 S1)(D2:eD prog w A i2 f2 n2 P2 S2)
 (hz:ϰ s.heap z TI TO .none)(yU:œ s.heap TI (.ref i1) (.ref i2))(y_:œ s.heap TO a b)(h1:S1 k1 s.heap)(h2:S2 k2 s.heap)(QX:k1<n1)(Xa:k2<n2)
 (hQ:∀x y h' tk,P1 k1 x→P2 k2 y→ϰ h' z TI TO (dg s.heap.objs.size)→œ h' TO x y→S1 (k1+1) h'→S2 (k2+1) h'→œ h' s.heap.objs.size x y→h'.objs.size=s.heap.objs.size+1→
   (∀c o,c≠z->c≠TO->c≠i1->c≠i2->s.heap.get? c=some o->h'.get? c=some o)->Q (.ref s.heap.objs.size) {s with heap:=h',toks:=tk}):
 Ï (Ö prog w) A (lP.«zip.__next__» ⟨[.ref z],[]⟩) (λlf s'=>∃v,lf=.done (.ret v)/\Q v s') E s:=by
 have JH:∀{b},b∈f1->b≠z/\b≠TO/\b≠i2:=λhb=>⟨λe=>D.z1<|e▸hb,λe=>D.t1<|e▸hb,λe=>D.a2<|e▸hb⟩;have IF:∀{b},b∈f2->b≠z/\b≠TO/\b≠i1:=λhb=>⟨λe=>D.z2<|e▸hb,λe=>D.t2<|e▸hb,λe=>D.a1<|e▸hb⟩;obtain⟨hp,g,d,tk0,os⟩:=s;show Ï _ _ (cF (.ref z) 2>>=_) _ _ _;refine Ò<|ϋ hz rfl (x:=.bool false) rfl ?_;show Ï _ _ (cF (.ref z) 3>>=_) _ _ _;refine Ò<|ϋ hz rfl (x:=.ref TI) rfl ?_;refine Ò<|hU yU rfl ?_;show Ï _ _ (lS (.ref z)>>=_) _ _ _;refine Ò ?_;unfold lS;refine Ò<|ϋ hz rfl (x:=.none) rfl<|ĉ ?_;simp only[if_true];refine Ò<|sA ?_;refine Ò<|ϋ hz rfl (x:=.ref TO) rfl ?_;refine Ò (dm hz (by simp) λh₁ Ka AA=>?_)
 replace AA:Ŝ z hp h₁:=AA
 replace Ka:ϰ h₁ z TI TO .ellipsis:=Ka
 refine Ò ?_;simp only[List.zipIdx_cons,List.zipIdx_nil,og,wB];refine Ò<|Ò<|sD ?_;show Ï _ _ (hV (.ref i1)>>=_) _ _ _;refine Ò (D1.item k1 _ _ _ QX (D1.frame _ _ _ h1 λb hb o e=>AA.extBut b o (JH hb).1 e) λx h₂ tk SX Zac yV=>ĉ ?_)
 replace yV:Ŝ i1 h₁ h₂:=yV
 have GZ:œ h₂ TO a b:=yV.extBut _ _ D.TOi1<|AA.extBut _ _ D.TOz y_;refine Ò<|hU GZ rfl ?_;refine Ò (xh GZ λh₃ Jm AB=>?_)
 replace AB:Ŝ TO h₂ h₃:=AB
 replace Jm:œ h₃ TO x b:=Jm
 refine Ò<|sB<|ĉ ?_;refine Ò<|Ò<|sD ?_;show Ï _ _ (hV (.ref i2)>>=_) _ _ _;refine Ò (D2.item k2 _ _ _ Xa (D2.frame _ _ _ h2 λb hb o e=>AB.extBut b o (IF hb).2.1 (yV.extBut b o (IF hb).2.2 (AA.extBut b o (IF hb).1 e))) λy h₄ tk' Xb Zap EB=>ĉ ?_)
 replace EB:Ŝ i2 h₃ h₄:=EB
 have QY:œ h₄ TO x b:=EB.extBut _ _ D.TOi2 Jm;refine Ò<|hU QY rfl ?_;refine Ò (xh QY λh₅ Jn Hh=>?_)
 replace Hh:Ŝ TO h₄ h₅:=Hh
 replace Jn:œ h₅ TO x y:=Jn
 refine Ò<|sB<|ĉ<|ĉ ?_;refine Ò<|hU Jn rfl ?_;refine Ò<|wpAny_newTuple ?_;have hsz:h₅.objs.size=hp.objs.size:=by rw[Hh.1,EB.1,AB.1,yV.1,AA.1]
 have Zad:ϰ h₅ z TI TO .ellipsis:=Hh.extBut _ _ D.TOz.symm<|EB.extBut _ _ D.i2z.symm<|AB.extBut _ _ D.TOz.symm<|yV.extBut _ _ D.i1z.symm Ka;have Zaq:∀c o,c≠z->c≠TO->c≠i1->c≠i2->hp.get? c=some o->h₅.get? c=some o:=λc o c1 c2 c3 c4 e=>
  Hh.extBut _ _ c2 (EB.extBut _ _ c4<|AB.extBut _ _ c2<|yV.extBut _ _ c3<|AA.extBut _ _ c1 e)
 have Zar:S1 (k1+1) h₅:=D1.frame _ _ _ Zac λb hb o e=>Hh.extBut b o (JH hb).2.1 (EB.extBut b o (JH hb).2.2 (AB.extBut b o (JH hb).2.1 e));have Zas:S2 (k2+1) h₅:=D2.frame _ _ _ Zap λb hb o e=>Hh.extBut b o (IF hb).2.1 e;have QZ:z<h₅.objs.size:=ā Zad;show Ï _ _ (sI (.ref z) (.ref h₅.objs.size)>>=_) _ _ _;refine Ò ?_;unfold sI;have Zat:ϰ (h₅.push {cls:=.type "tuple",data:=.seq #[x,y]}) z TI TO .ellipsis:=Ă _ Zad;refine Ò (dm Zat (by simp) λh₇ Xc Xd=>?_)
 replace Xc:ϰ h₇ z TI TO (dg h₅.objs.size):=Xc
 refine dm Xc (by simp) λh₈ SY Xe=>?_
 replace SY:ϰ h₈ z TI TO (dg h₅.objs.size):=SY
 have up:∀c o,c≠z->h₅.get? c=some o->h₈.get? c=some o:=λc o c1 e=>Xe.extBut _ _ c1<|Xd.extBut _ _ c1<|Ă _ e;have Zae:œ h₈ h₅.objs.size x y:=Xe.extBut _ _ (db QZ)<|Xd.extBut _ _ (db QZ)<|į _ rfl;have hz8:h₈.objs.size=h₅.objs.size+1:=by rw[Xe.1,Xd.1,ϱ]
 rw[hsz]at SY Zae hz8;refine ĉ ⟨_,rfl,?_⟩;show Q (.ref h₅.objs.size) _;rw[hsz];exact hQ x y h₈ tk' SX Xb SY (up _ _ D.TOz Jn) (D1.frame _ _ _ Zar λb hb o e=>up b o (JH hb).1 e) (D2.frame _ _ _ Zas λb hb o e=>up b o (IF hb).1 e) Zae hz8 λc o c1 c2 c3 c4 e=>up c o c1<|Zaq c o c1 c2 c3 c4 e
def u_{z TI TO i1 i2:À}{f1 f2:List À}{n1 n2 k1 k2:Nat}{P1 P2:Nat->Á->Prop}{S1 S2:Nat->Ñ->Prop}{a b:Á}{Q:Fin->Ã->Prop}(D:Nn z TI TO i1 i2 f1 f2)
 (D1:eD prog w A i1 f1 n1 P1 S1)(D2:eD prog w A i2 f2 n2 P2 S2)
 (hz:ϰ s.heap z TI TO .none)(yU:œ s.heap TI (.ref i1) (.ref i2))(y_:œ s.heap TO a b)(h1:S1 k1 s.heap)(h2:S2 k2 s.heap)(Jo:k1=n1\/(k1<n1/\k2=n2))
 (hE:∀h' e tk,(∀c o,c≠z->c≠TO->c≠i1->c≠i2->s.heap.get? c=some o->h'.get? c=some o)->(∃o,h'.get? e=some o/\o.cls=.type "StopIteration")->E (.ref e) {s with heap:=h',toks:=tk}):
 Ï (Ö prog w) A (lP.«zip.__next__» ⟨[.ref z],[]⟩) Q E s:=by
 have JH:∀{b},b∈f1->b≠z/\b≠TO/\b≠i2:=λhb=>⟨λe=>D.z1<|e▸hb,λe=>D.t1<|e▸hb,λe=>D.a2<|e▸hb⟩;have IF:∀{b},b∈f2->b≠z/\b≠TO/\b≠i1:=λhb=>⟨λe=>D.z2<|e▸hb,λe=>D.t2<|e▸hb,λe=>D.a1<|e▸hb⟩;obtain⟨hp,g,d,tk0,os⟩:=s;show Ï _ _ (cF (.ref z) 2>>=_) _ _ _;refine Ò<|ϋ hz rfl (x:=.bool false) rfl ?_;show Ï _ _ (cF (.ref z) 3>>=_) _ _ _;refine Ò<|ϋ hz rfl (x:=.ref TI) rfl ?_;refine Ò<|hU yU rfl ?_;show Ï _ _ (lS (.ref z)>>=_) _ _ _;refine Ò ?_;unfold lS;refine Ò<|ϋ hz rfl (x:=.none) rfl<|ĉ ?_;simp only[if_true];refine Ò<|sA ?_;refine Ò<|ϋ hz rfl (x:=.ref TO) rfl ?_;refine Ò (dm hz (by simp) λh₁ Ka AA=>?_)
 replace AA:Ŝ z hp h₁:=AA
 replace Ka:ϰ h₁ z TI TO .ellipsis:=Ka
 refine Ò ?_;simp only[List.zipIdx_cons,List.zipIdx_nil,og,wB];refine Ò<|Ò<|sD ?_;show Ï _ _ (hV (.ref i1)>>=_) _ _ _;rcases Jo with rfl|⟨QX,rfl⟩
 ·refine Ò<|D1.done _ _ _ (D1.frame _ _ _ h1 λb hb o e=>AA.extBut b o (JH hb).1 e) λh₂ e yV he=>?_;obtain⟨oe,M0,Q_⟩:=he
  replace yV:sO i1 h₁ h₂:=yV
  have Zaf:ϰ h₂ z TI TO .ellipsis:=yV _ _ D.i1z.symm Ka;have Xf:e≠z:=λx=>by subst x;rw[Zaf]at M0;cases M0;simp at Q_
  exact dm Zaf (by simp) λh₃ _ AB=>hE h₃ e tk0 (λc o c1 _ c3 _ x=>AB.extBut _ _ c1<|yV _ _ c3<|AA.extBut _ _ c1 x) ⟨oe,AB.extBut _ _ Xf M0,Q_⟩
 ·refine Ò (D1.item k1 _ _ _ QX (D1.frame _ _ _ h1 λb hb o e=>AA.extBut b o (JH hb).1 e) λx h₂ tk SX Zac yV=>ĉ ?_)
  replace yV:Ŝ i1 h₁ h₂:=yV
  have GZ:œ h₂ TO a b:=yV.extBut _ _ D.TOi1<|AA.extBut _ _ D.TOz y_;refine Ò<|hU GZ rfl ?_;refine Ò (xh GZ λh₃ Jm AB=>?_)
  replace AB:Ŝ TO h₂ h₃:=AB
  refine Ò<|sB<|ĉ ?_;refine Ò<|Ò<|sD ?_;show Ï _ _ (hV (.ref i2)>>=_) _ _ _;refine Ò<|D2.done _ _ _ (D2.frame _ _ _ h2 λb hb o e=>AB.extBut b o (IF hb).2.1 (yV.extBut b o (IF hb).2.2 (AA.extBut b o (IF hb).1 e))) λh₄ e EB he=>?_;obtain⟨oe,M0,Q_⟩:=he
  replace EB:sO i2 h₃ h₄:=EB
  have Zag:ϰ h₄ z TI TO .ellipsis:=EB _ _ D.i2z.symm<|AB.extBut _ _ D.TOz.symm<|yV.extBut _ _ D.i1z.symm Ka;have Xf:e≠z:=λx=>by subst x;rw[Zag]at M0;cases M0;simp at Q_
  exact dm Zag (by simp) λh₅ _ Hh=>hE h₅ e tk (λc o c1 c2 c3 c4 x=>Hh.extBut _ _ c1<|EB _ _ c4<|AB.extBut _ _ c2<|yV.extBut _ _ c3<|AA.extBut _ _ c1 x) ⟨oe,Hh.extBut _ _ Xf M0,Q_⟩
end
section
variable{prog:ä}{w:Þ}{A:ê}{E:Á->Ã->Prop}{s:Ã}
def qj{z TI TO i1 i2:À}{f1 f2:List À}{n1 n2 k1 k2:Nat}{P1 P2:Nat->Á->Prop}{S1 S2:Nat->Ñ->Prop}{a b:Á}{Q:Option Á->Ã->Prop}(D:Nn z TI TO i1 i2 f1 f2)
 (D1:eD prog w A.in1 i1 f1 n1 P1 S1)(D2:eD prog w A.in1 i2 f2 n2 P2 S2)
 (hz:ϰ s.heap z TI TO .none)(yU:œ s.heap TI (.ref i1) (.ref i2))(y_:œ s.heap TO a b)(h1:S1 k1 s.heap)(h2:S2 k2 s.heap)(QX:k1<n1)(Xa:k2<n2)
 (hQ:∀x y h' tk,P1 k1 x→P2 k2 y→ϰ h' z TI TO (dg s.heap.objs.size)→œ h' TO x y→S1 (k1+1) h'→S2 (k2+1) h'→œ h' s.heap.objs.size x y→h'.objs.size=s.heap.objs.size+1→
   (∀c o,c≠z->c≠TO->c≠i1->c≠i2->s.heap.get? c=some o->h'.get? c=some o)->Q (some<|.ref s.heap.objs.size) {s with heap:=h',toks:=tk}):
 Ï (Ö prog w) A (df<|.ref z) Q E s:=by
 have hT:s.TypeIs (.ref z) "zip":=⟨_,hz,rfl⟩;unfold df;exact Ò<|sC (lQ (name:=Å "__next__") hT sM
  (lR sM hT F.entry_zip_next
    (uk D D1 D2 hz yU y_ h1 h2 QX Xa λx y h' tk a0 b0 a1 a2 a3 a4 a5 a6 a7=>ĉ<|hQ x y h' tk a0 b0 a1 a2 a3 a4 a5 a6 a7) (F.args_zip_next_1 _)))
def re{z TI TO i1 i2:À}{f1 f2:List À}{n1 n2 k1 k2:Nat}{P1 P2:Nat->Á->Prop}{S1 S2:Nat->Ñ->Prop}{a b:Á}{Q:Option Á->Ã->Prop}(D:Nn z TI TO i1 i2 f1 f2)
 (D1:eD prog w A.in1 i1 f1 n1 P1 S1)(D2:eD prog w A.in1 i2 f2 n2 P2 S2)
 (hz:ϰ s.heap z TI TO .none)(yU:œ s.heap TI (.ref i1) (.ref i2))(y_:œ s.heap TO a b)(h1:S1 k1 s.heap)(h2:S2 k2 s.heap)(Jo:k1=n1\/(k1<n1/\k2=n2))
 (hQ:∀h' tk,(∀c o,c≠z->c≠TO->c≠i1->c≠i2->s.heap.get? c=some o->h'.get? c=some o)->Q none {s with heap:=h',toks:=tk}):Ï (Ö prog w) A (df<|.ref z) Q E s:=by
 have hT:s.TypeIs (.ref z) "zip":=⟨_,hz,rfl⟩;unfold df;refine Ò<|sC (lQ (name:=Å "__next__") hT sM
  (lR sM hT F.entry_zip_next (u_ D D1 D2 hz yU y_ h1 h2 Jo λh' e tk hk he=>?_)<|F.args_zip_next_1 _))
 obtain⟨o,ho,hc⟩:=he;refine Ò<|wpAny_isInstance (T:="StopIteration") (b:=true) ⟨o,ho,hc⟩ isSubtype_stop ?_;exact ĉ<|hQ _ _ hk
end
def uO(K:Î)(b:Bool)(H:Hp)(a:À)(xs:List V):Prop:=if b=true then gk K H a xs else Ϫ K H a xs
def kn(b:Bool)(h:Ñ)(it l:À)(i:Nat):Prop:=if b=true then h.IsTupleIter it l i else h.IsListIter it l i
def D5(b:Bool)(h:Ñ)(l:À)(č:Array Á):Prop:=if b=true then h.IsTuple l č else h.IsList l č
noncomputable def No(b:Bool):String:=if b=true then "tuple_iterator"else "list_iterator"
def s_{prog:ä}{w:Þ}{A:ê}(b:Bool)(hh:A.handled=none)(it l:À)(jv:l≠it)(items:Array Á):
 eD prog w A it [it,l] items.size (λi v=>items[i]?=some v) (λi h=>kn b h it l i/\D5 b h l items):=by
 cases b with
 |true=>exact zK hh it l jv items|false=>exact Draws.list hh it l jv items
def kn.ex{b:Bool}{h:Ñ}{it l:À}{i:Nat}(x:kn b h it l i):∃o,h.get? it=some o/\o.cls=.type (No b)/\o.data=.fields #[.ref l,.int i 0]:=by
 cases b with
 |true=>exact x|false=>exact x
def kn.of{b:Bool}{h:Ñ}{it l:À}{i:Nat}{o:Obj}(h1:h.get? it=some o)(h2:o.cls=.type (No b))(h3:o.data=.fields #[.ref l,.int i 0]):kn b h it l i:=by
 cases b with
 |true=>exact⟨o,h1,h2,h3⟩|false=>exact⟨o,h1,h2,h3⟩
def kn.keep{b:Bool}{h h':Ñ}{it l:À}{i:Nat}(x:kn b h it l i)(k:∀o,h.get? it=some o->h'.get? it=some o):kn b h' it l i:=by obtain⟨o,h1,h2,h3⟩:=x.ex;exact .of (k o h1) h2 h3
def IG(K:Î)(b:Bool)(H:Hp)(l:À)(i:Nat)(xs:List V):Prop:=xs.length<=i/\∀j,j<i->∃ys y,uO K b H l ys/\ys[j]?=some y
def U1(K:Î)(b1 b2:Bool)(l1 l2:À):It:=
 ⟨λi H=>(∃xs x,uO K b1 H l1 xs/\xs[i]?=some x)/\∃ys y,uO K b2 H l2 ys/\ys[i]?=some y,
  λi H z H'=>∃x y T,(∀xs,uO K b1 H l1 xs->xs[i]?=some x)/\(∀ys,uO K b2 H l2 ys->ys[i]?=some y)/\H T=none/\z=.ref T/\H'=upd H T (.tup [x,y]),
  λi H=>(∃xs,uO K b1 H l1 xs)/\(∃ys,uO K b2 H l2 ys)/\((∃xs,uO K b1 H l1 xs/\IG K b1 H l1 i xs)\/((∃xs x,uO K b1 H l1 xs/\xs[i]?=some x)/\∃ys,uO K b2 H l2 ys/\IG K b2 H l2 i ys))⟩
section
variable{X:Cx}{Æ:List (À×Obj)}{σ:Ċ}{H:Hp}{s:Ã}
def vU{b:Bool}{a:À}{xs:List V}(I:Inv X Æ σ H s)(h:uO X.K b H a xs):∃č:List Á,ĳ xs č/\D5 b s.heap a č.toArray/\xs.length<=sizeLine:=by
 cases b with
 |true=>obtain⟨č,r,p,z⟩:=I.tuple h;exact⟨č,r,p,z⟩|false=>obtain⟨č,r,p,z⟩:=I.list h;exact⟨č,r,p.isList,z⟩
def vV{b:Bool}{a:À}{xs ys:List V}(I:Inv X Æ σ H s)(h:uO X.K b H a xs)(h':uO X.K b H a ys):xs=ys:=by
 cases b with
 |true=>exact I.vi h h'|false=>exact I.tz h h'
def JI{b:Bool}{l:À}{i:Nat}{xs:List V}(I:Inv X Æ σ H s)(h:uO X.K b H l xs)(q:IG X.K b H l i xs):xs.length=i:=by
 obtain⟨h1,h2⟩:=q;refine Nat.le_antisymm h1 ?_;cases i with
 |zero=>lia|succ i=>obtain⟨ys,y,e1,e2⟩:=h2 i (by lia);rw[vV I e1 h]at e2;have:=(fC.mp e2).1;lia
def CP{bb:Bool}{a b:À}{xs:List V}(I:Inv X Æ σ H s)(f:nu X Æ H b)(h:uO X.K bb H a xs):a≠b:=by
 intro e;subst e;have hk:∀o,X.K.lookup a=some o->False:=λo e=>by
  have hb:=I.ok.mod.Js a o e;rcases f.2.2.2.1 with z|z
  ·exact I.ok.zc a o hb z
  ·exact absurd (Ť (ā (I.ok.bs a o hb).1) z)<|eo _
 have hr:∀u,Rd H a u->False:=λu r=>by rcases r with r|⟨o,r⟩<;>(rw[f.1]at r;cases r)
 cases bb with
 |true=>
  have h':gk X.K H a xs:=h;rcases h' with q|⟨o,_,_,q,_⟩
  ·exact hr _ q
  ·exact hk o q
 |false=>
  have h':Ϫ X.K H a xs:=h;rcases h' with q|⟨o,_,_,q,_⟩
  ·exact hr _ q
  ·exact hk o q
end
def FY{P:ä}{w:Þ}{K:Î}{elts:List È}{k:Nat}{pos:Pos}(b1 b2:Bool)(l1 l2 z TI TO i1 i2:À)(nd:[z,TI,TO,i1,i2].Nodup):
 Br P w K (.Tuple elts k pos) (U1 K b1 b2 l1 l2) [z,TI,TO,i1,i2] z (λi h=>ϰ h z TI TO .none/\œ h TI (.ref i1) (.ref i2)/\(∃a b,œ h TO a b)/\kn b1 h i1 l1 i/\kn b2 h i2 l2 i) where
 mem:=by simp
 obj:=λi h st b hb=>by
  obtain⟨hz,yU,⟨x,y,y_⟩,h1,h2⟩:=st;simp only[þ,aK,or_false]at hb;rcases hb with rfl|rfl|rfl|rfl|rfl
  ·exact⟨_,hz,λv z=>by have z':xk _=oI v:=z;cases z'⟩
  ·exact⟨_,yU,λv z=>by have z':Data.seq _ _=oI v:=z;cases z'⟩
  ·exact⟨_,y_,λv z=>by have z':Data.seq _ _=oI v:=z;cases z'⟩
  ·obtain⟨o,e1,c,d⟩:=h1.ex;exact⟨o,e1,λv z=>by rw[d]at z;cases z⟩
  ·obtain⟨o,e1,c,d⟩:=h2.ex;exact⟨o,e1,λv z=>by rw[d]at z;cases z⟩
 keep:=λi h h' st k=>by obtain⟨hz,yU,⟨x,y,y_⟩,h1,h2⟩:=st;exact⟨k z (by simp) _ hz,k TI (by simp) _ yU,⟨x,y,k TO (by simp) _ y_⟩,h1.keep λo q=>k i1 (by simp) o q,h2.keep λo q=>k i2 (by simp) o q⟩
 item:=by
  intro X hP hw hK hc i Æ s f H E I hf st hg;subst hP hw hK;obtain⟨hz,yU,⟨a,b,y_⟩,h1,h2⟩:=st;obtain⟨⟨xs,x,Hi,hx⟩,ys,y,De,hy⟩:=hg;obtain⟨Bb,RZ,p1,_⟩:=vU I Hi;obtain⟨gH,R_,p2,_⟩:=vU I De;obtain⟨u1,Kb,U2⟩:=RZ.get hx;obtain⟨u2,Kd,U3⟩:=R_.get hy;have GW:∀b∈[z,TI,TO,i1,i2],l1≠b:=λb hb=>CP I (hf b hb) Hi;have GX:∀b∈[z,TI,TO,i1,i2],l2≠b:=λb hb=>CP I (hf b hb) De;have hh:X.A.in1.handled=none:=I.ok.hd hc;simp only[Ž,þ,aK,or_false,not_or,List.nodup_nil,not_false_eq_true,and_true]at nd;obtain⟨⟨n1,n2,n3,n4⟩,⟨n5,n6,n7⟩,⟨n8,n9⟩,M1⟩:=nd;have D:Nn z TI TO i1 i2 [i1,l1] [i2,l2]:=by
   refine⟨đ n1,đ n2,đ n3,đ n4,n5,n6,n7,n8,n9,M1,?_,?_,?_,?_,?_,?_⟩<;>simp only[þ,aK,or_false,not_or]
   ·exact⟨n3,(GW z<|by simp).symm⟩
   ·exact⟨n4,(GX z<|by simp).symm⟩
   ·exact⟨n8,(GW TO<|by simp).symm⟩
   ·exact⟨n9,(GX TO<|by simp).symm⟩
   ·exact⟨M1,(GX i1<|by simp).symm⟩
   ·exact⟨đ M1,(GW i2<|by simp).symm⟩
  have lt1:i<Bb.toArray.size:=by rw[Ĩ];exact(fC.mp Kb).1
  have Nf:i<gH.toArray.size:=by rw[Ĩ];exact(fC.mp Kd).1
  have mT:∀b∈[z,TI,TO,i1,i2],b<s.heap.objs.size:=λb hb=>by
   simp only[þ,aK,or_false]at hb;rcases hb with rfl|rfl|rfl|rfl|rfl
   ·exact ā hz
   ·exact ā yU
   ·exact ā y_
   ·obtain⟨o,e1,_⟩:=h1.ex;exact ā e1
   ·obtain⟨o,e1,_⟩:=h2.ex;exact ā e1
  refine qj D (s_ (A:=X.A.in1) b1 hh i1 l1 (GW i1<|by simp) Bb.toArray) (s_ (A:=X.A.in1) b2 hh i2 l2 (GX i2<|by simp) gH.toArray) hz yU y_ ⟨h1,p1⟩ ⟨h2,p2⟩ lt1 Nf λx' y' h' tk SX Xb hz' U4 s1 s2 hT hsz hk=>?_;have ex:x'=u1:=by have:Bb.toArray[i]?=some x':=SX;rw[show Bb.toArray[i]?=some u1 by simpa using Kb]at this;exact(Ś this).symm
  have ey:y'=u2:=by have:gH.toArray[i]?=some y':=Xb;rw[show gH.toArray[i]?=some u2 by simpa using Kd]at this;exact(Ś this).symm
  subst ex ey;refine⟨.ref s.heap.objs.size,rfl,wpAny_letOwnedTupleGo_zip hz' λM_ Xg Hf=>?_⟩;have uN:Ŝ z h' M_:=Hf;have I2:=ui (fp:=[z,TI,TO,i1,i2]) (h':=M_) (t':=tk) I U2 U3 ⟨_,(uN.2 _<|db<|mT z<|by simp).trans hT,rfl⟩ (λb o hb q=>by have jv:∀c∈[z,TI,TO,i1,i2],b≠c:=λc hc e=>hb<|e▸hc;exact(uN.2 b<|jv z<|by simp).trans (hk b o (jv z<|by simp) (jv TO<|by simp) (jv i1<|by simp) (jv i2<|by simp) q)) hf mT;refine⟨.ref s.heap.objs.size,_,I2,rfl,⟨x,y,s.heap.objs.size,λzs G_=>by rw[vV I G_ Hi];exact hx,λzs G_=>by rw[vV I G_ De];exact hy,I.fresh,rfl,rfl⟩,
   ⟨Xg,(uN.2 TI<|đ n1).trans (hk TI _ (đ n1) n5 n6 n7 yU),⟨_,_,(uN.2 TO<|đ n2).trans U4⟩,s1.1.keep λo q=>(uN.2 i1<|đ n3).trans q,s2.1.keep λo q=>(uN.2 i2<|đ n4).trans q⟩,λb hb=>?_⟩
  rw[î<|Ņ<|mT b hb];exact(hf b hb).1
 done:=by
  intro X hP hw hK hc i Æ s f H E I hf st hg;subst hP hw hK;obtain⟨hz,yU,⟨a,b,y_⟩,h1,h2⟩:=st;obtain⟨⟨xs,Hi⟩,⟨ys,De⟩,Q0⟩:=hg;have Jo:xs.length=i\/(i<xs.length/\ys.length=i):=by
   rcases Q0 with⟨xs',q1,q2⟩|⟨⟨xs',x,q1,q2⟩,ys',q3,q4⟩
   ·left;rw[vV I Hi q1];exact JI I q1 q2
   ·right
    rw[vV I Hi q1,vV I De q3];exact⟨(fC.mp q2).1,JI I q3 q4⟩
  obtain⟨Bb,RZ,p1,_⟩:=vU I Hi;obtain⟨gH,R_,p2,_⟩:=vU I De;have Jp:=RZ.length;have EA:=R_.length;have GW:∀b∈[z,TI,TO,i1,i2],l1≠b:=λb hb=>CP I (hf b hb) Hi;have GX:∀b∈[z,TI,TO,i1,i2],l2≠b:=λb hb=>CP I (hf b hb) De;have hh:X.A.in1.handled=none:=I.ok.hd hc;simp only[Ž,þ,aK,or_false,not_or,List.nodup_nil,not_false_eq_true,and_true]at nd;obtain⟨⟨n1,n2,n3,n4⟩,⟨n5,n6,n7⟩,⟨n8,n9⟩,M1⟩:=nd;have D:Nn z TI TO i1 i2 [i1,l1] [i2,l2]:=by
   refine⟨đ n1,đ n2,đ n3,đ n4,n5,n6,n7,n8,n9,M1,?_,?_,?_,?_,?_,?_⟩<;>simp only[þ,aK,or_false,not_or]
   ·exact⟨n3,(GW z<|by simp).symm⟩
   ·exact⟨n4,(GX z<|by simp).symm⟩
   ·exact⟨n8,(GW TO<|by simp).symm⟩
   ·exact⟨n9,(GX TO<|by simp).symm⟩
   ·exact⟨M1,(GX i1<|by simp).symm⟩
   ·exact⟨đ M1,(GW i2<|by simp).symm⟩
  refine re D (s_ (A:=X.A.in1) b1 hh i1 l1 (GW i1<|by simp) Bb.toArray) (s_ (A:=X.A.in1) b2 hh i2 l2 (GX i2<|by simp) gH.toArray) hz yU y_ ⟨h1,p1⟩ ⟨h2,p2⟩ ?_ λh' tk hk=>⟨rfl,turns (fp:=[z,TI,TO,i1,i2]) (t':=tk) I (λb o hb q=>?_) hf⟩
  ·rw[Ĩ,Ĩ];lia
  ·have jv:∀c∈[z,TI,TO,i1,i2],b≠c:=λc hc e=>hb<|e▸hc;exact hk b o (jv z<|by simp) (jv TO<|by simp) (jv i1<|by simp) (jv i2<|by simp) q
 self:=λ_ _ _ _ _ st h=>wpAny_pyIter_zip st.1 h
section
abbrev R0(b:Bool)(h:Ñ)(l1:À):Ñ:=h.push {cls:=.type<|No b,data:=.fields #[.ref l1,.int 0 0]}
abbrev R1(b b':Bool)(h:Ñ)(l1 l2:À):Ñ:=(R0 b h l1).push {cls:=.type<|No b',data:=.fields #[.ref l2,.int 0 0]}
abbrev R3(b b':Bool)(h:Ñ)(l1 l2:À):Ñ:=(R1 b b' h l1 l2).push {cls:=.type "tuple",data:=.seq #[.ref h.objs.size,.ref (R0 b h l1).objs.size]}
abbrev R4(b b':Bool)(h:Ñ)(l1 l2:À):Ñ:=(R3 b b' h l1 l2).push {cls:=.type "tuple",data:=.seq #[.none,.none]}
abbrev LU(b b':Bool)(h:Ñ)(l1 l2:À):Ñ:=(R4 b b' h l1 l2).push {cls:=.type "zip",data:=.fields #[.none,.bool false,.bool false,.ref (R1 b b' h l1 l2).objs.size,.ref (R3 b b' h l1 l2).objs.size]}
def zL{prog:ä}{w:Þ}{A:ê}{E:Á->Ã->Prop}{s:Ã}{b:Bool}{l:À}{č:Array Á}{Q:Á->Ã->Prop}(hl:D5 b s.heap l č)
 (hQ:Q (.ref s.heap.objs.size) {s with heap:=s.heap.push {cls:=.type<|No b,data:=.fields #[.ref l,.int 0 0]}}):Ï (Ö prog w) A (gU<|.ref l) Q E s:=by
 cases b with
 |true=>exact xf hl hQ|false=>exact lO hl hQ
theorem D5.push{b:Bool}{h:Ñ}{l:À}{č:Array Á}(x:D5 b h l č)(o:Obj):D5 b (h.push o) l č:=by
 cases b with
 |true=>exact Heap.IsTuple.push x o|false=>exact Heap.IsList.push x o
def zM(b b':Bool)(l1 l2:À)(xs ys:Array Á):
 Meets (lP.«zip.__new__» ⟨[.type "zip",.ref l1,.ref l2],[]⟩) (λ_ R s=>D5 b s.heap l1 xs/\D5 b' s.heap l2 ys/\
  R (.ok<|.ret<|.ref (R4 b b' s.heap l1 l2).objs.size) {s with heap:=LU b b' s.heap l1 l2}):=
 .of_wp fun prog w A R s h=>by
   obtain⟨hp,g,d,tk,os⟩:=s;obtain⟨Jp,EA,h⟩:=h;have Jl:=sub_zip;have hL1:D5 b (xr ⟨hp,g,d,tk,os⟩) l1 xs:=Jp;have hL2:D5 b' (xr ⟨hp.push {cls:=.type<|No b,data:=.fields #[.ref l1,.int 0 0]},g,d,tk,os⟩) l2 ys:=D5.push EA _
   wp_walk using zL hL1,zL hL2
   exact⟨_,rfl,h⟩
variable{prog:ä}{w:Þ}{A:ê}{E:Á->Ã->Prop}{s:Ã}
def Bc{b b':Bool}{l1 l2:À}{xs ys:Array Á}{Q:Á->Ã->Prop}(Jp:D5 b s.heap l1 xs)(EA:D5 b' s.heap l2 ys)
 (h:∀h',ϰ h' (s.heap.objs.size+4) (s.heap.objs.size+2) (s.heap.objs.size+3) .none→œ h' (s.heap.objs.size+2) (.ref s.heap.objs.size) (.ref<|s.heap.objs.size+1)→
   œ h' (s.heap.objs.size+3) .none .none->kn b h' s.heap.objs.size l1 0->kn b' h' (s.heap.objs.size+1) l2 0->h'.objs.size=s.heap.objs.size+5->
   (∀c o,s.heap.get? c=some o->h'.get? c=some o)->Q (.ref<|s.heap.objs.size+4) {s with heap:=h'}):
 Ï (Ö prog w) A (call (.type "zip") [.ref l1,.ref l2]) Q E s:=by
 refine callType_new F.called_zip (by decide) (F.typeCall_zip_2 _ _) (F.newCall_zip_2 _ _) (λobj=>F.args_object_init_3 obj _ _) F.entry_zip_new
  (zM b b' l1 l2 xs ys) ⟨Jp,EA,?_⟩
 have z1:(R0 b s.heap l1).objs.size=s.heap.objs.size+1:=ϱ ..;have z2:(R1 b b' s.heap l1 l2).objs.size=s.heap.objs.size+2:=by rw[ϱ,z1]
 have z3:(R3 b b' s.heap l1 l2).objs.size=s.heap.objs.size+3:=by rw[ϱ,z2]
 have z4:(R4 b b' s.heap l1 l2).objs.size=s.heap.objs.size+4:=by rw[ϱ,z3]
 have z5:(LU b b' s.heap l1 l2).objs.size=s.heap.objs.size+5:=by rw[ϱ,z4]
 have g5:(LU b b' s.heap l1 l2).get? (R4 b b' s.heap l1 l2).objs.size=some _:=į _ rfl;have g4:(LU b b' s.heap l1 l2).get? (R3 b b' s.heap l1 l2).objs.size=some _:=Ă _<|į _ rfl;have g3:(LU b b' s.heap l1 l2).get? (R1 b b' s.heap l1 l2).objs.size=some _:=Ă _<|Ă _<|į _ rfl;have g2:(LU b b' s.heap l1 l2).get? (R0 b s.heap l1).objs.size=some _:=Ă _<|Ă _<|Ă _<|į _ rfl;have g1:(LU b b' s.heap l1 l2).get? s.heap.objs.size=some _:=Ă _<|Ă _<|Ă _<|Ă _<|į _ rfl;show _/\_;rw[z2,z3,z4]at g5;rw[z1,z2]at g3;rw[z3]at g4;rw[z1]at g2;rw[z4];exact⟨⟨_,g5,rfl⟩,h _ g5 g3 g4 (.of g1 rfl rfl) (.of g2 rfl rfl) z5 λc o x=>
  Ă _ (Ă _<|Ă _<|Ă _<|Ă _ x)⟩
end
section
variable{X:Cx}{elts:List È}{k:Nat}{tp:Pos}
def U5(K:Î)(ta:TA):TI:=λa H R=>ta a H λvs H1=>∃b1 b2 l1 l2,vs=[.ref l1,.ref l2]/\(∃xs,uO K b1 H1 l1 xs)/\(∃xs,uO K b2 H1 l2 xs)/\R (U1 K b1 b2 l1 l2) H1
def LV{e1 e2:È}{ta:TA}{p pos:Pos}(hg:Gl X "zip")(hm:X.mg "zip"=none)(ha:PA X [e1,e2] ta)(hs:Ð [e1,e2] X.env=[(false,eval e1 X.env),(false,eval e2 X.env)]:=by exact Fk rfl rfl)(uN:Ð [e2] X.env=[(false,eval e2 X.env)]:=by exact Ō rfl):
 PI X (.Tuple elts k tp) (.Call (.Name "zip" p) [e1,e2] [] pos) (U5 X.K ta):=by
 intro Æ s a H R I h;refine Call_ (qb I hg hm boot_zip<|sr (ώ (ha pos Æ s a H _ I h) λus s1 zz=>?_) (by rw[hs,uN]) (by rw[uN];rfl));obtain⟨vs,H1,I1,r1,q1⟩:=zz;obtain⟨b1,b2,l1,l2,e,⟨xs,Hi⟩,⟨ys,De⟩,q⟩:=q1;subst e;obtain⟨u1,u2,rfl,U2,U3⟩:=vals2 r1;cases U2;cases U3;obtain⟨Bb,RZ,p1,_⟩:=vU I1 Hi;obtain⟨gH,R_,p2,_⟩:=vU I1 De;refine Bc p1 p2 λh' hz yU y_ h1 h2 hsz hk=>?_;have I2:Inv X Æ a H1 {s1 with heap:=h'}:=I1.kept (t':=s1.toks) hk;refine wpAny_pyIter_zip (s:={s1 with heap:=h'}) hz ⟨s1.heap.objs.size+4,[s1.heap.objs.size+4,s1.heap.objs.size+2,s1.heap.objs.size+3,s1.heap.objs.size,s1.heap.objs.size+1],_,_,H1,rfl,I2,FY b1 b2 l1 l2 _ _ _ _ _ (by simp),⟨hz,yU,⟨_,_,y_⟩,h1,h2⟩,λb hb=>?_,q⟩;have Hg:s1.heap.objs.size<=b:=by simp only[þ,aK,or_false]at hb;rcases hb with rfl|rfl|rfl|rfl|rfl<;>lia
 exact I1.AC Hg<|I1.hok.fresh Hg
end
noncomputable def pf:List PV->List PV->List PV
 |p::ps,q::qs=>.tup [p,q]::pf ps qs|_,_=>[]
theorem zN:∀(ps qs:List PV) (i:Nat) (r:PV),(pf ps qs)[i]?=some r->∃p q,ps[i]?=some p/\qs[i]?=some q/\r=.tup [p,q]
 |[],_,_,_,h=>by simp[pf]at h|_::_,[],_,_,h=>by simp[pf]at h|p::ps,q::qs,0,r,h=>by have h':some (PV.tup [p,q])=some r:=h;cases h';exact⟨p,q,rfl,rfl,rfl⟩|p::ps,q::qs,i+1,r,h=>zN ps qs i r h
theorem zO:∀(ps qs:List PV),(pf ps qs).length=min ps.length qs.length
 |[],_=>by simp[pf]|_::_,[]=>by simp[pf]|_::ps,_::qs=>by show(pf ps qs).length+1=_;rw[zO ps qs,Ĕ,Ĕ];lia
def D6(m1 m2:M (List PV)):M (List PV):=λc=>(m1 c).bind λps a=>(m2 a).bind λqs b=>.ok (pf ps qs) b
def Pm(K:Î)(b:Bool)(a:À):It:=if b=true then N9 K a else Jt K a
def ul{K:KK}{L F:Hp}{b:Bool}{a:À}{ps:List PV}(h:iG K L F (Pm K.K b a) ps){c:Ctx}{F2 H:Hp}{d:Ċ}{e:Ć}(rel:ě K c F2 H d e)(sF:Ù F F2)(sL:Ù L H)(i:Nat)(p:PV)(hp:ps[i]?=some p):
 (∃xs x,uO K.K b H a xs/\xs[i]?=some x)/\∀x,(∀xs,uO K.K b H a xs->xs[i]?=some x)->∃F3,ě K c F3 H d e/\Ù F2 F3/\ă K F3 p x:=by
 obtain⟨g,_⟩:=h c i F2 H d e rel sF sL;obtain⟨g1,g2⟩:=g p hp;cases b with
 |true=>exact⟨g1,λx hx=>let ⟨F3,r3,s3,_,rp⟩:=g2 x H ⟨rfl,hx⟩;⟨F3,r3,s3,rp⟩⟩
 |false=>exact⟨g1,λx hx=>let ⟨F3,r3,s3,_,rp⟩:=g2 x H ⟨rfl,hx⟩;⟨F3,r3,s3,rp⟩⟩
def yr{K:KK}{L F:Hp}{b:Bool}{a:À}{ps:List PV}(h:iG K L F (Pm K.K b a) ps){c:Ctx}{F2 H:Hp}{d:Ċ}{e:Ć}(rel:ě K c F2 H d e)(sF:Ù F F2)(sL:Ù L H):
 ∃xs,uO K.K b H a xs/\IG K.K b H a ps.length xs:=by
 obtain⟨_,st⟩:=h c ps.length F2 H d e rel sF sL;have El:∃xs,uO K.K b H a xs/\xs.length<=ps.length:=by
  cases b with
  |true=>exact st rfl|false=>exact st rfl
 obtain⟨xs,h1,h2⟩:=El;exact⟨xs,h1,h2,λj hj=>(ul h rel sF sL j _<|ţ hj).1⟩
def FZ{K:KK}{L F:Hp}{b1 b2:Bool}{a1 a2:À}{ps qs:List PV}(h1:iG K L F (Pm K.K b1 a1) ps)(h2:iG K L F (Pm K.K b2 a2) qs):iG K L F (U1 K.K b1 b2 a1 a2) (pf ps qs):=by
 intro c i F2 H a b rel sF sL;refine⟨λr hr=>?_,λhi=>?_⟩
 ·obtain⟨p,q,hp,hq,rfl⟩:=zN ps qs i r hr;obtain⟨g1,y1⟩:=ul h1 rel sF sL i p hp;refine⟨⟨g1,(ul h2 rel sF sL i q hq).1⟩,λz H' zz=>?_⟩;obtain⟨x,y,T,e1,e2,hT,ez,eH⟩:=zz;subst ez eH;obtain⟨F3,fU,s3,rp⟩:=y1 x e1;obtain⟨F4,qe,s4,rq⟩:=(ul h2 fU (sF.trans s3) sL i q hq).2 y e2;obtain⟨r1,r2⟩:=CM qe hT (ă.same s4 p x rp) rq;exact⟨_,r1,(s3.trans s4).trans (Ù.upd<|qe.sub.free hT),Ù.upd hT,r2⟩
 ·rw[zO]at hi;obtain⟨xs,x1,x2⟩:=yr h1 rel sF sL;obtain⟨ys,y1,y2⟩:=yr h2 rel sF sL;refine⟨⟨xs,x1⟩,⟨ys,y1⟩,?_⟩;by_cases hl:ps.length<=qs.length
  ·left
   have e:i=ps.length:=by lia
   exact⟨xs,x1,e▸x2⟩
  ·right
   have e:i=qs.length:=by lia
   exact⟨(ul h1 rel sF sL i _<|ţ<|by lia).1,ys,y1,e▸y2⟩
def Pn{K:KK}{c:Ctx}{d:Ċ}{e:Ć}{F H:Hp}{ps:List PV}{v:V}(h:RX K c d e F H ps v):∃b a,v=.ref a/\(∃xs,uO K.K b H a xs)/\iG K c.L F (Pm K.K b a) ps:=by
 rcases h with⟨a,e1,e2,e3⟩|⟨a,e1,e2,e3⟩
 ·exact⟨false,a,e1,e2,e3⟩
 ·exact⟨true,a,e1,e2,e3⟩
section
variable{X:Cx}{cm:String->À}{E:Ċ->XK}{e e2:È}
def Po{elts:List È}{k:Nat}{tp p pos:Pos}{m1 m2:M (List PV)}(hg:Gl X "zip")(hm:X.mg "zip"=none)(h1:PE X e (tG (kk X cm) E (RX<|kk X cm) m1))(h2:PE X e2 (tG (kk X cm) E (RX<|kk X cm) m2))
 (hs:Ð [e,e2] X.env=[(false,eval e X.env),(false,eval e2 X.env)]:=by exact Fk rfl rfl)(uN:Ð [e2] X.env=[(false,eval e2 X.env)]:=by exact Ō rfl):
 PI X (.Tuple elts k tp) (.Call (.Name "zip" p) [e,e2] [] pos) (tI (kk X cm) E<|D6 m1 m2):=λÆ s d H R I h=>LV hg hm (ϳ h1 (ϳ h2 bZ uN)<|by rw[hs,uN]) hs uN Æ s d H R I (by
 obtain⟨c,F,f,rel,h⟩:=h;refine⟨c,F,f,rel,ϴ.bind h λps a v F1 H1 ã s1 s2 q h1=>⟨c,F1,a,ã,ϴ.bind h1 λqs g u F2 H2 ē s3 s4 q2 h2=>?_⟩⟩;obtain⟨b1,a1,e1,_,e3⟩:=Pn q;obtain⟨b2,a2,f1,f2,f3⟩:=Pn q2;subst e1 f1;obtain⟨xs,x1,_⟩:=yr (e3.mono s3) ē Č λb u e=>(ē.lent b u e).1;exact⟨b1,b2,a1,a2,rfl,⟨xs,x1⟩,f2,h2 _ F2 H2 ē Č Č<|FZ (e3.mono s3) f3⟩)
end
def IH(K:Î)(Ji:Bool):R2:=λx y H Q=>∃d es a xs,Rp K H d x/\y=.ref a/\(Ϫ K H a xs\/gk K H a xs)/\oT K H es xs/\d.canLay0=true/\jI es=true/\d.depth<=60/\Q (.bl<|if Ji then !(es.any λe=>ĸ e d)else es.any λe=>ĸ e d) H
open Classical in
noncomputable def Ar(h:Ñ)(d:aM)(y:Á):Bool:=if ∃e as,Reads h y e as/\e.canLay0=true/\ĸ e d=true then true else false
def F_{h:Ñ}{d e:aM}{y:Á}{as:List À}(r:Reads h y e as)(hc:e.canLay0=true):Ar h d y=ĸ e d:=by
 unfold Ar;cases q:ĸ e d with
 |true=>rw[if_pos ⟨e,as,r,hc,q⟩]|false=>rw[if_neg];rintro ⟨e',as',r',J5,q'⟩;have:=SeqAt.Reads.unique e e' y as as' hc r r';subst this;rw[q]at q';cases q'
theorem ph{h:Ñ}{d:aM}:∀{us:List Á}{es:List aM}{as:List À},ReadsAll h us es as->jI es=true->us.any (Ar h d)=es.any λe=>ĸ e d
 |_,_,_,.nil,_=>rfl|_,_,_,.cons r rs,hc=>by unfold jI at hc;rw[ú]at hc;rw[bt,bt,F_ r hc.1,ph rs hc.2]
theorem pi{A:ê}{s:Ã}{d:aM}{v:Á}{bs:List À}(rv:Reads s.heap v d bs)(hd:d.canLay0=true)(hu:A.units+d.depth<Ń):∀{us:List Á}{es:List aM}{as:List À},ReadsAll s.heap us es as->jI es=true->∀u∈us,SeqAt.EqAt A s u v<|Ar s.heap d u
 |_,_,_,.nil,_=>λu hu=>by cases hu
 |_,_,_,.cons r rs,hc=>λu hm=>by
  unfold jI at hc;rw[ú]at hc;rcases þ.mp hm with rfl|hm
  ·rw[F_ r hc.1];exact SeqAt.eqAt_reads _ _ A s _ _ _ _ r rv hc.1 hd (by lia)
  ·exact pi rv hd hu rs hc.2 u hm
section
variable{X:Cx}
def LW(hu:X.A.units+64<Ń):ae X (ĭ .In) (IH X.K false):=by
 intro Æ s b H x y v u Q I rx ry h;obtain⟨d,es,a,xs,h1,rfl,hq,h3,h4,h5,h6,q⟩:=h;cases ry;obtain⟨as,ra⟩:=Rp.reads I d x v h1 rx;have Kb:X.A.in1.units+d.depth<Ń:=by have:X.A.in1.units=X.A.units+1:=rfl;lia
 rcases hq with hq|hq
 ·obtain⟨č,r,pl,hz⟩:=I.list hq;obtain⟨bs,rb⟩:=oT.reads I es xs č h3 r;refine SeqAt.in_listAt (Ar s.heap d) pl.isList (λw hw=>pi ra h4 Kb rb h5 w<|by simpa using hw) ⟨.bl _,H,I,rfl,?_⟩;rw[show č.toArray.any (Ar s.heap d)=č.any (Ar s.heap d) by simp,ph rb h5];exact q
 ·obtain⟨č,r,pl,hz⟩:=I.tuple hq;obtain⟨bs,rb⟩:=oT.reads I es xs č h3 r;refine SeqAt.in_tupleAt (Ar s.heap d) pl (λw hw=>pi ra h4 Kb rb h5 w<|by simpa using hw) ⟨.bl _,H,I,rfl,?_⟩;rw[show č.toArray.any (Ar s.heap d)=č.any (Ar s.heap d) by simp,ph rb h5];exact q
def D7(hu:X.A.units+64<Ń):ae X (ĭ .NotIn) (IH X.K true):=by
 intro Æ s b H x y v u Q I rx ry h;obtain⟨d,es,a,xs,h1,rfl,hq,h3,h4,h5,h6,q⟩:=h;cases ry;obtain⟨as,ra⟩:=Rp.reads I d x v h1 rx;have Kb:X.A.in1.units+d.depth<Ń:=by have:X.A.in1.units=X.A.units+1:=rfl;lia
 rcases hq with hq|hq
 ·obtain⟨č,r,pl,hz⟩:=I.list hq;obtain⟨bs,rb⟩:=oT.reads I es xs č h3 r;refine SeqAt.notIn_listAt (Ar s.heap d) pl.isList (λw hw=>pi ra h4 Kb rb h5 w<|by simpa using hw) ⟨.bl _,H,I,rfl,?_⟩;rw[show č.toArray.any (Ar s.heap d)=č.any (Ar s.heap d) by simp,ph rb h5];exact q
 ·obtain⟨č,r,pl,hz⟩:=I.tuple hq;obtain⟨bs,rb⟩:=oT.reads I es xs č h3 r;refine SeqAt.notIn_tupleAt (Ar s.heap d) pl (λw hw=>pi ra h4 Kb rb h5 w<|by simpa using hw) ⟨.bl _,H,I,rfl,?_⟩;rw[show č.toArray.any (Ar s.heap d)=č.any (Ar s.heap d) by simp,ph rb h5];exact q
end
noncomputable def Dg(Ji:Bool)(p q:PV):Option PV:=match q with
 |.lst ps=>if Ϗ p&&aF ps&&decide (rn p<=60)then some (.bl<|if Ji then !(ps.any λy=>cx y p)else ps.any λy=>cx y p)else none
 |.tup ps=>if Ϗ p&&aF ps&&decide (rn p<=60)then some (.bl<|if Ji then !(ps.any λy=>cx y p)else ps.any λy=>cx y p)else none
 |_=>none
theorem yu{p:PV}(h:Ϗ p=true):∀{ps:List PV},aF ps=true->(iW ps).any (λe=>ĸ e<|iO p)=ps.any λy=>cx y p
 |[],_=>rfl|y::ps,hp=>by unfold aF at hp;rw[ú]at hp;unfold iW;rw[bt,bt,yi y p hp.1 h,yu h hp.2]
def F0{K:KK}{Ji:Bool}:kB K (IH K.K Ji) (Dg Ji):=by
 intro c F H b d p q pv v u Q rel r1 r2 e k;unfold Dg at e;split at e
 ·rename_i ps;split at e
  ·rename_i hc;rw[ú,ú,decide_eq_true_eq]at hc;cases e;obtain⟨a,xs,rfl,h1,h2⟩:=r2.lst rel.sub;refine⟨iO p,iW ps,a,xs,mD rel.sub hc.1.1 r1,rfl,.inl h1,oT.same rel.sub _ _<|mB ps xs hc.1.2 h2,jS p hc.1.1,kN ps hc.1.2,by rw[jT];exact hc.2,?_⟩;rw[yu hc.1.1 hc.1.2];exact k _ F H rel Č Č ă.bl
  ·cases e
 ·rename_i ps;split at e
  ·rename_i hc;rw[ú,ú,decide_eq_true_eq]at hc;cases e;obtain⟨a,xs,rfl,h1,h2⟩:=r2.tup rel.sub;refine⟨iO p,iW ps,a,xs,mD rel.sub hc.1.1 r1,rfl,.inr h1,oT.same rel.sub _ _<|mB ps xs hc.1.2 h2,jS p hc.1.1,kN ps hc.1.2,by rw[jT];exact hc.2,?_⟩;rw[yu hc.1.1 hc.1.2];exact k _ F H rel Č Č ă.bl
  ·cases e
 ·cases e
def pj{x:Int}{n:Nat}(h1: -(2^n:Int)<x)(h2:x<2^n):bits x<=n:=by
 refine intBits_le_iff.mpr ?_;have e:((2^n:Nat):Int)=(2:Int)^n:=by simp
 have:((x.natAbs:Nat):Int)<((2^n:Nat):Int):=by rw[e];lia
 lia
def Pp{x y:Int}(h:y≠0)(h1: -18446744073709551616<y)(h2:y<18446744073709551616):kK x y=true:=zB h (ř (pj (n:=64) (by lia)<|by lia)<|by decide)
@[simp]theorem R5{x:Int}{n:Nat}(h:n≠0)(h2:n<18446744073709551616):kK x (no_index (ϊ n):Int)=true:=by have e:(no_index (ϊ n):Int)=(n:Int):=rfl;rw[e];exact Pp (by lia) (by lia) (by lia)
@[simp]theorem Pq{x:Int}{n:Nat}(h:n<18446744073709551616):Ĭ x (no_index (ϊ n):Int)=true:=by have e:(no_index (ϊ n):Int)=(n:Int):=rfl;rw[e];exact J8 (by lia) (by lia)
@[simp]theorem Pr{x:Int}{n:Nat}(h:n<18446744073709551616):Ĭ (no_index (ϊ n):Int) x=true:=by have e:(no_index (ϊ n):Int)=(n:Int):=rfl;rw[e];exact ş (by lia) (by lia)
@[simp]theorem R6{m n:Nat}(h:m<18446744073709551616)(h2:n≤1000000):zr (no_index (ϊ m):Int) (no_index (ϊ n):Int)=true:=by have e:(no_index (ϊ m):Int)=(m:Int):=rfl;have e2:(no_index (ϊ n):Int)=(n:Int):=rfl;rw[e,e2];unfold zr;simp;lia
@[simp]theorem Ps{x:Int}{n:Nat}:x.fdiv (no_index (ϊ n):Int)=x/(no_index (ϊ n):Int):=nZ x<|lr n
@[simp]theorem Pu{x:Int}{n:Nat}:x.fmod (no_index (ϊ n):Int)=x%(no_index (ϊ n):Int):=rD x<|lr n
def qY{xs ys:List PV}(h:xs.length+ys.length<=16777216):ô (.lst xs) (.lst ys)=some (.ow<|xs++ys):=by unfold ô;simp[h]
def LX{x y z w:Int}:cx (.tup [.int x,.int y]) (.tup [.int z,.int w])=(decide (x=z)&&decide (y=w)):=by
 rw[cx.eq_def];show iV [.int x,.int y] [.int z,.int w]=_;rw[iV.eq_def];show(cx (.int x) (.int z)&&iV [.int y] [.int w])=_;rw[iV.eq_def];show(cx (.int x) (.int z)&&(cx (.int y) (.int w)&&iV [] []))=_;have h1:cx (.int x) (.int z)=decide (x=z):=by rw[cx.eq_def];rfl
 have h2:cx (.int y) (.int w)=decide (y=w):=by rw[cx.eq_def];rfl
 have h3:iV [] []=true:=by rw[iV.eq_def]
 rw[h1,h2,h3,ŭ]
mutual
theorem um:∀p:PV,Ϗ p=true->cx p p=true
 |.non,_=>by unfold cx;rfl|.bl b,_=>by unfold cx;simp|.int i,_=>by unfold cx;simp|.str x,_=>by unfold cx;simp|.lst xs,h=>by unfold Ϗ at h;unfold cx;exact qk xs h|.tup xs,h=>by unfold Ϗ at h;unfold cx;exact qk xs h|.ins _ _ _,h=>by simp[Ϗ]at h|.xc _ _ _,h=>by simp[Ϗ]at h|.ty _,h=>by simp[Ϗ]at h|.cls _,h=>by simp[Ϗ]at h|.zn _ _,h=>by simp[Ϗ]at h
theorem qk:∀ps:List PV,aF ps=true->iV ps ps=true
 |[],_=>by unfold iV;rfl|p::ps,h=>by unfold aF at h;rw[ú]at h;unfold iV;rw[um p h.1,qk ps h.2];rfl
end
def D8{p:PV}(h:Ϗ p=true)(hd:rn p<=60):Ĺ p p=some (.bl true):=by unfold Ĺ o_;rw[h,um p h,decide_eq_true (by lia:min (rn p) (rn p)<=60)];rfl
def Ź{a b:Str}(ha:Ě a=true)(hb:Ě b=true):Ĺ (.str a) (.str b)=some (.bl<|decide<|a=b):=by
 have h:cx (.str a) (.str b)=decide (a=b):=by unfold cx;rfl
 unfold Ĺ o_;rw[show Ϗ (.str a)=true by unfold Ϗ;exact ha,show Ϗ (.str b)=true by unfold Ϗ;exact hb,h];rfl
def F7{a b:Str}(ha:Ě a=true)(hb:Ě b=true):cO (.str a) (.str b)=some (.bl<|!decide (a=b)):=by
 have h:cx (.str a) (.str b)=decide (a=b):=by unfold cx;rfl
 unfold cO o_;rw[show Ϗ (.str a)=true by unfold Ϗ;exact ha,show Ϗ (.str b)=true by unfold Ϗ;exact hb,h];rfl
def zP(ns:List Int):aF (ns.map PV.int)=true:=by
 induction ns with
 |nil=>simp[aF]|cons n ns ih=>simp[aF,Ϗ,ih]
def F8(ns:List Int):jR (ns.map PV.int)=0:=by
 induction ns with
 |nil=>simp[jR]|cons n ns ih=>simp[jR,rn,ih]
section
variable{g:Tg}{mb:M Fl}{mt:M Bool}{me:M PV}
theorem cR{α β:Type}(c:α->PV)(step:β->α->β)(J:β->Ć->Prop):∀(xs:List α),(∀x∈xs,∀b a,J b a->∃i d,g (c x) a=some i/\mb i=.ok .nx d/\J (step b x) d)->∀b a,J b a->∃f,ĺ g mb (xs.map c) a=.ok .nx f/\J (xs.foldl step b) f
 |[],_,b,a,h=>⟨a,rfl,h⟩|x::xs,hs,b,a,h=>by obtain⟨i,d,h1,h2,h3⟩:=hs x (by simp) b a h;obtain⟨f,e,h4⟩:=cR c step J xs (λy hy=>hs y<|õ _ hy) (step b x) d h3;refine⟨f,?_,h4⟩;rw[Ó,ĺ,h1];dsimp only;rw[h2];exact e
theorem iX{α γ:Type}(c:α->PV)(t:α->Option γ)(v:γ->RV)(J:Ć->Prop):∀(xs:List α),(∀x∈xs,∀b,J b->∃d,g (c x) b=some d/\((∃r a,t x=some r/\mb d=.ok (.rt<|v r) a)\/(∃a,t x=none/\mb d=.ok .nx a/\J a)))->∀b,J b->
 (∃r e,xs.findSome? t=some r/\ĺ g mb (xs.map c) b=.ok (.rt<|v r) e)\/(∃e,xs.findSome? t=none/\ĺ g mb (xs.map c) b=.ok .nx e/\J e)
 |[],_,b,h=>.inr ⟨b,rfl,rfl,h⟩|x::xs,hs,b,h=>by
  obtain⟨d,h1,h2⟩:=hs x (by simp) b h;rcases h2 with⟨r,a,e1,e2⟩|⟨a,e1,e2,e3⟩
  ·refine .inl ⟨r,a,by rw[lB,e1],?_⟩;rw[Ó,ĺ,h1];dsimp only;rw[e2];rfl
  ·have hf:List.findSome? t (x::xs)=List.findSome? t xs:=by rw[lB,e1]
   have hl:ĺ g mb ((x::xs).map c) b=ĺ g mb (xs.map c) a:=by rw[Ó,ĺ,h1];dsimp only;rw[e2];rfl
   rw[hf,hl];exact iX c t v J xs (λy hy=>hs y<|õ _ hy) a e3
theorem dq{α:Type}(c f:α->PV)(q:α->Bool)(I:Ć->Prop):∀(xs:List α) (d:Ć) (acc:List PV),I d->acc.length+xs.length<=16777216->
 (∀x∈xs,∀d,I d->∃i a,g (c x) d=some i/\mt i=.ok (q x) a/\(q x=false->I a)/\(q x=true->∃b,me a=.ok (f x) b/\I b))->ġ g mt me (xs.map c) d acc=some (acc++(xs.filter q).map f)
 |[],d,acc,_,_,_=>by simp[ġ]|x::xs,d,acc,h,hz,hs=>by
  obtain⟨i,a,h1,h2,h3,h4⟩:=hs x ł d h;cases e:q x with
  |true=>obtain⟨b,h5,h6⟩:=h4 e;rw[e]at h2;rw[Ó,ġ,h1];dsimp only;rw[h2];dsimp only;rw[h5];dsimp only;rw[if_pos (by simp at hz;lia),dq c f q I xs b (acc++[f x]) h6 (by simp at hz⊢;lia) λy hy=>hs y<|õ _ hy];simp[e]
  |false=>rw[e]at h2;rw[Ó,ġ,h1];dsimp only;rw[h2];dsimp only;rw[dq c f q I xs a acc (h3 e) (by simp at hz⊢;lia) λy hy=>hs y<|õ _ hy];simp[e]
end
def U6(K:Î)(n:Nat)(t:EJ):TG:=λv b H Q=>∃a xs,v=.ref a/\Ϫ K H a xs/\xs.length=n/\t xs b H Q
section
variable{X:Cx}{cm:String->À}{pos:Pos}
def LY{es:List È}{k:Nat}{t:EJ}{n:Nat}(hc:X.calm=true)(h:Ap X es t)
 (hn:(ϙ es X.env).length=n:=by rfl)(gi:(ϙ es X.env).findIdx? (·.1)=none:=by rfl):PG X (.Tuple es k pos) (U6 X.K n t):=by
 intro Æ s c H v u Q I r hw;obtain⟨a,xs,e1,hq,hl,hw⟩:=hw;subst e1;cases r;obtain⟨č,rv,ht,hz⟩:=I.list hq;rw[assign_Tuple];refine Ò<|oA ?_;unfold unpack;rw[show(ϙ es X.env).length=č.toArray.size by simp[hn,<-hl,rv.length],gi];refine Ò<|lG<|PySem.W.kun_itemsOf (I.ok.hd hc) ht.isList λh' hx=>?_;have I1:Inv X Æ c H {s with heap:=h'}:=I.kept (t':=s.toks) λb o e=>hx b o (Ņ<|ā e) e;exact h Æ _ c H xs _ Q I1 (by simpa using rv) hw
noncomputable def gS(n:Nat)(gs:Eu):Tg:=λp ρ=>match p with
 |.tup ps=>if ps.length=n then gs ps ρ else none|.lst ps=>if ps.length=n then gs ps ρ else none|_=>none
@[simp]theorem U7{n:Nat}{gs:Eu}{ps:List PV}{a:Ć}:gS n gs (.tup ps) a=if ps.length=n then gs ps a else none:=rfl
@[simp]theorem U8{n:Nat}{gs:Eu}{ps:List PV}{a:Ć}:gS n gs (.lst ps) a=if ps.length=n then gs ps a else none:=rfl
def F9{es:List È}{k:Nat}{gs:Eu}{n:Nat}(hc:X.calm=true)(h:Ap X es (OL (kk X cm) gs))(hn:(ϙ es X.env).length=n:=by rfl)(gi:(ϙ es X.env).findIdx? (·.1)=none:=by rfl):PG X (.Tuple es k pos) (tT (kk X cm)<|gS n gs):=by
 intro Æ s b H v u Q I r hw;obtain⟨c,F,d,p,rel,rp,hw⟩:=hw;cases p with
 |tup ps=>
  unfold ă at rp;obtain⟨a,xs,h1,h2,h3⟩:=rp;unfold gS at hw;dsimp only at hw;split at hw
  ·rename_i hl;exact xI hc h hn gi Æ s b H v u Q I r ⟨a,xs,h1,Ù.tup rel.sub h2,by rw[<-h3.length];exact hl,c,F,d,ps,rel,h3,hw⟩
  ·exact hw.elim
 |lst ps=>
  unfold ă at rp;obtain⟨a,xs,h1,h2,h3⟩:=rp;unfold gS at hw;dsimp only at hw;split at hw
  ·rename_i hl;exact LY hc h hn gi Æ s b H v u Q I r ⟨a,xs,h1,rel.sub.seq h2,by rw[<-h3.length];exact hl,c,F,d,ps,rel,h3,hw⟩
  ·exact hw.elim
 |_=>exact hw.elim
end
def ě.keep{K:KK}{c:Ctx}{F H H':Hp}{a:Ċ}{b:Ć}(r:ě K c F H a b)(e:Ù H H'):ě K c F H' a b:=r.call ⟨e,Ù.refl F,r.sub.trans e,λ_ _ h=>h⟩
def ě.LZ{K:KK}{c:Ctx}{F H:Hp}{d:Ċ}{b:Ć}(r:ě K c F H d b){i:Nat}{ps qs rs:List PV}(e:b[i]?=some (.ot ps qs rs)):∃F',Ù F F'/\ě K c F' H d (b.set i<|.sh<|.tup (ps++.lst qs::rs)):=by
 obtain⟨p,a,xs,vs,ys,h1,h2,h3,h4,h5,h6,h7,h8⟩:=r.slot i _ e;obtain⟨m1,m2⟩:=r.move (a:=a) ⟨_,_,e,ļ h1,p,xs,ys,rfl,h2,h3.length.symm⟩;have ra:ă K (upd F a<|.lst vs) (.lst qs) (.ref a):=by unfold ă;exact⟨a,vs,rfl,Ϫ.of ö,h7.same (Ù.upd h5) qs vs⟩
 have rp:ă K (upd F a<|.lst vs) (.tup (ps++.lst qs::rs)) (.ref p):=by unfold ă;exact⟨p,_,rfl,gk.of<|Ù.upd h5 _ _ h2,â.append (h3.same (Ù.upd h5) ps xs)<|â.cons ra<|h8.same (Ù.upd h5) rs ys⟩
 have q:=(m1.freeze h4 h6 h5 m2).Cs (i:=i) (s:=.sh<|.tup (ps++.lst qs::rs)) rfl (show aZ K c _ H _ (.sh<|.tup (ps++.lst qs::rs))from⟨.ref p,by rw[ļ h1];rfl,rp⟩);rw[List.set_set]at q;exact⟨_,Ù.upd h5,q⟩
noncomputable def zQ(i:Nat)(m:M Bool):M Bool:=λρ=>match ρ[i]?with
 |some (.ot ps qs rs)=>match m (ρ.set i<|.sh<|.tup (ps++.lst qs::rs))with
  |.ok b _=>.ok b ρ|_=>.bad
 |_=>m ρ
section
variable{X:Cx}{cm:String->À}{E:Ċ->XK}{e o:È}{es:List È}{pos:Pos}{m:M Bool}{mo:M RV}{ma:M PV}
def L_(i:Nat)(h:PT X e (tB (kk X cm) E m)):PT X e (tB (kk X cm) E<|zQ i m):=PT.wk h<|by
 rintro f H Q ⟨c,F,a,rel,h⟩;unfold zQ at h;cases e1:a[i]?with
 |none=>rw[e1]at h;exact⟨c,F,a,rel,h⟩|some s=>
  rw[e1]at h;cases s with
  |ot ps qs rs=>
   obtain⟨F',sF,Š⟩:=rel.LZ e1;refine⟨c,F',_,Š,?_⟩;dsimp only at h;cases em:m (a.set i<|.sh<|.tup (ps++.lst qs::rs))with
   |ok b d=>rw[em]at h;exact λv F2 H2 r1 s1 s2 q=>h v F H2 (rel.keep s2) Č s2 q
   |exc x d=>rw[em]at h;exact h.elim|bad=>rw[em]at h;exact h.elim
  |_=>exact⟨c,F,a,rel,h⟩
structure L0 where
 ps:List PV
 r:RV
 rs:List PV
def R7(K:KK):RR L0 (List V):=λc a b F H r vs=>∃xs v ys,vs=xs++v::ys/\â K F r.ps xs/\rO K c a b F H r.r v/\â K F r.rs ys
@[simp]def JJ(mo:M RV)(b:Ć):ĵ L0:=(mo b).bind λr a=>.ok ⟨[],r,[]⟩ a
@[simp]def Bd(ma:M PV)(mr:M L0)(c:Ć):ĵ L0:=(ma c).bind λp a=>(mr a).bind λr b=>.ok ⟨p::r.ps,r.r,r.rs⟩ b
def L1(he:PE X e (tO (kk X cm) E mo))(hs:Ð [e] X.env=(false,eval e X.env)::Ð [] X.env:=by exact Ō rfl):PA X [e] (tG (kk X cm) E (R7<|kk X cm)<|JJ mo):=
 PA.wk (ϳ he bZ hs) λd H Q ⟨c,F,a,rel,h⟩=>⟨c,F,a,rel,h.bind λr b v F1 H1 ã _ _ r1 h1=>h1 _ F1 H1 ã Č Č ⟨[],v,[],rfl,â.nil,r1,â.nil⟩⟩
def CQ{mr:M L0}(ha:PE X e (tV (kk X cm) E ma))(hr:PA X es (tG (kk X cm) E (R7<|kk X cm) mr))(hs:Ð (e::es) X.env=(false,eval e X.env)::Ð es X.env:=by exact Ō rfl):PA X (e::es) (tG (kk X cm) E (R7<|kk X cm)<|Bd ma mr):=
 PA.wk (ϳ ha hr hs) λf H Q ⟨c,F,b,rel,h⟩=>⟨c,F,b,rel,h.bind λp a v F1 H1 ã _ _ r1 h1=>⟨c,F1,a,ã,h1.bind λr d vs F2 H2 ē sF sH ⟨xs,u,ys,e1,e2,e3,e4⟩ h2=>h2 _ F2 H2 ē Č Č ⟨v::xs,u,ys,by rw[e1];rfl,â.cons (ă.same sF p v r1) e2,e3,e4⟩⟩⟩
@[simp]def JK(mr:M L0)(b:Ć):ĵ RV:=(mr b).bind fun r a=>if r.ps.length+r.rs.length<16777216then(match r.r with
  |.ow qs=>.ok (.ot r.ps qs r.rs) a|.sh p=>.ok (.sh<|.tup (r.ps++p::r.rs)) a|_=>.bad)else .bad
def L4{x1}{mr:M L0}(h:PA X es (tG (kk X cm) E (R7<|kk X cm) mr)):PE X (.Tuple es x1 pos) (tO (kk X cm) E<|JK mr):=PE.wk (EY h) λf H Q ⟨c,F,b,rel,h⟩=>
 ⟨c,F,b,rel,h.bind fun r d vs F1 H1 ã _ _ ⟨xs,v,ys,e1,e2,e3,e4⟩ h1=>by
   subst e1;split at h1
   ·rename_i hz;refine⟨by rw[ő,<-e2.length,Ē];simp only[Ĕ,<-e4.length];lia,λp hp=>?_⟩;have ē:=ã.alloc (o:=.tup (xs++v::ys)) hp;have sF:Ù F1 (upd F1 p<|.tup (xs++v::ys)):=Ù.upd<|ã.sub.free hp;obtain⟨ps,rv,rs⟩:=r;cases rv with
    |sh q=>refine h1 _ _ _ ē sF (Ù.upd hp) ?_;show ă _ _ _ _;unfold ă;exact⟨p,_,rfl,gk.of ö,â.append (e2.same sF ps xs)<|â.cons (ă.same sF q v e3)<|e4.same sF rs ys⟩|ow qs=>
     obtain⟨a,vs,rfl,q1,q2,q3,q4,q5⟩:=e3;have na:a≠p:=λz=>by rw[z,hp]at q1;cases q1
     exact h1 _ _ _ ē sF (Ù.upd hp) ⟨p,a,xs,vs,ys,rfl,ö,e2.same sF ps xs,by rw[î na];exact q1,by rw[î na];exact q2,q3,ã.jP sF q4,q5.same sF qs vs,e4.same sF rs ys⟩
    |ot _ _ _=>exact h1.elim|bn _ _ _ _=>exact h1.elim
   ·exact h1.elim⟩
@[simp]theorem U9{ps qs rs:List PV}:(RV.ot ps qs rs).val=.tup (ps++.lst qs::rs):=rfl
@[simp]theorem Va{ps qs rs:List PV}:(RV.ot ps qs rs).slot=.ot ps qs rs:=rfl
@[simp]theorem R8{i:Nat}{a:Ć}:zQ i m a=(match a[i]?with
  |some (.ot ps qs rs)=>match m (a.set i<|.sh<|.tup (ps++.lst qs::rs))with
   |.ok b _=>.ok b a|_=>.bad
  |_=>m a):=rfl
end
open M5
def Pw(K:Î):R2:=λx y H Q=>∃a b xs,x=.ref a/\y=.ref b/\Ϫ K H a xs/\Ϫ K H b []/\Q (.bl<|!xs.isEmpty) H
def L5{X:Cx}(hu:X.A.units+64<Ń):ae X (ĭ .NotEq) (Pw X.K):=by
 intro Æ s c H x y v u Q I rx ry h;obtain⟨a,b,xs,rfl,rfl,h1,h2,q⟩:=h;cases rx;cases ry;obtain⟨č,rv,⟨o,n,e,hc,hdd,hd⟩,hz⟩:=I.list h1;obtain⟨its',rv',⟨o',n',e',J5,Zah,J3⟩,hz'⟩:=I.list h2;have l:=rv.length;have l':=rv'.length;cases xs with
 |nil=>cases rv;cases rv';exact PySem.SeqAt.RcNeAt.lists (e:=λ_=>true) ⟨o,e,hc,n,hd⟩ ⟨o',e',J5,n',J3⟩ rfl (by lia) (λj j1 _=>absurd j1<|Nat.not_lt_zero _) _ _ _ _ ⟨.bl _,H,I,rfl,q⟩
 |cons x xs=>exact PySem.SeqAt.RcNeAt.lists_lengths ⟨o,e,hc,n,hd⟩ ⟨o',e',J5,n',J3⟩ (by simp at l l'⊢;lia) (by lia) _ _ _ _ ⟨.bl _,H,I,rfl,q⟩
noncomputable def uo(p q:PV):Option PV:=match p,q with
 |.lst xs,.lst []=>some<|.bl<|!xs.isEmpty|_,_=>none
theorem zR{K:KK}{F:Hp}:∀{ps:List PV}{vs:List V},â K F ps vs->vs.isEmpty=ps.isEmpty
 |[],vs,h=>by unfold â at h;rw[h];rfl|p::ps,vs,h=>by unfold â at h;obtain⟨x,t,rfl,_,_⟩:=h;rfl
def zS{K:KK}{c:Ctx}{F H:Hp}{b:Ċ}{d:Ć}{ps:List PV}{v:V}(s:Ù F H)(r:rR K c b d F H (.lst ps) v):∃a vs,v=.ref a/\Ϫ K.K H a vs/\vs.isEmpty=ps.isEmpty:=by
 rcases r with r|r
 ·unfold ă at r;obtain⟨a,vs,h1,h2,h3⟩:=r;exact⟨a,vs,h1,s.seq h2,zR h3⟩
 ·obtain⟨a,vs,h1,h3,h4⟩:=r;exact⟨a,vs,h1,Ϫ.of h3,zR h4⟩
def L6{K:KK}:kB K (Pw K.K) uo:=by
 intro c F H d f p q pv v u Q rel r1 r2 e k;unfold uo at e;split at e
 ·cases e;obtain⟨a,xs,h1,h2,h3⟩:=zS rel.sub r1;obtain⟨b,ys,k1,k2,k3⟩:=zS rel.sub r2;have:ys=[]:=by simpa using k3
  subst this;refine⟨a,b,xs,h1,k1,h2,k2,?_⟩;rw[h3];exact k _ F H rel Č Č ă.bl
 ·cases e
@[simp]theorem Vb{xs:List PV}:uo (.lst xs) (.lst [])=some (.bl<|!xs.isEmpty):=rfl
def BN:Nat->(List Á->Prop)->Prop
 |0,p=>p []|n+1,p=>∀u,BN n λus=>p (u::us)
theorem yx:∀{n:Nat}{p:List Á->Prop},BN n p->∀us,us.length=n->p us
 |0,p,h,[],_=>h|0,p,h,_::_,e=>by cases e|n+1,p,h,[],e=>by cases e|n+1,p,h,u::us,e=>yx (h u) us<|Nat.succ.inj e
structure Df(K:Î)(mg:Str->Option Á)(x:Str)(st:í)(ps:List Str)(f:À)(fd:ċ):Prop where
 F:G1 K x x st f fd
 m:mg x=some (.ref f)
 b:Binds K fd ps []
 bb:∀(s:Ã) (us:List Á),us.length=ps.length->fO s fd ⟨us,[]⟩ (ps.zip us)
structure Dm(K:Î)(C:À)(x q:Str)(st:í)(ps:List Str)(f:À)(fd:ċ):Prop where
 F:G1 K x q st f fd
 b:Binds K fd ps []
section
variable{K:Î}{h:Ñ}{mg:Str->Option Á}{x q:Str}{st:í}{ps:List Str}{f C:À}{oc kV dc pm cd ct:Á}{od an:Option À}{sl:Array (Option Á)}
def Px(X:K.In h)(G:h.Ns Ĥ mg)(hb:∀(kV dc pm:Á) (an:Option À) (cd ct:Á),BN ps.length λus=>oB (aO x x (bG st) (ύ st) (ÿ st) .none kV dc pm an cd ct) ⟨us,[]⟩=ì (ps.zip us))
 (a:eL K Ĥ x=some (some<|.ref f))(l:K.lookup f=some ⟨oc,od,.func<|aO x x (bG st) (ύ st) (ÿ st) .none kV dc pm an cd ct,sl⟩)(c:lZ K cd x=true)(k:bE K (.ref f)=true):
 Df K mg x st ps f (aO x x (bG st) (ύ st) (ÿ st) .none kV dc pm an cd ct):=
 have F:=E5 (st:=st) l c k
 ⟨F,sT X G a,F.binds λkV dc pm an cd ct us hl=>yx (hb kV dc pm an cd ct) us hl,λs us hl=>.of_eq<|yx (hb kV dc pm an cd ct) us hl⟩
def Py(hb:∀(kV dc pm:Á) (an:Option À) (cd ct:Á),BN ps.length λus=>oB (aO x q (bG st) (ύ st) (ÿ st) .none kV dc pm an cd ct) ⟨us,[]⟩=ì (ps.zip us))
 (a:ϛ K (.ref C) x=some (some<|.ref f))(l:K.lookup f=some ⟨oc,od,.func<|aO x q (bG st) (ύ st) (ÿ st) .none kV dc pm an cd ct,sl⟩)(c:lZ K cd q=true)(k:bE K (.ref f)=true):
 Dm K C x q st ps f (aO x q (bG st) (ύ st) (ÿ st) .none kV dc pm an cd ct):=
 have F:=E5 (st:=st) l c k
 ⟨F,F.binds λkV dc pm an cd ct us hl=>yx (hb kV dc pm an cd ct) us hl⟩
end
def Pz{N ps:List Str}{sc:û}(h1:sc.kind=.function:=by rfl)(h2:sc.isCoroutine=false:=by rfl)(h3:sc.isGenerator=false:=by rfl)(h4:N.Nodup:=by decide+kernel)(h5:N.take ps.length=ps:=by rfl)(h6:∀x∈ps,sc.names.lookup x=some .local\/sc.names.lookup x=some .cell:=by decide+kernel)
 (h7:∀y∈sc.names,y.2≠.free:=by decide+kernel):ό N ps sc:=⟨h1,h2,h3,h4,h5,h6,h7⟩
section
variable{X:Cx}{cm:String->À}{E:Ċ->XK}{CX:ia}{k j n:Nat}{f:À}{fd:ċ}{ps:List Str}{mf:MF}{mr:M (List Slot)}{x:Str}{st:í}{p pos:Pos}{e:È}{es:List È}
def II(F:b_ X.prog X.w X.K X.mg X.base CX k f fd ps (vE (kk X cm) n mf))(D:Df X.K X.mg x st ps f fd)(hr:ϫ j X.A)(hx:dn CX X E)
 (ha:PA X (e::es) (tA (kk X cm) E mr))(hlen:∀{ps:List Slot},(∃r,mf ps=r/\∀z,r=z->z≠.bad)->ps.length=n:=by exact oZ)(hg:Gl X x:=by kernel_rfl)(Bu:k<=j:=by decide)(qz:(x==("__debug__":Str))=false:=by kernel_rfl)(he:Ð (e::es) X.env=(false,eval e X.env)::Ð es X.env:=by exact Ō rfl)(hpl:(Ĉ pos<|Ð es X.env).any (·.1)=false:=by kernel_rfl):
 PE X (.Call (.Name x p) (e::es) [] pos) (tO (kk X cm) E<|Ý mf mr):=Lo F hlen (hr.mono Bu) hg D.m D.F.kp D.b hx ha qz he hpl
end
section
variable{Pg:ä}{w:Þ}{K:Î}{mg:Str->Option Á}{base:Ñ}{CX:ia}{cm:String->À}
def L7{x Ő:Str}{st:í}{f:À}{fd:ċ}{N ps:List Str}{k n j:Nat}{mb:M Fl}{mf:MF}(F:G1 K x Ő st f fd)(S:ό N ps (ÿ st))
 (li:∀(cdv:Á) (A:ê) (outer:List Env) (s:Ã) (H:Hp) (E:XK),ϫ k (A.deeper<|Ϙ Ő (ÿ st) s.heap.objs.size f cdv)→(A.deeper<|Ϙ Ő (ÿ st) s.heap.objs.size f cdv).units+64<Ń→
   ca (tM CX Pg w K mg base N Ő (ÿ st) f cdv A outer s H E) (ύ st) (tS ⟨K,cm⟩ (λ_=>E) mb))(hn:ps.length=n:=by rfl)(hj:N.length=j:=by rfl)(hf:mf=ď n j mb:=by rfl):b_ Pg w K mg base CX (k+1) f fd ps (vE ⟨K,cm⟩ n mf):=
 fnQ F S hn hj hf λcdv A outer s H E hr=>li cdv A outer s H E hr hr.units
end
noncomputable def tgN:È->List Str
 |.Name x _=>[x]|.Tuple es _ _=>es.flatMap fun e=>match e with
   |.Name x _=>[x]|_=>[]
 |_=>[]
def cN(X:Cx)(js:List Nat)(tg:È):List Str:=js.map (λ(j:Nat)=>(X.N[j]?).getD "")++tgN tg
def ndB{l:List Str}(h:decide l.Nodup=true):l.Nodup:=of_decide_eq_true h
def frB{a b:û}(h:(a.names.all λy=>decide<|y.2=.free->(b.names.lookup y.1=some .cell\/b.names.lookup y.1=some .free))=true):∀y∈a.names,y.2=.free->(b.names.lookup y.1=some .cell\/b.names.lookup y.1=some .free):=λy hy=>of_decide_eq_true<|cy.mp h y hy
section
variable{X:Cx}{cm:String->À}{E:Ċ->XK}{a b e:È}{es:List È}{ma mb m:M PV}{mo:M RV}{pos p:Pos}
def Ë{i j pos}:PE X (.Constant (.int i) j pos) (tR (kk X cm) E<|mC<|.int i):=ë ğ
def qM{j pos}:PE X (.Constant .none j pos) (tR (kk X cm) E<|mC .non):=ë oW
def ϑ{x j pos}:PE X (.Constant (.str x) j pos) (tR (kk X cm) E<|mC<|.str x):=ë ϐ
def Ľ(ha:PE X a (tR (kk X cm) E ma))(hb:PE X b (tR (kk X cm) E mb))(hs:sW b:=by exact λ_ _=>rfl):PE X (.Subscript a b pos) (tV (kk X cm) E<|Ê æ ma mb):=OF OQ Ox ha hb hs
def ć(ha:PE X a (tR (kk X cm) E ma))(hb:PE X b (tR (kk X cm) E mb))(hs:sW b:=by exact λ_ _=>rfl):PE X (.Subscript a b pos) (tR (kk X cm) E<|Ê æ ma mb):=ë<|Ľ ha hb hs
def v_mod(ha:PE X a (tR (kk X cm) E ma))(hb:PE X b (tR (kk X cm) E mb)):PE X (.BinOp a .Mod b pos) (tV (kk X cm) E<|Ê ĥ ma mb):=dN Lv K9 ha hb
def Ŧ(ha:PE X a (tR (kk X cm) E ma))(hb:PE X b (tR (kk X cm) E mb)):PE X (.BinOp a .Mod b pos) (tR (kk X cm) E<|Ê ĥ ma mb):=ë<|v_mod ha hb
def v_mul(ha:PE X a (tR (kk X cm) E ma))(hb:PE X b (tR (kk X cm) E mb)):PE X (.BinOp a .Mult b pos) (tV (kk X cm) E<|Ê ą ma mb):=dN Ly HV ha hb
def Ϡ(ha:PE X a (tR (kk X cm) E ma))(hb:PE X b (tR (kk X cm) E mb)):PE X (.BinOp a .Mult b pos) (tR (kk X cm) E<|Ê ą ma mb):=ë<|v_mul ha hb
def v_sub(ha:PE X a (tR (kk X cm) E ma))(hb:PE X b (tR (kk X cm) E mb)):PE X (.BinOp a .Sub b pos) (tV (kk X cm) E<|Ê Ş ma mb):=dN Ls K7 ha hb
def pq(ha:PE X a (tR (kk X cm) E ma))(hb:PE X b (tR (kk X cm) E mb)):PE X (.BinOp a .Sub b pos) (tR (kk X cm) E<|Ê Ş ma mb):=ë<|v_sub ha hb
def uq(ha:PE X a (tR (kk X cm) E ma))(hb:PE X b (tR (kk X cm) E mb)):PE X (.BinOp a .FloorDiv b pos) (tV (kk X cm) E<|Ê bU ma mb):=dN Lu HI ha hb
def qN(ha:PE X a (tR (kk X cm) E ma))(hb:PE X b (tR (kk X cm) E mb)):PE X (.BinOp a .FloorDiv b pos) (tR (kk X cm) E<|Ê bU ma mb):=ë<|uq ha hb
def fv(ha:PE X a (tR (kk X cm) E ma))(hb:PE X b (tR (kk X cm) E mb)):PE X (.BinOp a .Add b pos) (tO (kk X cm) E<|ü ô ma mb):=OE Lr Lq ha hb
def v_add(ha:PE X a (tR (kk X cm) E ma))(hb:PE X b (tR (kk X cm) E mb)):PE X (.BinOp a .Add b pos) (tV (kk X cm) E<|Ú<|ü ô ma mb):=ñ<|fv ha hb
def ci(ha:PE X a (tR (kk X cm) E ma))(hb:PE X b (tR (kk X cm) E mb)):PE X (.BinOp a .Add b pos) (tR (kk X cm) E<|Ú<|ü ô ma mb):=ë<|v_add ha hb
def fc(hu:X.A.units+64<Ń)(ha:PE X a (tR (kk X cm) E ma))(hb:PE X b (tR (kk X cm) E mb)):PT X (.Compare a [.Eq] [b] pos) (tB (kk X cm) E<|ay<|Ê Ĺ ma mb):=aR JF (Fd hu) ha hb<|ň _
def ql(hu:X.A.units+64<Ń)(ha:PE X a (tR (kk X cm) E ma))(hb:PE X b (tR (kk X cm) E mb)):PT X (.Compare a [.NotEq] [b] pos) (tB (kk X cm) E<|ay<|Ê cO ma mb):=aR FG (AS hu) ha hb<|ň _
def v_eq(hu:X.A.units+64<Ń)(ha:PE X a (tR (kk X cm) E ma))(hb:PE X b (tR (kk X cm) E mb)):PE X (.Compare a [.Eq] [b] pos) (tV (kk X cm) E<|Ê Ĺ ma mb):=kH JF (Fd hu) ha hb<|ň _
def ģ(he:PE X e (tO (kk X cm) E mo)):ca X [.Return (some e) pos] (tS (kk X cm) E<|Ā mo):=ò<|OK he
def ķ(he:PE X e (tV (kk X cm) E m)):ca X [.Return (some e) pos] (tS (kk X cm) E<|Ā<|Ļ m):=ģ<|Ŕ he
def qm{N ps:List Str}{sc:û}{i:Nat}{x:Str}{aY:Pos}(S:ό N ps sc)(he:PE X e (tO (kk X cm) E mo))(hN:X.N=N:=by rfl)(hi:X.N[i]?=some x:=by kernel_rfl)(hx:Loc X.env.scope x:=by exact xD<|by kernel_rfl)(hs:ņ e (some<|.Name x aY) pos.line X.env=ì false:=by kernel_rfl)(hf:X.fn x=true\/X.env.scope.names.lookup x=some .local:=by first|exact .inl rfl|exact .inr rfl|assumption):
 PS X (.Assign [.Name x aY] e pos) (tS (kk X cm) E<|ý i mo):=OJ (hN▸S.nd) hi hx he hs hf
def ĕ{N ps:List Str}{sc:û}{i:Nat}{x:Str}{aY:Pos}{rest:List í}{m2:M Fl}(S:ό N ps sc)(he:PE X e (tO (kk X cm) E mo))(h2:ca X rest (tS (kk X cm) E m2))(hN:X.N=N:=by rfl)(hi:X.N[i]?=some x:=by kernel_rfl)(hx:Loc X.env.scope x:=by exact xD<|by kernel_rfl)(hs:ņ e (some<|.Name x aY) pos.line X.env=ì false:=by kernel_rfl)(hf:X.fn x=true\/X.env.scope.names.lookup x=some .local:=by first|exact .inl rfl|exact .inr rfl|assumption):
 ca X (.Assign [.Name x aY] e pos::rest) (tS (kk X cm) E<|è (ý i mo) m2):=Û (qm S he hN hi hx hs hf) h2
def Ŷ{N ps:List Str}{sc:û}{i:Nat}{x:Str}(S:ό N ps sc)(hN:X.N=N:=by rfl)(hi:X.N[i]?=some x:=by kernel_rfl)(hx:Loc X.env.scope x:=by exact xD<|by kernel_rfl)(hf:X.fn x=true\/X.env.scope.names.lookup x=some .local:=by first|exact .inl rfl|exact .inr rfl|assumption):PG X (.Name x pos) (tT (kk X cm)<|gN i):=Fs (hN▸S.nd) hi hx hf
def aq{i:Nat}{x:Str}(hN:X.N.Nodup:=by exact ndB<|by kernel_rfl)(hi:X.N[i]?=some x:=by kernel_rfl)(hx:Loc X.env.scope x:=by exact xD<|by kernel_rfl)(hf:X.fn x=true\/X.env.scope.names.lookup x=some .local:=by first|exact .inl rfl|exact .inr rfl):PG X (.Name x pos) (tT (kk X cm)<|gN i):=Fs hN hi hx hf
def Õ(i:Nat){x:Str}{px:Pos}{ms:M (List Slot)}(hr:PA X es (tA (kk X cm) E ms))(hk:Dp X i x=true:=by kernel_rfl)(hs:Ð (.Name x px::es) X.env=(false,eval (.Name x px) X.env)::Ð es X.env:=by exact Ō rfl):PA X (.Name x px::es) (tA (kk X cm) E<|Ì i ms):=HY i hk hr hs
def Ű{id:String}{x:Str}{r:List V->Hp->VK->Prop}{f:List PV->Option PV}{mr:M (List PV)}(hc:Ŗ X (.builtin id) r)(hf:eU (kk X cm) r f)(hm:X.mg x=none)(hv:gQ x=some (.builtin id))(ha:PA X (e::es) (G2 (kk X cm) E mr))(hg:Gl X x:=by kernel_rfl)(hn:x≠"__name__":=by decide)(qz:(x==("__debug__":Str))=false:=by kernel_rfl)
 (he:Ð (e::es) X.env=(false,eval e X.env)::Ð es X.env:=by rfl)(hpl:(Ĉ pos<|Ð es X.env).any (·.1)=false:=by kernel_rfl):PE X (.Call (.Name x p) (e::es) [] pos) (tV (kk X cm) E<|aW f mr):=PE.wk (tN hc hg hm hv ha hn qz he hpl) λ_ _ _ h=>OI hf h
def vb{T:String}{x:Str}{r:List V->Hp->VK->Prop}{f:List PV->Option PV}{mr:M (List PV)}(hc:Ŗ X (.type T) r)(hf:eU (kk X cm) r f)(hm:X.mg x=none)(hv:gQ x=some (.type T))(ha:PA X (e::es) (G2 (kk X cm) E mr))(hg:Gl X x:=by kernel_rfl)(hn:x≠"__name__":=by decide)(qz:(x==("__debug__":Str))=false:=by kernel_rfl)
 (he:Ð (e::es) X.env=(false,eval e X.env)::Ð es X.env:=by rfl)(hpl:(Ĉ pos<|Ð es X.env).any (·.1)=false:=by kernel_rfl):PE X (.Call (.Name x p) (e::es) [] pos) (tV (kk X cm) E<|aW f mr):=PE.wk (vq hc hg hm hv ha hn qz he hpl) λ_ _ _ h=>OI hf h
def vc{T:String}{x:Str}{r:List V->Hp->VK->Prop}{f:List PV->Option RV}{mr:M (List PV)}(hc:Ŗ X (.type T) r)(hf:Fq (kk X cm) r f)(hm:X.mg x=none)(hv:gQ x=some (.type T))(ha:PA X (e::es) (G2 (kk X cm) E mr))(hg:Gl X x:=by kernel_rfl)(hn:x≠"__name__":=by decide)(qz:(x==("__debug__":Str))=false:=by kernel_rfl)
 (he:Ð (e::es) X.env=(false,eval e X.env)::Ð es X.env:=by rfl)(hpl:(Ĉ pos<|Ð es X.env).any (·.1)=false:=by kernel_rfl):PE X (.Call (.Name x p) (e::es) [] pos) (tO (kk X cm) E<|xZ f mr):=PE.wk (vq hc hg hm hv ha hn qz he hpl) λ_ _ _ h=>TZ hf h
end
section
variable{X:Cx}{cm:String->À}{E:Ċ->XK}{elt tg iter:È}{ifs:List È}{scope:û}{pos:Pos}{mi:M (List PV)}{g:Tg}{mt:M Bool}{me:M PV}{js:List Nat}{nl:Nat}
structure CF(X:Cx)(js:List Nat)(nl:Nat)(tg iter:È)(scope:û):Prop where
 hcap:kF X.ϲ X.env.scope scope (cN X js tg) js
 hcalm:X.calm=true
 hlen:js.length+nl=(cN X js tg).length
 hk:scope.kind=.function
 hcell:∀y∈scope.names,y.2=.cell->scope.names.lookup y.1=some .cell
 hnames:∀y∈scope.names,y.2=.local->scope.names.lookup y.1=some .local
 hfree:∀y∈scope.names,y.2=.free->(X.env.scope.names.lookup y.1=some .cell\/X.env.scope.names.lookup y.1=some .free)
 hs:∀x,cC iter X.env x=ì x
def cf(hcap:kF X.ϲ X.env.scope scope (cN X js tg) js:=by repeat' first|exact True.intro|refine⟨rfl,⟨rfl,by first|exact ϭ rfl|exact gP rfl⟩,?_⟩)(hcalm:X.calm=true:=by rfl)(hlen:js.length+nl=(cN X js tg).length:=by rfl)
 (hk:scope.kind=.function:=by rfl)(hcell:∀y∈scope.names,y.2=.cell->scope.names.lookup y.1=some .cell:=by decide+kernel)(hnames:∀y∈scope.names,y.2=.local->scope.names.lookup y.1=some .local:=by decide+kernel)
 (hfree:∀y∈scope.names,y.2=.free->(X.env.scope.names.lookup y.1=some .cell\/X.env.scope.names.lookup y.1=some .free):=by exact frB<|by kernel_rfl)(hs:∀x,cC iter X.env x=ì x:=by intro _;rfl):CF X js nl tg iter scope:=⟨hcap,hcalm,hlen,hk,hcell,hnames,hfree,hs⟩
def Vc(hi:PI X.ϲ tg iter (tG (kk X cm) E (Fw<|kk X cm) mi))(hg:∀{cl C s H fp},PG (iN X.ϲ (cN X js tg) scope cl C s H fp) tg<|tT (kk X cm) g)(ht:∀{cl C s H fp},Cm (iN X.ϲ (cN X js tg) scope cl C s H fp) ifs<|tB (kk X cm) EF mt)(he:∀{cl C s H fp},PE (iN X.ϲ (cN X js tg) scope cl C s H fp) elt<|tV (kk X cm) EF me)(h:CF X js nl tg iter scope:=by exact cf):
 PE X (.ListComp elt [⟨tg,iter,ifs,0⟩] scope pos) (tO (kk X cm) E<|Ī js nl mi g mt me):=Ih (cN X js tg) js nl X.env.scope rfl h.hcalm hi (λ_ _ _ _ _=>hg) (λ_ _ _ _ _=>ht) (λ_ _ _ _ _=>he) h.hcap h.hlen h.hk h.hcell h.hnames h.hfree h.hs
def fW(hi:PI X.ϲ tg iter (tI (kk X cm) E mi))(hg:∀{cl C s H fp},PG (iN X.ϲ (cN X js tg) scope cl C s H fp) tg<|tT (kk X cm) g)(ht:∀{cl C s H fp},Cm (iN X.ϲ (cN X js tg) scope cl C s H fp) ifs<|tB (kk X cm) EF mt)(he:∀{cl C s H fp},PE (iN X.ϲ (cN X js tg) scope cl C s H fp) elt<|tV (kk X cm) EF me)(h:CF X js nl tg iter scope:=by exact cf):
 PE X (.ListComp elt [⟨tg,iter,ifs,0⟩] scope pos) (tO (kk X cm) E<|Ī js nl mi g mt me):=Vc (JB hi) hg ht he h
def vd{N ps:List Str}{sc:û}{i:Nat}{y:Str}{py Ao:Pos}(S:ό N ps sc)(hi:PI X.ϲ tg iter (tI (kk X cm) E mi))(hg:∀{cl C s H fp},PG (iN X.ϲ (cN X js tg) scope cl C s H fp) tg<|tT (kk X cm) g)(ht:∀{cl C s H fp},Cm (iN X.ϲ (cN X js tg) scope cl C s H fp) ifs<|tB (kk X cm) EF mt)(he:∀{cl C s H fp},PE (iN X.ϲ (cN X js tg) scope cl C s H fp) elt<|tV (kk X cm) EF me)
 (h:CF X js nl tg iter scope:=by exact cf)(hN:X.N=N:=by rfl)(W3:X.N[i]?=some y:=by kernel_rfl)(hy:X.env.scope.names.lookup y=some .local:=by rfl)(QU:ņ (.ListComp elt [⟨tg,iter,ifs,0⟩] scope pos) (some<|.Name y py) Ao.line X.env=ì true:=by rfl):
 PS X (.Assign [.Name y py] (.ListComp elt [⟨tg,iter,ifs,0⟩] scope pos) Ao) (tS (kk X cm) E<|ý i<|Ī js nl mi g mt me):=LM (hN▸S.nd) W3 hy (cN X js tg) js nl X.env.scope rfl h.hcalm hi (λ_ _ _ _ _=>hg) (λ_ _ _ _ _=>ht) (λ_ _ _ _ _=>he) h.hcap h.hlen h.hk h.hcell h.hnames h.hfree h.hs QU
end
end P
namespace M5
open PySem PySem.Spec PyProof.Rows L2 M2 M3
end M5
namespace P
open PySem PySem.Spec PyProof.Rows L2 M2 M3 M5
end P
namespace PySem
namespace F
end F
end PySem
namespace P
open PySem PySem.Spec PyProof.Rows L2 M2 M3 M4
section
variable{α:Type}{RI:Nh α}{X:Cx}{cm:String->À}{E:Ċ->XK}{elt tg iter:È}{ifs:List È}{scope:û}{pos:Pos}{mi:M (List α)}{g:α->Ć->Option Ć}{mt:M Bool}{me:M PV}
def D9{js:List Nat}{nl:Nat}{a:Ċ}{H:Hp}{Q:VK}(h:tO (kk X cm) E (Ī js nl mi g mt me) a H Q):vy js nl (tG (kk X cm) E (Ic (kk X cm) RI) mi) (Rj (kk X cm) RI g) (tB (kk X cm) EF mt) (tV (kk X cm) EF me) a H Q:=vF (λh=>h) h
def CS(N':List Str)(js:List Nat)(nl:Nat)(sc:û)(Bt:X.env.scope=sc)(hcalm:X.calm=true)
 (hi:PI X.ϲ tg iter (tG (kk X cm) E (Ic (kk X cm) RI) mi))(hg:∀cl C s H fp,PG (iN X.ϲ N' scope cl C s H fp) tg<|Rj (kk X cm) RI g)(ht:∀cl C s H fp,Cm (iN X.ϲ N' scope cl C s H fp) ifs<|tB (kk X cm) EF mt)(he:∀cl C s H fp,PE (iN X.ϲ N' scope cl C s H fp) elt<|tV (kk X cm) EF me)
 (hcap:kF X.ϲ sc scope N' js)(hlen:js.length+nl=N'.length:=by rfl)
 (hk:scope.kind=.function:=by rfl)(hcell:∀y∈scope.names,y.2=.cell->scope.names.lookup y.1=some .cell:=by decide+kernel)(hnames:∀y∈scope.names,y.2=.local->scope.names.lookup y.1=some .local:=by decide+kernel)
 (hfree:∀y∈scope.names,y.2=.free->(sc.names.lookup y.1=some .cell\/sc.names.lookup y.1=some .free):=by decide+kernel)
 (hs:∀x,cC iter X.env x=ì x:=by intro _;rfl):
 PE X (.ListComp elt [⟨tg,iter,ifs,0⟩] scope pos) (tO (kk X cm) E<|Ī js nl mi g mt me):=
 PE.wk (PE.ϲ<|Cn N' js nl sc Bt hcalm hi hg ht he hcap hlen hk hcell hnames hfree hs) λ_ _ _ h=>D9 h
end
def PD(K:KK):Nh (List PV×List PV):=λc F d v=>∃t xs b vs,v=.ref t/\F t=some (.tup<|xs++[.ref b])/\â K F d.1 xs/\c.L b=some (.lst vs)/\â K F d.2 vs
noncomputable def qo(i:Nat):M (List<|List PV×List PV):=λρ=>match ρ[i]?with
 |some (.dw ie)=>.ok ie ρ|_=>.bad
section
variable{X:Cx}{cm:String->À}{E:Ċ->XK}{tg:È}
def PF(i:Nat){x:Str}{px:Pos}(hk:Dp X i x=true:=by kernel_rfl):PI X tg (.Name x px) (tG (kk X cm) E (Ic (kk X cm)<|PD<|kk X cm)<|qo i):=λÆ s f H R I h=>by
 obtain⟨c,F,g,rel,h⟩:=h;unfold qo at h;cases e:g[i]?with
 |none=>rw[e]at h;exact h.elim|some sl=>
  rw[e]at h;cases sl with
  |dw ie=>
   obtain⟨a,ts,h1,h2,h3⟩:=rel.slot i _ e;refine AV (mV hk) Æ s f H R I ⟨.ref a,ļ h1,.inl ⟨a,rfl,⟨_,Ϫ.of (rel.lent a _ h2).1⟩,h _ F H rel Č Č ?_⟩⟩;intro c' j F2 H2 k l ē sF sL sc;have hq:Ϫ X.K H2 a (ts.map V.ref):=Ϫ.of<|sL a _<|Fx rel h2;refine⟨λd hp=>?_,λhi=>⟨_,hq,by rw[hi,Ę,Paired.length h3];exact ø _⟩⟩;obtain⟨t,ht,xs,b,vs,k1,k2,k3,k4⟩:=Co h3 hp;have hu:(ts.map V.ref)[j]?=some (.ref t):=by rw[ů,ht];rfl
   refine⟨⟨_,.ref t,hq,hu⟩,λx H' zz=>?_⟩;obtain⟨hH,hx⟩:=zz;subst hH;have:(ts.map V.ref)[j]?=some x:=hx _ hq;rw[hu]at this;cases this;exact⟨F2,ē,Ù.refl _,Ù.refl _,t,xs,b,vs,rfl,sF _ _ k1,k2.same sF d.1 xs,sc _ _<|Fx rel k3,k4.same sF d.2 vs⟩
  |_=>exact h.elim
noncomputable def gD(i j k:Nat):(List PV×List PV)->Ć->Option Ć:=λd ρ=>match d with
 |([p,q],qs)=>some<|((ρ.set i<|.sh p).set j (.sh q)).set k (.bw qs)|_=>none
def PH{i j k:Nat}{x y z:Str}{px py pz pos:Pos}{n:Nat}(hc:X.calm=true)(hN:X.N.Nodup)(hi:X.N[i]?=some x)(hj:X.N[j]?=some y)(hk:X.N[k]?=some z)(hx:Loc X.env.scope x)(hy:Loc X.env.scope y)(hz:Loc X.env.scope z)
 (fx:X.fn x=true\/X.env.scope.names.lookup x=some .local:=by first|exact .inl rfl|exact .inr rfl)(fy:X.fn y=true\/X.env.scope.names.lookup y=some .local:=by first|exact .inl rfl|exact .inr rfl)(fz:X.fn z=true\/X.env.scope.names.lookup z=some .local:=by first|exact .inl rfl|exact .inr rfl):
 PG X (.Tuple [.Name x px,.Name y py,.Name z pz] n pos) (Rj (kk X cm) (PD<|kk X cm)<|gD i j k):=
 PG.T_ (xI hc (iP (mj hN hi hx fx) (iP (mj hN hj hy fy) (iP (mj hN hk hz fz) xH rfl) rfl) rfl) rfl rfl)<|by
   rintro v a H Q ⟨c,F,e,d,rel,⟨t,xs,b,vs,hv,k1,k2,k3,k4⟩,h⟩;subst hv;obtain⟨ps,qs⟩:=d;unfold gD at h;rcases ps with _|⟨p,_|⟨q,_|⟨_,_⟩⟩⟩
   ·exact h.elim
   ·exact h.elim
   ·skip
    unfold â at k2;obtain⟨u,r,rfl,r1,k2⟩:=k2;unfold â at k2;obtain⟨w,r',rfl,r2,k2⟩:=k2;unfold â at k2;subst k2;refine⟨t,_,rfl,gk.of<|rel.sub _ _ k1,rfl,u,_,rfl,w,_,rfl,.ref b,_,rfl,rfl,?_⟩;have e1:=rel.put (i:=i) (x:=some u) (s:=.sh p) rfl ⟨u,rfl,r1⟩;have e2:=e1.put (i:=j) (x:=some w) (s:=.sh q) rfl ⟨w,rfl,r2⟩;exact h _<|e2.put (i:=k) (x:=some<|.ref b) (s:=.bw qs) rfl ⟨b,vs,rfl,k3,k4⟩
   ·exact h.elim
end
open M5
noncomputable def Vd(r:PV):Slot:=.dw [([.str "ab",.int 3],[r,.non]),([.str "a",.int 1],[.non])]
def iY{F:Hp}{b:Ċ}{c:Ć}{a:À}{i:Nat}{x:Option V}{s:Slot}(hs:s.own=false)(h:fq F b c a):fq F (b.set i x) (c.set i s) a:=λj q=>by
 have hj:j≠i:=λz=>by
  subst z;obtain⟨s',y,q1,_,q2⟩:=q;rcases af q1 with⟨_,rfl,_⟩|⟨q,_⟩
  ·have:=nE q2;rw[hs]at this;cases this
  ·exact q rfl
 exact h j<|q.off hj
noncomputable def L8(i:Nat)(ρ:Ć):Bool:=match ρ[i]?with
 |some (.dw _)=>true|_=>false
noncomputable def R9(b:Ć->Bool)(m1 m2:M RV):M RV:=λρ=>if b ρ=true then m1 ρ else m2 ρ
def Ve{X:Cx}{cm:String->À}{E:Ċ->XK}{e:È}{m1 m2:M RV}(b:Ć->Bool)(h1:PE X e (tO (kk X cm) E m1))(h2:PE X e (tO (kk X cm) E m2)):PE X e (tO (kk X cm) E<|R9 b m1 m2):=by
 rintro Æ s a H Q I ⟨c,F,d,rel,h⟩;unfold R9 at h;split at h
 ·exact h1 Æ s a H Q I ⟨c,F,d,rel,h⟩
 ·exact h2 Æ s a H Q I ⟨c,F,d,rel,h⟩
inductive WR where
 |t (i:Nat) (p:PV)|d (i:Nat) (ps:List PV)|l (i:Nat) (p:PV)
def WR.ix:WR->Nat
 |.t i _=>i|.d i _=>i|.l i _=>i
noncomputable def WR.to(j:Nat):WR->WR
 |.t _ p=>.t j p|.d _ ps=>.d j ps|.l _ p=>.l j p
noncomputable def qa(σ:Ċ)(i:Nat):Option V:=(σ[i]?).getD none
def zT(K:KK)(L B F' H':Hp)(o:Option V)(H2:Hp):WR->Prop
 |.t _ p=>∃a vs v,o=some (.ref a)/\L a=some (.lst vs)/\ă K F' p v/\vs.length<sizeLine/\H2=upd H' a (.lst<|vs++[v])|.d _ ps=>∃a us t xs b,o=some (.ref a)/\L a=some (.lst us)/\F' t=some (.tup<|xs++[.ref b])/\â K F' ps xs/\H' b=some (.lst [])/\F' b=none/\B b=none/\H2=upd H' a (.lst<|us++[.ref t])|.l _ p=>∃a us t xs b vs v,o=some (.ref a)/\L a=some (.lst<|us++[.ref t])/\F' t=some (.tup<|xs++[.ref b])/\L b=some (.lst vs)/\ă K F' p v/\H2=upd H' b (.lst<|vs++[v])
theorem zT.to{K:KK}{L B F' H':Hp}{o:Option V}{H2:Hp}{w:WR}{j:Nat}(h:zT K L B F' H' o H2 w):zT K L B F' H' o H2 (w.to j):=by cases w<;>exact h
def JL{w:WR}{j:Nat}:(w.to j).ix=j:=by cases w<;>rfl
def kQ(K:KK)(E:Ċ->XK)(c:Ctx)(F:Hp)(e:Ċ)(n:Nat)(D:Ends):ĵ WR->Prop
 |.ok w b=>∀a F' H' H2,ě K c F' H' a b->Ù F F'->(∀i,i<n->qa a i=qa e i)->zT K c.L c.B F' H' (qa a w.ix) H2 w->D.nx a H2|.exc x b=>∀a C d F' H',ě K c F' H' a b->Ù F F'->DT K F' x C d->E a C d H'|.bad=>False
def tW(K:KK)(E:Ċ->XK)(n:Nat)(m:M WR):TS:=λD a H=>∃c F b,ě K c F H a b/\kQ K E c F a n D (m b)
section
variable{K:KK}{E:Ċ->XK}{c:Ctx}{F F1:Hp}{σ:Ċ}{n:Nat}{D:Ends}
def kQ.mono{r:ĵ WR}(h:kQ K E c F σ n D r)(sF:Ù F F1):kQ K E c F1 σ n D r:=by
 cases r with
 |ok w b=>exact λa F' H' H2 rel s1 e q=>h a F' H' H2 rel (sF.trans s1) e q
 |exc x b=>exact λa C d F' H' rel s1 q=>h a C d F' H' rel (sF.trans s1) q
 |bad=>exact h
theorem kQ.bind{α β:Type}{R:RR α β}{H:Hp}{Q:β->Hp->Prop}{r:ĵ α}{f:α->Ć->ĵ WR}(h:kQ K E c F σ n D (r.bind f))
 (k:∀p a v F1 H1,ě K c F1 H1 σ a->Ù F F1->Ù H H1->R c σ a F1 H1 p v->kQ K E c F1 σ n D (f p a)->Q v H1):ϴ K E R c F H σ Q r:=by
 cases r with
 |ok p b=>exact λv F' H' rel s1 s2 q=>k p b v F' H' rel s1 s2 q<|kQ.mono (show kQ K E c F σ n D (f p b)from h) s1
 |exc x b=>exact λC d F' H' rel s1 q=>h σ C d F' H' rel s1 q
 |bad=>exact h
end
section
variable{X:Cx}{cm:String->À}{E:Ċ->XK}{a e:È}{pos:Pos}{n:Nat}{mt:M Bool}{mo:M RV}{me:M PV}{mb:M Fl}{mr m1 m2:M WR}{ss rest QL:List í}
@[simp]def ur(mt:M Bool)(mb:M Fl)(mr:M WR)(f:Ć):ĵ WR:=(mt f).bind fun b c=>if b=true then(match mb c with
  |.exc x d=>.exc x d|_=>.bad)else mr c
def tj(hc:PT X a (tB (kk X cm) E mt))(hb:ca X ss (tS (kk X cm) E mb))(hr:ca X rest (tW (kk X cm) E n mr)):ca X (.If a ss [] pos::rest) (tW (kk X cm) E n<|ur mt mb mr):=
 ca.wk (cb (EH hc hb Ca) hr) λD j H ⟨c,F,i,rel,h⟩=>⟨c,F,i,rel,kQ.bind h λb d v F1 H1 ã s1 _ q h1=>by
  have e:b=v:=q;subst e;cases b with
  |true=>
   rw[if_pos rfl]at h1⊢;refine⟨c,F1,d,ã,?_⟩;cases em:mb d with
   |exc x g=>rw[em]at h1;exact h1|ok f g=>rw[em]at h1;exact h1.elim|bad=>rw[em]at h1;exact h1.elim
  |false=>rw[if_neg aG]at h1⊢;exact⟨c,F1,d,ã,h1⟩⟩
@[simp]def L9(mt:M Bool)(m1 m2:M WR)(d:Ć):ĵ WR:=(mt d).bind λb c=>if b=true then m1 c else m2 c
def PK(hc:PT X a (tB (kk X cm) E mt))(h1:ca X ss (tW (kk X cm) E n m1))(h2:ca X QL (tW (kk X cm) E n m2)):ca X [.If a ss QL pos] (tW (kk X cm) E n<|L9 mt m1 m2):=
 ca.wk (fT<|EH hc h1 h2) λD g H ⟨c,F,f,rel,h⟩=>⟨c,F,f,rel,kQ.bind h λb d v F1 H1 ã s1 _ q h1=>by
  have e:b=v:=q;subst e;cases b with
  |true=>rw[if_pos rfl]at h1⊢;exact⟨c,F1,d,ã,h1⟩|false=>rw[if_neg aG]at h1⊢;exact⟨c,F1,d,ã,h1⟩⟩
def tq{b:Ċ}{i j:Nat}{v:Option V}(h:i≠j):qa (b.set j v) i=qa b i:=by unfold qa;rw[lv<|đ h]
@[simp]def JM(i:Nat)(mo:M RV)(mr:M WR)(c:Ć):ĵ WR:=(mo c).bind λr b=>mr<|b.set i r.slot
def kQ.set{K:KK}{E:Ċ->XK}{c:Ctx}{F:Hp}{g b:Ċ}{D:Ends}{r:ĵ WR}(hs:∀i,i<n->qa b i=qa g i)(h:kQ K E c F g n D r):kQ K E c F b n D r:=by
 cases r with
 |ok w d=>exact λf F' H' H2 rel s1 e q=>h f F' H' H2 rel s1 (λi hi=>(e i hi).trans (hs i hi)) q
 |exc x d=>exact h|bad=>exact h
def PM{i:Nat}{x:Str}{aY:Pos}(hN:X.N.Nodup)(hi:X.N[i]?=some x)(hx:Loc X.env.scope x)(he:PE X e (tO (kk X cm) E mo))(hr:ca X rest (tW (kk X cm) E n mr))(hn:n<=i:=by decide)(hs:ņ e (some<|.Name x aY) pos.line X.env=ì false:=by kernel_rfl)(hf:X.fn x=true\/X.env.scope.names.lookup x=some .local:=by first|exact .inl rfl|exact .inr rfl|assumption):
 ca X (.Assign [.Name x aY] e pos::rest) (tW (kk X cm) E n<|JM i mo mr):=ca.wk (cb (tE hN hi hx he hs hf) hr) λD d H ⟨c,F,f,rel,h⟩=>⟨c,F,f,rel,kQ.bind h λr b v F1 H1 ã s1 _ q h1=>by
 have h2:kQ (kk X cm) E c F1 (d.set i<|some v) n D (mr<|b.set i r.slot):=kQ.set (λj hj=>tq<|by lia) h1;cases r with
 |sh p=>exact⟨c,F1,_,ã.put (s:=.sh p) rfl ⟨v,rfl,q⟩,h2⟩|ow ps=>obtain⟨a,vs,rfl,q1,q2,q3,q4,q5⟩:=q;exact⟨c,F1,_,ã.DR (s:=.ow ps) ⟨a,vs,rfl,q1,q2,q3,q5⟩ λ_ z=>V.ref.inj z▸q4,h2⟩
 |ot ps qs rs=>obtain⟨p,a,xs,vs,ys,rfl,q0,qx,q1,q2,q3,q4,q5,q6⟩:=q;exact⟨c,F1,_,ã.DR (s:=.ot ps qs rs) ⟨p,a,xs,vs,ys,rfl,q0,qx,q1,q2,q3,q5,q6⟩ λ_ z=>oV (ps:=ps) (qs:=qs) (rs:=rs) z ⟨p,xs,ys,rfl,q0,qx.length.symm⟩▸q4,h2⟩
 |bn t ps qs rows=>exact⟨c,F1,_,ã.Ll q,h2⟩⟩
def yy{b:Ċ}{i:Nat}{v:V}(h:b[i]?=some (some v)):qa b i=some v:=by unfold qa;rw[h];rfl
def zU(i:Nat)(me:M PV):M WR:=λc=>match c[i]?with
 |some (.bw _)=>(me c).bind λp b=>match b[i]?with
  |some (.bw ps)=>if ps.length<16777216then .ok (.t i p) b else .bad|_=>.bad
 |_=>.bad
def Ga{i:Nat}{D:Ends}{f:Ċ}{H:Hp}(h:tW (kk X cm) E n (zU i me) D f H):qB (K0 X.K "list" my (dQ i) (tL (kk X cm) E<|É me å)) D f H:=by
 obtain⟨c,F,g,rel,h⟩:=h;unfold zU at h;cases e1:g[i]?with
 |none=>rw[e1]at h;exact h.elim|some sl=>
  rw[e1]at h;cases sl with
  |bw T1=>
   obtain⟨a,T2,z1,z2,z3⟩:=rel.slot i _ e1;refine⟨.ref a,ļ z1,.inl ⟨rfl,_,Ϫ.of (rel.lent a _ z2).1⟩,c,F,g,rel,?_⟩;dsimp only at h;unfold É;cases em:me g with
   |bad=>rw[em]at h;exact h|exc x b=>rw[em]at h;exact λC d F' H' Š s1 q=>h f C d F' H' Š s1 q
   |ok p b=>
    rw[em]at h;intro us F1 H1 ã s1 s2 r1;have kA:â (kk X cm) F1 [p] us:=r1;cases kA.pr with
    |cons rp t=>
     rename_i v yR;cases t;cases e2:b[i]?with
     |none=>simp only[ĵ.aQ,e2]at h;exact h.elim|some Eo=>
      simp only[ĵ.aQ,e2]at h;cases Eo with
      |bw ps=>
       obtain⟨a2,vs,w1,w2,w5⟩:=ã.slot i _ e2;rw[z1]at w1;cases w1;dsimp only at h;split at h
       ·rename_i hz;have hl:vs.length<sizeLine:=by rw[<-w5.length,Ē];exact hz
        exact⟨a,vs,v,rfl,rfl,(ã.lent a _ w2).1,hl,h f F1 H1 _ ã s1 (λ_ _=>rfl) ⟨a,vs,v,yy<|ļ z1,w2,rp,hl,rfl⟩⟩
       ·exact h.elim
      |_=>exact h.elim
  |_=>exact h.elim
def Ma{i:Nat}{x:Str}{px ap cp:Pos}(ho:PE X (.Name x px) (dQ i))(he:PE X e (tV (kk X cm) E me))(jq:dh (.Name x px) "append" X.env (eval (.Name x px) X.env)=eval (.Name x px) X.env:=by kernel_rfl)
 (qA:((Ĉ cp<|Ð [e] X.env).all (λx=>!x.1)&&(bv cp<|bz [] X.env).all (λx=>x.1.isSome)&&decide ([e].length+([]:List ϯ).length+(if([]:List ϯ).isEmpty then 0 else 1)<30))=true:=by rfl)
 (jr:(ap.endLine==cp.line)=true:=by rfl)(gi:Ð [e] X.env=(false,eval e X.env)::Ð [] X.env:=by exact Ō rfl)(hpl:(Ĉ cp<|Ð [] X.env).any (·.1)=false:=by kernel_rfl)(hs:ņ (.Call (.Attribute (.Name x px) "append" ap) [e] [] cp) none pos.line X.env=ì false:=by kernel_rfl):
 ca X [.Expr (.Call (.Attribute (.Name x px) "append" ap) [e] [] cp) pos] (tW (kk X cm) E n<|zU i me):=
 ca.wk (fT<|ϝ (fk aN bB cG Ŵ ho (Í he ó gi) jq qA jr gi hpl) hs) λ_ _ _ h=>Ga h
noncomputable def zW(i j:Nat):M WR:=λρ=>match ρ[i]?,ρ[j]?with
 |some (.dw ie),some (.ot ps [] [])=>if ie.length<16777216then .ok (.d i ps) (ρ.set j .no)else .bad|_,_=>.bad
def Gb{i j:Nat}{D:Ends}{d:Ċ}{H:Hp}(h:tW (kk X cm) E n (zW i j) D d H):qB (K0 X.K "list" my (dQ i) (EX (dQ j) DF)) D d H:=by
 obtain⟨c,F,f,rel,h⟩:=h;unfold zW at h;split at h
 ·rename_i ie ps e1 e2;split at h
  ·rename_i hz;obtain⟨a,ts,z1,z2,z3⟩:=rel.slot i _ e1;obtain⟨p,b,xs,vs,ys,y1,y2,y3,y4,y5,y6,y7,y8⟩:=rel.slot j _ e2;unfold â at y7 y8;subst y7 y8;have hl:(ts.map V.ref).length<sizeLine:=by rw[Ę,Paired.length z3,Ē];exact hz
   refine⟨.ref a,ļ z1,.inl ⟨rfl,_,Ϫ.of (rel.lent a _ z2).1⟩,.ref p,ļ y1,a,_,.ref p,rfl,rfl,(rel.lent a _ z2).1,hl,?_⟩;obtain⟨m1,_⟩:=rel.move ⟨_,_,e2,ļ y1,⟨p,xs,[],rfl,y2,y3.length.symm⟩⟩;exact h d F H _ m1 Č (λ_ _=>rfl) ⟨a,_,p,xs,b,yy<|ļ z1,z2,y2,y3,y4,y5,y6,rfl⟩
  ·exact h.elim
 ·exact h.elim
def Mb{i j:Nat}{x y:Str}{px py ap cp:Pos}(ho:PE X (.Name x px) (dQ i))(he:PE X (.Name y py) (dQ j))(jq:dh (.Name x px) "append" X.env (eval (.Name x px) X.env)=eval (.Name x px) X.env:=by kernel_rfl)
 (qA:((Ĉ cp<|Ð [.Name y py] X.env).all (λx=>!x.1)&&(bv cp<|bz [] X.env).all (λx=>x.1.isSome)&&decide ([Expr.Name y py].length+([]:List ϯ).length+(if([]:List ϯ).isEmpty then 0 else 1)<30))=true:=by rfl)
 (jr:(ap.endLine==cp.line)=true:=by rfl)(gi:Ð [.Name y py] X.env=(false,eval (.Name y py) X.env)::Ð [] X.env:=by exact Ō rfl)(hpl:(Ĉ cp<|Ð [] X.env).any (·.1)=false:=by kernel_rfl)(hs:ņ (.Call (.Attribute (.Name x px) "append" ap) [.Name y py] [] cp) none pos.line X.env=ì false:=by kernel_rfl):
 ca X [.Expr (.Call (.Attribute (.Name x px) "append" ap) [.Name y py] [] cp) pos] (tW (kk X cm) E n<|zW i j):=
 ca.wk (fT<|ϝ (fk aN bB cG Ŵ ho (ϳ he bZ gi) jq qA jr gi hpl) hs) λ_ _ _ h=>Gb h
def IJ{α:Type}{l:List α}{x:α}:nY (l++[x]) (-1)=some x:=by unfold nY DH;rw[if_neg (by lia),if_pos (by simp;lia)];show(l++[x])[(-1+((l++[x]).length:Int)).toNat]?=some x;rw[show(-1+((l++[x]).length:Int)).toNat=l.length by simp;lia];simp
abbrev PN(K:Î)(i:Nat):TE:=Ju (Tr K) (Ju (Tr K) (dQ i)<|Xu (rU λi=>.int<|-i)<|tC<|.int 1)<|tC<|.int 2
def ut{α β:Type}{G:α->β->Prop}{l:List α}{m:List β}{d:β}(h:Paired G l m)(e:m.getLast?=some d):∃l0 x,l=l0++[x]/\Paired G l0 m.dropLast/\G x d:=by
 induction h with
 |nil=>cases e|cons r t ih=>
  cases t with
  |nil=>cases e;exact⟨[],_,rfl,.nil,r⟩|cons r' t'=>obtain⟨k,x,e2,g1,g2⟩:=ih (by rw[List.getLast?_cons_cons]at e;exact e);exact⟨_::k,x,by rw[e2];rfl,.cons r g1,g2⟩
def IK{α β:Type}{G:α->β->Prop}{l:List α}{m:List β}{y:β}(h:Paired G l m)(e:m.getLast?=some y):∃k x,l=k++[x]/\G x y:=
 have⟨k,x,e,_,g⟩:=ut h e
 ⟨k,x,e,g⟩
def CT{K:KK}{c:Ctx}{F H:Hp}{f:Ċ}{g:Ć}{i:Nat}{ie:List (List PV×List PV)}{d:List PV×List PV}(rel:ě K c F H f g)(e:g[i]?=some (.dw ie))(hd:ie.getLast?=some d):
 ∃a us t xs b vs,f[i]?=some (some<|.ref a)/\c.L a=some (.lst<|us++[.ref t])/\F t=some (.tup<|xs++[.ref b])/\â K F d.1 xs/\c.L b=some (.lst vs)/\â K F d.2 vs:=by
 obtain⟨a,ts,z1,z2,z3⟩:=rel.slot i _ e;obtain⟨k,t,rfl,xs,b,vs,k1,k2,k3,k4⟩:=IK z3 hd;exact⟨a,k.map V.ref,t,xs,b,vs,ļ z1,by rw[z2,Ĝ];rfl,k1,k2,k3,k4⟩
def Vf{xs:List V}{y:V}(h:xs.length=2):nY (xs++[y]) 2=some y:=by unfold nY DH;rw[if_pos (by lia),if_pos (by simp;lia)];simp[<-h]
def Gd{K:Î}{H:Hp}{c:Ċ}{i:Nat}{a t b:À}{us xs:List V}{Q:VK}(h1:c[i]?=some (some<|.ref a))(h2:H a=some (.lst<|us++[.ref t]))(h3:H t=some (.tup<|xs++[.ref b]))(hl:xs.length=2)(q:Q (.ref b) H):PN K i c H Q:=
 ⟨.ref a,h1,1,rfl,.inl ⟨a,_,-1,.ref t,rfl,rfl,Ϫ.of h2,IJ,.inr<|.inl ⟨t,_,2,.ref b,rfl,rfl,gk.of h3,Vf hl,q⟩⟩⟩
def zX(i:Nat)(me:M PV):M WR:=λc=>match c[i]?with
 |some (.dw ie)=>match ie.getLast? with
  |some d=>if d.1.length=2/\d.2.length<16777216then(me c).bind λp b=>.ok (.l i p) b else .bad
  |none=>.bad
 |_=>.bad
def Ge{i:Nat}{D:Ends}{f:Ċ}{H:Hp}(h:tW (kk X cm) E n (zX i me) D f H):qB (K0 X.K "list" my (PN X.K i) (tL (kk X cm) E<|É me å)) D f H:=by
 obtain⟨c,F,j,rel,h⟩:=h;unfold zX at h;split at h
 ·rename_i ie e1;split at h
  ·rename_i d hd;split at h
   ·rename_i hz;obtain⟨a,us,t,xs,b,vs,z1,z2,z3,z4,z5,z6⟩:=CT rel e1 hd;refine Gd z1 (rel.lent a _ z2).1 (rel.sub _ _ z3) (by rw[<-z4.length];exact hz.1) ⟨.inl ⟨rfl,_,Ϫ.of (rel.lent b _ z5).1⟩,c,F,j,rel,?_⟩;unfold É;cases em:me j with
    |bad=>rw[em]at h;exact h|exc x g=>rw[em]at h;exact λC d F' H' Š s1 q=>h f C d F' H' Š s1 q
    |ok p g=>
     rw[em]at h;intro ws F1 H1 ã s1 s2 r1;have kA:â (kk X cm) F1 [p] ws:=r1;cases kA.pr with
     |cons rp u=>rename_i v yR;cases u;exact⟨b,vs,v,rfl,rfl,(ã.lent b _ z5).1,by rw[<-z6.length,Ē];exact hz.2,h f F1 H1 _ ã s1 (λ_ _=>rfl) ⟨a,us,t,xs,b,vs,v,yy z1,z2,s1 _ _ z3,z5,rp,rfl⟩⟩
   ·exact h.elim
  ·exact h.elim
 ·exact h.elim
def Mc{i:Nat}{o:È}{ap cp:Pos}(ho:PE X o (PN X.K i))(he:PE X e (tV (kk X cm) E me))(jq:dh o "append" X.env (eval o X.env)=eval o X.env:=by kernel_rfl)
 (qA:((Ĉ cp<|Ð [e] X.env).all (λx=>!x.1)&&(bv cp<|bz [] X.env).all (λx=>x.1.isSome)&&decide ([e].length+([]:List ϯ).length+(if([]:List ϯ).isEmpty then 0 else 1)<30))=true:=by rfl)
 (jr:(ap.endLine==cp.line)=true:=by rfl)(gi:Ð [e] X.env=(false,eval e X.env)::Ð [] X.env:=by exact Ō rfl)(hpl:(Ĉ cp<|Ð [] X.env).any (·.1)=false:=by kernel_rfl)(hs:ņ (.Call (.Attribute o "append" ap) [e] [] cp) none pos.line X.env=ì false:=by kernel_rfl):
 ca X [.Expr (.Call (.Attribute o "append" ap) [e] [] cp) pos] (tW (kk X cm) E n<|zX i me):=
 ca.wk (fT<|ϝ (fk aN bB cG Ŵ ho (Í he ó gi) jq qA jr gi hpl) hs) λ_ _ _ h=>Ge h
def Md{i:Nat}{x:Str}{px p1 p2 p3 p4 p5:Pos}{j1 j2:Nat}(ho:PE X (.Name x px) (dQ i)):PE X (.Subscript (.Subscript (.Name x px) (.UnaryOp .USub (.Constant (.int 1) j1 p1) p2) p3) (.Constant (.int 2) j2 p4) p5) (PN X.K i):=
 E2 AO (E2 AO ho (Jv ER xF) λ_ _=>rfl) xF λ_ _=>rfl
noncomputable def uu(i:Nat):M PV:=λρ=>match ρ[i]?with
 |some (.dw ie)=>.ok (.int ie.length) ρ|_=>.bad
noncomputable def zY(i:Nat):M PV:=λρ=>match ρ[i]?with
 |some (.dw ie)=>match ie.getLast? with
  |some d=>if d.1.length=2then .ok (.int d.2.length) ρ else .bad|none=>.bad
 |_=>.bad
end
inductive FW where
 |ok (w:WR)|exc (x:PX)|bad
abbrev MW:=List Slot->FW
def gt(n k:Nat)(mb:M WR):MW:=λas=>if as.length=n then(match mb (Ŀ k as)with
 |.ok w _=>if w.ix<n then .ok w else .bad|.exc x _=>.exc x|.bad=>.bad)else .bad
def PP(K:KK)(E:XK)(F H:Hp)(vs:List V)(Q:VK):FW->Prop
 |.ok w=>∀F' H' H2,Gr F H F' H'->zT K (dY F H).L H F' H' (vs[w.ix]?) H2 w->Q .non H2|.exc x=>∀C d F' H',Gr F H F' H'->DT K F' x C d->E C d H'|.bad=>False
def PQ(K:KK)(n:Nat)(mf:MW):Sp:=λvs H Q E=>∃F as,as.length=n/\Ù F H/\Paired (dL K F H) as vs/\PP K E F H vs Q (mf as)
def Ea{N:List Str}{vs:List V}{i:Nat}(h:i<vs.length):qa (L2.start N vs) i=vs[i]?:=by
 unfold qa L2.start;rw[fG (by simpa using h),ů,ţ h];rfl
section
variable{Pg:ä}{w:Þ}{K:Î}{cm:String->À}{mg:Str->Option Á}{base:Ñ}{CX:ia}
def fnW{x Ő:Str}{st:í}{f:À}{fd:ċ}{N ps:List Str}{k n j:Nat}{mb:M WR}{mf:MW}(F:G1 K x Ő st f fd)(S:ό N ps (ÿ st))
 (li:∀(cdv:Á) (A:ê) (outer:List Env) (s:Ã) (H:Hp) (E:XK),ϫ k (A.deeper<|Ϙ Ő (ÿ st) s.heap.objs.size f cdv)→(A.deeper<|Ϙ Ő (ÿ st) s.heap.objs.size f cdv).units+64<Ń→
   ca (tM CX Pg w K mg base N Ő (ÿ st) f cdv A outer s H E) (ύ st) (tW ⟨K,cm⟩ (λ_=>E) ps.length mb))(hn:ps.length=n:=by rfl)(hj:N.length=j:=by rfl)(hf:mf=gt n j mb:=by rfl):b_ Pg w K mg base CX (k+1) f fd ps (PQ ⟨K,cm⟩ n mf):=by
 subst hn hj hf;obtain⟨oc,od,kV,doc,pm,an,cdv,ct,Hd,rfl,lk,Ek⟩:=F.ex;refine EZ lk Ek S (λvs H Q E ⟨F,J7,h1,_,h2,_⟩=>by rw[<-Paired.length h2];exact h1) λA outer s H vs Q E hr Ez=>?_;obtain⟨F,J7,h1,h2,h3,h4⟩:=Ez;refine⟨_,li cdv A outer s H E hr hr.units,dY F H,F,Ŀ N.length J7,ě.start h2 h3,?_⟩;unfold gt at h4;rw[if_pos h1]at h4;cases e:mb (Ŀ N.length J7)with
 |bad=>rw[e]at h4;exact h4|exc x a=>rw[e]at h4;exact λb C d F' H' rel s1 q=>h4 C d F' H' rel.gr q
 |ok w a=>
  rw[e]at h4;dsimp only at h4;split at h4
  ·rename_i hw;intro b F' H' H2 rel s1 hs q;refine h4 F' H' H2 rel.gr ?_;rw[hs _ hw,Ea (by rw[<-Paired.length h3,h1];exact hw)]at q;exact q
  ·exact h4.elim
end
noncomputable def ko(ρ:Ć):List Nat->Option (List Slot)
 |[]=>some []|i::is=>((ρ[i]?).bind eS).bind λs=>(ko ρ is).map (s::·)
theorem uw{K:KK}{c:Ctx}{F H:Hp}{a:Ċ}{b:Ć}(rel:ě K c F H a b):∀{ns:List Nat}{as:List Slot},ko b ns=some as->∃vs:List V,ns.map (qa a)=vs.map some/\Paired (dL K F H) as vs
 |[],as,h=>by cases h;exact⟨[],rfl,.nil⟩|i::ns,as,h=>by unfold ko at h;obtain⟨s,e1,h⟩:=oq.mp h;obtain⟨as',e2,rfl⟩:=eB.mp h;obtain⟨v,v1,v2⟩:=sY rel e1;obtain⟨vs,q1,q2⟩:=uw rel e2;exact⟨v::vs,by rw[Ó,Ó,q1,yy v1],.cons v2 q2⟩
def Np(ns:List Nat):TA:=λa H Q=>∃vs:List V,ns.map (qa a)=vs.map some/\Q vs H
noncomputable def rh:WR->Option Slot->Bool
 |.t _ _,some (.bw _)=>true|.d _ _,some (.dw _)=>true|.l _ _,some (.dw _)=>true|_,_=>false
def ϵ(mf:MW)(ns:List Nat):M WR:=λa=>match ko a ns with
 |none=>.bad|some as=>match mf as with
  |.ok w=>(match ns[w.ix]?with
    |some j=>if rh w a[j]?=true then .ok (w.to j) a else .bad|none=>.bad)
  |.exc x=>.exc x a|.bad=>.bad
section
variable{X:Cx}{cm:String->À}{E:Ċ->XK}{CX:ia}{k j n m:Nat}{f:À}{fd:ċ}{ps:List Str}{mf:MW}{x:Str}{st:í}{p pos Er:Pos}{e:È}{es:List È}
def yz:PA X [] (Np []):=PA.wk bZ<|by
 rintro a H Q ⟨vs,h1,h2⟩;cases vs with
 |nil=>exact h2|cons _ _=>cases h1
def Be{a:Ċ}{i:Nat}{v:V}(h:qa a i=some v):a[i]?=some (some v):=ļ h
def aS(i:Nat){ns:List Nat}{px:Pos}(ho:PE X (.Name x px) (dQ i))(hr:PA X es (Np ns))(hs:Ð (.Name x px::es) X.env=(false,eval (.Name x px) X.env)::Ð es X.env:=by exact Ō rfl):PA X (.Name x px::es) (Np (i::ns)):=
 PA.wk (ϳ ho hr hs)<|by
   rintro a H Q ⟨vs,h1,h2⟩;cases vs with
   |nil=>cases h1|cons v vs=>
    rw[Ó,Ó]at h1;injection h1 with h3 h4
    exact⟨v,Be h3,vs,h4,h2⟩
def zZ{sp:Sp}{ta:TA}(F:b_ X.prog X.w X.K X.mg X.base CX k f fd ps sp)(hr:ϫ k X.A)(hg:Gl X x)(hm:X.mg x=some (.ref f))(hk:bE X.K (.ref f)=true)(hb:Binds X.K fd ps [])(hx:dn CX X E)
 (ha:PA X (e::es) ta)(qz:(x==("__debug__":Str))=false:=by kernel_rfl)(he:Ð (e::es) X.env=(false,eval e X.env)::Ð es X.env:=by exact Ō rfl)(hpl:(Ĉ pos<|Ð es X.env).any (·.1)=false:=by kernel_rfl):
 PE X (.Call (.Name x p) (e::es) [] pos) (λa H Q=>ta a H λvs H1=>sp vs H1 Q<|E a):=by
 intro Æ s a H Q I h;refine lK<|sU I hg hm ?_ qz;refine oP (h₀:=X.base) I.ok.mod.Js hk (ώ (ha pos Æ s a H _ I h) λus s1 ⟨vs,H1,I1,r,q⟩=>⟨I1.yW,?_⟩) he hpl;exact oY F hr hb hx I1 r q
def qr{n k:Nat}{mb:M WR}{ps:List Slot}(h:gt n k mb ps≠.bad):ps.length=n:=by
 unfold gt at h;by_cases hl:ps.length=n
 ·exact hl
 ·rw[if_neg hl]at h;exact absurd rfl h
def Me{j:Nat}{p:PV}{o:Option Slot}(h:rh (.t j p) o=true):∃ps,o=some (.bw ps):=by
 cases o with
 |none=>cases h|some s=>cases s<;>first|exact⟨_,rfl⟩|cases h
def Mf{j:Nat}{p:List PV}{o:Option Slot}(h:rh (.d j p) o=true):∃ps,o=some (.dw ps):=by
 cases o with
 |none=>cases h|some s=>cases s<;>first|exact⟨_,rfl⟩|cases h
def Mg{j:Nat}{p:PV}{o:Option Slot}(h:rh (.l j p) o=true):∃ps,o=some (.dw ps):=by
 cases o with
 |none=>cases h|some s=>cases s<;>first|exact⟨_,rfl⟩|cases h
def z_{F:Hp}{t b b':À}{xs ys:List V}(h:F t=some (.tup<|xs++[.ref b]))(h':F t=some (.tup<|ys++[.ref b'])):b=b':=by
 rw[h]at h';injection h' with h'
 injection h' with h'
 have:=(wH h' rfl).2;injection this with this
 injection this
def PR{K:KK}{c:Ctx}{F H F' H' H2:Hp}{o:Ċ}{q:Ć}{i:Nat}{w:WR}(rel:ě K c F H o q)(g:Gr F H F' H')(hs:rh w q[i]?=true)(h:zT K (dY F H).L H F' H' (qa o i) H2 w):zT K c.L c.B F' H' (qa o i) H2 w:=by
 have XY:∀{ie:List (List PV×List PV)}{a:À}{us:List V},q[i]?=some (.dw ie)->qa o i=some (.ref a)->(dY F H).L a=some (.lst us)->c.L a=some (.lst us)/\∃ts:List À,us=ts.map V.ref/\∀t∈ts,∃xs b vs,F t=some (.tup<|xs++[.ref b])/\c.L b=some (.lst vs):=by intro ie a us e h1 h2;obtain⟨a',ts,q1,q2,q3⟩:=rel.slot i _ e;have e2:=ļ q1;rw[Be h1]at e2;cases e2;have e3:=(rel.lent a _ q2).1;rw[(aD h2).1]at e3;cases e3;refine⟨q2,ts,rfl,λt ht=>?_⟩;obtain⟨j,hj⟩:=BA ht;obtain⟨d,_,xs,b,vs,k1,_,k3,_⟩:=dR q3 hj;exact⟨xs,b,vs,k1,k3⟩
 cases w with
 |t j p=>obtain⟨ps,e⟩:=Me hs;obtain⟨a,vs,v,h1,h2,h3⟩:=h;obtain⟨a',yR,q1,q2,q3⟩:=rel.slot i _ e;have e2:=ļ q1;rw[Be h1]at e2;cases e2;have e3:=(rel.lent a _ q2).1;rw[(aD h2).1]at e3;cases e3;exact⟨a,vs,v,h1,q2,h3⟩|d j ps=>obtain⟨ie,e⟩:=Mf hs;obtain⟨a,us,t,xs,b,h1,h2,h3,h4,h5,h6,h7,h8⟩:=h;exact⟨a,us,t,xs,b,h1,(XY e h1 h2).1,h3,h4,h5,h6,rel.base.free h7,h8⟩|l j p=>
  obtain⟨ie,e⟩:=Mg hs;obtain⟨a,us,t,xs,b,vs,v,h1,h2,h3,h4,h5⟩:=h;obtain⟨g1,ts,g2,g3⟩:=XY e h1 h2;have ht:t∈ts:=by
   have:V.ref t∈ts.map V.ref:=by rw[<-g2];simp
   obtain⟨t',m1,m2⟩:=Đ.mp this;injection m2 with m2
   exact m2▸m1
  obtain⟨xs',b',yR,k1,k2⟩:=g3 t ht;have eb:=z_ (g.f _ _ k1) h3;subst eb;have e3:=(rel.lent b' _ k2).1;rw[(aD h4).1]at e3;cases e3;exact⟨a,us,t,xs,b',vs,v,h1,g1,h3,k2,h5⟩
def w_call(F:b_ X.prog X.w X.K X.mg X.base CX k f fd ps (PQ (kk X cm) m mf))(D:Df X.K X.mg x st ps f fd)(hr:ϫ j X.A)(hx:dn CX X E){ns:List Nat}(ha:PA X (e::es) (Np ns))
 (hlen:∀{as:List Slot},mf as≠.bad->as.length=m:=by exact qr)(hg:Gl X x:=by kernel_rfl)(Bu:k<=j:=by decide)(qz:(x==("__debug__":Str))=false:=by kernel_rfl)(he:Ð (e::es) X.env=(false,eval e X.env)::Ð es X.env:=by exact Ō rfl)(hpl:(Ĉ pos<|Ð es X.env).any (·.1)=false:=by kernel_rfl)(hs:ņ (.Call (.Name x p) (e::es) [] pos) none Er.line X.env=ì false:=by kernel_rfl):
 ca X [.Expr (.Call (.Name x p) (e::es) [] pos) Er] (tW (kk X cm) E n<|ϵ mf ns):=
 ca.wk (fT<|ϝ (zZ F (hr.mono Bu) hg D.m D.F.kp D.b hx ha qz he hpl) hs)<|by
  rintro D a H ⟨c,F,o,rel,h⟩;unfold ϵ at h;cases el:ko o ns with
  |none=>rw[el]at h;exact h.elim|some as=>
   rw[el]at h;dsimp only at h;obtain⟨vs,v1,v2⟩:=uw rel el;refine⟨vs,v1,F,as,hlen λz=>?_,rel.sub,v2,?_⟩
   ·rw[z]at h;exact h
   ·cases em:mf as with
    |bad=>rw[em]at h;exact h|exc x=>rw[em]at h;exact λC d F' H' g rx=>h a C d F' H' (rel.call g) g.f rx
    |ok w=>
     rw[em]at h;dsimp only at h;cases ej:ns[w.ix]?with
     |none=>rw[ej]at h;exact h.elim|some i=>
      rw[ej]at h;dsimp only at h;split at h
      ·rename_i hok;intro F' H' H2 g hw;have ev:vs[w.ix]?=qa a i:=by
        have:=congrArg (λl=>l[w.ix]?) v1;simp only[ů,ej,wT]at this;cases ev:vs[w.ix]?with
        |none=>rw[ev]at this;cases this|some v=>rw[ev]at this;injection this with this;exact this.symm
       rw[ev]at hw;have:=PR rel g hok hw;refine h a F' H' H2 (rel.call g) g.f (λ_ _=>rfl) ?_;rw[JL];exact this.to
      ·exact h.elim
end
section
variable{X:Cx}{cm:String->À}{E:Ċ->XK}{e:È}{p pos:Pos}
def yA(i:Nat){x:Str}{px:Pos}(hm:X.mg "len"=none)(ho:PE X (.Name x px) (dQ i))(hg:Gl X "len":=by kernel_rfl)(he:Ð [.Name x px] X.env=(false,eval (.Name x px) X.env)::Ð [] X.env:=by exact Ō rfl)(hpl:(Ĉ pos<|Ð [] X.env).any (·.1)=false:=by kernel_rfl):
 PE X (.Call (.Name "len" p) [.Name x px] [] pos) (tV (kk X cm) E<|uu i):=PE.wk (tN ŉ hg hm ĩ (ϳ ho bZ he) (he:=he) (hpl:=hpl))<|by
 rintro b H Q ⟨c,F,d,rel,h⟩;unfold uu at h;split at h
 ·rename_i ie e;obtain⟨a,ts,z1,z2,z3⟩:=rel.slot i _ e;refine⟨.ref a,ļ z1,ts.map V.ref,.inl<|Ϫ.of (rel.lent a _ z2).1,h _ F H rel Č Č ?_⟩;show ă _ _ _ _;unfold ă;rw[Ę,Paired.length z3]
 ·exact h.elim
def Gf(i:Nat){o:È}(hm:X.mg "len"=none)(ho:PE X o (PN X.K i))(hg:Gl X "len":=by kernel_rfl)(he:Ð [o] X.env=(false,eval o X.env)::Ð [] X.env:=by exact Ō rfl)(hpl:(Ĉ pos<|Ð [] X.env).any (·.1)=false:=by kernel_rfl):
 PE X (.Call (.Name "len" p) [o] [] pos) (tV (kk X cm) E<|zY i):=PE.wk (tN ŉ hg hm ĩ (ϳ ho bZ he) (he:=he) (hpl:=hpl))<|by
 rintro f H Q ⟨c,F,g,rel,h⟩;unfold zY at h;split at h
 ·rename_i ie e;split at h
  ·rename_i d hd;split at h
   ·rename_i hl;obtain⟨a,us,t,xs,b,vs,z1,z2,z3,z4,z5,z6⟩:=CT rel e hd;refine Gd z1 (rel.lent a _ z2).1 (rel.sub _ _ z3) (by rw[<-z4.length];exact hl) ⟨vs,.inl<|Ϫ.of (rel.lent b _ z5).1,h _ F H rel Č Č ?_⟩;show ă _ _ _ _;unfold ă;rw[z6.length]
   ·exact h.elim
  ·exact h.elim
 ·exact h.elim
end
@[simp]theorem Sa{i:Nat}{a:Ć}:uu i a=(match a[i]?with
  |some (.dw ie)=>.ok (.int ie.length) a|_=>.bad):=rfl
@[simp]theorem PU{i:Nat}{a:Ć}:zY i a=(match a[i]?with
  |some (.dw ie)=>match ie.getLast? with
   |some d=>if d.1.length=2then .ok (.int d.2.length) a else .bad|none=>.bad
  |_=>.bad):=rfl
abbrev DL:=List<|List PV×List PV
noncomputable def ė:Slot->Bool
 |.no=>true|.sh _=>true|.ow _=>true|.bw _=>true|_=>false
def qO(s:Slot):Slot:=(eS s).getD .no
def bc(iT iD:Nat)(T:List PV)(D:DL)(a:Ć):Ć:=((a.map qO).set iT (.bw T)).set iD (.dw D)
noncomputable def Aa(iT iD:Nat)(w:WR)(T:List PV)(D:DL):Option (List PV×DL):=match w with
 |.t k p=>if k=iT then some (T++[p],D)else none|.d k ps=>if k=iD then some (T,D++[(ps,[])])else none|.l k p=>if k=iD then(match D.getLast? with
   |some d=>some (T,D.dropLast++[(d.1,d.2++[p])])|none=>none)else none
noncomputable def jU(i j iT iD:Nat)(mw:M WR):List PV->Ć->List PV->DL->ĵ (List PV×DL)
 |[],ρ,T,D=>.ok (T,D) ρ|p::ps,ρ,T,D=>match p with
  |.tup [q1,q2]=>(match mw (bc iT iD T D<|(ρ.set i<|.sh q1).set j (.sh q2))with
    |.ok w _=>(match Aa iT iD w T D with
      |some (T',D')=>jU i j iT iD mw ps ((ρ.set i<|.sh q1).set j (.sh q2)) T' D'|none=>.bad)
    |.exc x _=>.exc x<|(ρ.set i<|.sh q1).set j (.sh q2)|.bad=>.bad)
  |_=>.bad
def Sb(i j iT iD:Nat)(mi:M (List PV))(mw:M WR)(mt:M Fl):M Fl:=fun c=>if c.all ė=true∧iT<c.length∧iD<c.length then
    (match mi ((c.set iT .no).set iD .no)with
    |.ok items b=>if b.all ė=true then(jU i j iT iD mw items b [] []).bind fun td a=>(match mt (bc iT iD td.1 td.2 a)with
      |.ok (.rt<|.sh p) _=>.ok (.rt<|.sh p) a|.exc x _=>.exc x a|_=>.bad)else .bad
    |_=>.bad)
 else .bad
def ux(K:KK)(F H:Hp)(x:À×À)(d:List PV×List PV):Prop:=∃xs vs,F x.1=some (.tup<|xs++[.ref x.2])/\â K F d.1 xs/\H x.2=some (.lst vs)/\â K F d.2 vs
def Ex(K:KK)(c:Ctx)(F H:Hp)(b:Ċ)(d:Ć)(iT iD:Nat)(T:List PV)(D:DL)(pT pD:À)(tb:List (À×À)):Prop:=
 qa b iT=some (.ref pT)/\qa b iD=some (.ref pD)/\(∃us,H pT=some (.lst us)/\â K F T us)/\H pD=some (.lst<|tb.map λx=>.ref x.1)/\Paired (ux K F H) tb D/\(pT::pD::tb.map (·.2)).Nodup/\∀a∈pT::pD::tb.map (·.2),F a=none/\c.B a=none/\fq F b d a
section
variable{K:KK}{c:Ctx}{F H F' H':Hp}{σ:Ċ}{ρ:Ć}{iT iD:Nat}{T:List PV}{D:DL}{pT pD:À}{tb:List (À×À)}
def Mh{x:À}(h:Paired (ux K F H) tb D)(hx:x∈tb.map (·.2)):H x≠none:=by obtain⟨y,hy,rfl⟩:=Đ.mp hx;obtain⟨k,hk⟩:=BA hy;obtain⟨d,_,xs,vs,_,_,h3,_⟩:=dR h hk;rw[h3];intro z;cases z
def Ex.some(h:Ex K c F H σ ρ iT iD T D pT pD tb){a:À}(ha:a∈pT::pD::tb.map (·.2)):H a≠none:=by
 obtain⟨_,_,⟨us,h1,_⟩,h2,h3,_⟩:=h;rcases þ.mp ha with rfl|ha
 ·rw[h1];intro z;cases z
 rcases þ.mp ha with rfl|ha
 ·rw[h2];intro z;cases z
 ·exact Mh h3 ha
def Ex.call(rel:ě K c F H σ ρ)(h:Ex K c F H σ ρ iT iD T D pT pD tb)(g:Gr F H F' H'):Ex K c F' H' σ ρ iT iD T D pT pD tb:=by have hs:=fun{a}=>h.some (a:=a);obtain⟨k1,k2,⟨us,h1,uQ⟩,h2,h3,h4,h5⟩:=h;exact⟨k1,k2,⟨us,g.h _ _ h1,uQ.same g.f T us⟩,g.h _ _ h2,Paired.Hk h3 λx d ⟨xs,vs,q1,q2,q3,q4⟩=>⟨xs,vs,g.f _ _ q1,q2.same g.f d.1 xs,g.h _ _ q3,q4.same g.f d.2 vs⟩,h4,λa ha=>⟨g.out a (hs ha) (h5 a ha).1,(h5 a ha).2.1,rel.jP g.f (h5 a ha).2.2⟩⟩
def ě.uy{a:À}{o:HO}(r:ě K c F H σ ρ)(hF:F a=none)(hB:c.B a=none)(hf:fq F σ ρ a):ě K c F (upd H a o) σ ρ where
 sub:=λb u e=>by
  have hb:b≠a:=λz=>by rw[z,hF]at e;cases e
  rw[î hb];exact r.sub b u e
 base:=λb u e=>by
  have hb:b≠a:=λz=>by rw[z,hB]at e;cases e
  rw[î hb];exact r.base b u e
 f0:=r.f0
 gj:=r.gj
 lent:=λb u e=>by
  have hb:b≠a:=λz=>by rw[z,r.lb a hB]at e;cases e
  rw[î hb];exact r.lent b u e
 lb:=r.lb
 len:=r.len
 slot:=λj s e=>(r.slot j s e).grow (Ù.refl F)<|by
  rintro b u ⟨y,e1,e2⟩ h1 h2 h3;have hb:b≠a:=λz=>by subst z;exact hf j ⟨s,y,e,AU e1,e2⟩
  exact⟨by rw[î hb];exact h1,h2⟩
 sep:=r.sep
def pA{p:Slot->Bool}{s:Slot}{i:Nat}(h:ρ.all p=true)(e:ρ[i]?=some s):p s=true:=by rw[cy]at h;exact h s<|wz e
noncomputable def Ctx.nM(c:Ctx)(A:List À)(H:Hp):Ctx:=⟨λb=>if b∈A then H b else c.B b,c.F₀,c.L,c.S⟩
theorem ě.nM{A:List À}(r:ě K c F H σ ρ)(hA:∀a∈A,H a≠none/\F a=none/\c.B a=none/\fq F σ ρ a)(hp:ρ.all ė=true):ě K (c.nM A H) F H σ ρ where
 sub:=r.sub
 base:=λb u e=>by
  have e':(if b∈A then H b else c.B b)=some u:=e;split at e'
  ·exact e'
  ·exact r.base b u e'
 f0:=r.f0
 gj:=λa h1 h2=>by
  have uQ:(if a∈A then H a else c.B a)≠none:=h1;split at uQ
  ·rename_i q;exact(hA a q).2.1
  ·exact r.gj a uQ h2
 lent:=r.lent
 lb:=fun a h=>by
   have h':(if a∈A then H a else c.B a)=none:=h;split at h'
   ·rename_i q;exact absurd h' (hA a q).1
   ·exact r.lb a h'
 len:=r.len
 slot:=λi s e=>by
  have hs:=pA hp e;have q:=r.slot i s e;cases s with
  |no=>trivial|sh p=>exact q|bw ps=>exact q|ow ps=>obtain⟨a,vs,q1,q2,q3,q4,q5⟩:=q;refine⟨a,vs,q1,q2,q3,?_,q5⟩;show(if a∈A then H a else c.B a)=none;rw[if_neg λz=>(hA a z).2.2.2 i ⟨_,_,e,ļ q1,rfl⟩];exact q4
  |_=>cases hs
 sep:=r.sep
def ě.Bf{A:List À}{H₀:Hp}(r:ě K (c.nM A H₀) F H σ ρ)(hA:∀a∈A,H₀ a≠none/\c.B a=none)(hl:∀a,c.B a=none->c.L a=none)(hp:ρ.all ė=true):ě K c F H σ ρ where
 sub:=r.sub
 base:=λb u e=>r.base b u (by
  show(if b∈A then H₀ b else c.B b)=some u;rw[if_neg λz=>by rw[(hA b z).2]at e;cases e];exact e)
 f0:=r.f0
 gj:=λa h1 h2=>r.gj a (by
  show(if a∈A then H₀ a else c.B a)≠none;rw[if_neg λz=>h1 (hA a z).2];exact h1) h2
 lent:=r.lent
 lb:=hl
 len:=r.len
 slot:=λi s e=>by
  have hs:=pA hp e;have q:=r.slot i s e;cases s with
  |no=>trivial|sh p=>exact q|bw ps=>exact q|ow ps=>
   obtain⟨a,vs,q1,q2,q3,q4,q5⟩:=q;have XZ:(if a∈A then H₀ a else c.B a)=none:=q4;refine⟨a,vs,q1,q2,q3,?_,q5⟩;split at XZ
   ·rename_i z;exact(hA a z).2
   ·exact XZ
  |_=>cases hs
 sep:=r.sep
def ě.lend(r:ě K c F H σ ρ)(hp:ρ.all ė=true)(h:Ex K c F H σ ρ iT iD T D pT pD tb)(n:iT≠iD):ě K (dY F H) F H σ (bc iT iD T D ρ) where
 sub:=r.sub
 base:=Ù.refl H
 f0:=Ù.refl F
 gj:=λ_ _ h=>h
 lent:=λ_ _ e=>aD e
 lb:=fun a e=>by
   cases q:(dY F H).L a with
   |none=>rfl|some u=>have e':H a=none:=e;rw[(aD q).1]at e';cases e'
 len:=by unfold bc;simpa using r.len
 slot:=λi s e=>by
  obtain⟨k1,k2,⟨us,h1,uQ⟩,h2,h3,h4,h5⟩:=h;have L:∀{a u},H a=some u->F a=none->(dY F H).L a=some u:=fun{a u} e1 e2=>by show(match F a with|none=>H a|some _=>none)=some u;rw[e2];exact e1
  unfold bc at e;rcases af e with⟨rfl,rfl,_⟩|⟨hj,e⟩
  ·refine⟨pD,tb.map (·.1),k2,L (by rw[h2,ę];rfl) (h5 pD<|by simp).1,?_⟩;have:∀{Es:List (À×À)}{D':DL},(∀x∈Es,F x.2=none)->Paired (ux K F H) Es D'->Paired (λ(t:À) (d:List PV×List PV)=>∃xs b vs,F t=some (.tup<|xs++[.ref b])/\â K F d.1 xs/\(dY F H).L b=some (.lst vs)/\â K F d.2 vs) (Es.map (·.1)) D':=by
    intro Es D' hn hq
    induction hq with
    |nil=>exact .nil|@cons x d l m q t ih=>obtain⟨xs,vs,q1,q2,q3,q4⟩:=q;exact .cons ⟨xs,x.2,vs,q1,q2,L q3 (hn x<|by simp),q4⟩<|ih λy hy=>hn y<|õ _ hy
   exact this (λx hx=>(h5 x.2<|õ _<|õ _<|Đ.mpr ⟨x,hx,rfl⟩).1) h3
  ·rcases af e with⟨rfl,rfl,_⟩|⟨S_,e⟩
   ·exact⟨pT,us,k1,L h1 (h5 pT<|by simp).1,uQ⟩
   ·rw[ů]at e;cases e0:ρ[i]?with
    |none=>rw[e0]at e;cases e|some s0=>
     rw[e0]at e;have es:qO s0=s:=Ś e;subst es;unfold qO;cases el:eS s0 with
     |none=>trivial|some s1=>obtain⟨v,v1,v2⟩:=sY r (show(ρ[i]?).bind eS=some s1 by rw[e0];exact el);rw[v1];exact(dL.slot v2).1
 sep:=λi j a h1 _=>by
  obtain⟨s',y,q1,_,q2⟩:=h1;have q2:=nE q2;exfalso;have:s'.own=false:=by
   unfold bc at q1;rcases af q1 with⟨_,rfl,_⟩|⟨_,q1⟩
   ·rfl
   ·rcases af q1 with⟨_,rfl,_⟩|⟨_,q1⟩
    ·rfl
    ·rw[ů]at q1;cases e0:ρ[i]?with
     |none=>rw[e0]at q1;cases q1|some s0=>rw[e0]at q1;have es:qO s0=s':=Ś q1;subst es;have hs:=pA hp e0;cases s0<;>first|rfl|cases hs
  rw[this]at q2;cases q2
def vW{A:List À}{a b:À}(h:(a::A).Nodup)(hb:b∈A):b≠a:=λz=>(Ž.mp h).1 (z▸hb)
def Bg{a:À}{o:HO}{tb:List (À×À)}{D:DL}(hn:∀x∈tb,x.2≠a)(h:Paired (ux K F H) tb D):Paired (ux K F<|upd H a o) tb D:=by
 induction h with
 |nil=>exact .nil|@cons x d l m q t ih=>obtain⟨xs,vs,q1,q2,q3,q4⟩:=q;exact .cons ⟨xs,vs,q1,q2,by rw[î<|hn x<|by simp];exact q3,q4⟩<|ih λy hy=>hn y<|õ _ hy
def Ex.put{H2:Hp}{w:WR}{T':List PV}{D':DL}(rel:ě K c F H σ ρ)(h:Ex K c F H σ ρ iT iD T D pT pD tb)(g:Gr F H F' H')(hw:zT K (dY F H).L H F' H' (qa σ w.ix) H2 w)(hp:Aa iT iD w T D=Option.some (T',D')):
 ě K c F' H2 σ ρ/\∃Es,Ex K c F' H2 σ ρ iT iD T' D' pT pD Es:=by
 have Š:=rel.call g;have hs:=fun{a}=>h.some (a:=a);have h0:=h;have h':=Ex.call rel h g;obtain⟨k1,k2,⟨us,h1,uQ⟩,h2,h3,h4,h5⟩:=h';cases w with
 |t k p=>
  unfold Aa at hp;dsimp only at hp;split at hp
  ·rename_i ek;subst ek;cases hp;obtain⟨a,vs,v,w1,w2,w3,w4,rfl⟩:=hw;have ea:pT=a:=by
    have:qa σ k=Option.some (.ref a):=w1;rw[k1]at this;injection this with this
    injection this
   subst ea;obtain⟨f1,f2,f3⟩:=h5 pT (by simp);have ev:us=vs:=by have:=g.h _ _ (aD w2).1;rw[h1]at this;cases this;rfl
   subst ev;refine⟨Š.uy f1 f2 f3,tb,k1,k2,⟨us++[v],ö,â.append uQ<|â.cons w3 â.nil⟩,?_,?_,h4,h5⟩
   ·rw[î<|vW h4<|by simp];exact h2
   ·exact Bg (λx hx=>vW h4<|õ _<|Đ.mpr ⟨x,hx,rfl⟩) h3
  ·cases hp
 |d k ps=>
  unfold Aa at hp;dsimp only at hp;split at hp
  ·rename_i ek;subst ek;cases hp;obtain⟨a,us',t,xs,b,w1,w2,w3,w4,w5,w6,w7,rfl⟩:=hw;have ea:pD=a:=by
    have:qa σ k=Option.some (.ref a):=w1;rw[k2]at this;injection this with this
    injection this
   subst ea;obtain⟨f1,f2,f3⟩:=h5 pD (by simp);have ev:us'=tb.map λx=>.ref x.1:=by have:=g.h _ _ (aD w2).1;rw[h2]at this;cases this;rfl
   subst ev;have hb:∀x∈pT::pD::tb.map (·.2),x≠b:=λx hx z=>hs hx (by rw[z];exact w7);have bD:b≠pD:=λz=>hb pD (by simp) z.symm;refine⟨Š.uy f1 f2 f3,tb++[(t,b)],k1,k2,⟨us,?_,uQ⟩,?_,?_,?_,?_⟩
   ·rw[î<|đ<|vW h4<|by simp];exact h1
   ·rw[ö,Ĝ];rfl
   ·refine tQ (Bg (λx hx=>?_) h3) (.cons ⟨xs,[],w3,w4,by rw[î bD];exact w5,â.nil⟩ .nil);exact vW (Ž.mp h4).2 (Đ.mpr ⟨x,hx,rfl⟩)
   ·rw[Ĝ,<-c_,<-c_,oi];refine⟨h4,by simp,λx hx y hy=>?_⟩;have:y=b:=by simpa using hy
    subst this;exact hb x hx
   ·intro x hx;rw[Ĝ,<-c_,<-c_]at hx;rcases Ů.mp hx with hx|hx
    ·exact h5 x hx
    ·have:x=b:=by simpa using hx
     subst this;exact⟨w6,rel.base.free w7,rel.jP g.f<|rel.fresh w7⟩
  ·cases hp
 |l k p=>
  unfold Aa at hp;dsimp only at hp;split at hp
  ·rename_i ek;subst ek;split at hp
   ·rename_i d hd;cases hp;obtain⟨a,us',t,xs,b,vs,v,w1,w2,w3,w4,w5,rfl⟩:=hw;have ea:pD=a:=by
     have:qa σ k=Option.some (.ref a):=w1;rw[k2]at this;injection this with this
     injection this
    subst ea;obtain⟨Sc,x,rfl,p1,⟨ys,ws,p2,p3,p4,p5⟩⟩:=ut h3 hd;have et:x.1=t:=by
     have:=g.h _ _ (aD w2).1;rw[h2,Ĝ]at this;injection this with this
     injection this with this
     have:=(wH this rfl).2;injection this with this
     injection this
    subst et;have eb:=z_ p2 w3;have hx2:x.2∈pT::pD::(Sc++[x]).map (·.2):=by simp
    obtain⟨f1,f2,f3⟩:=h5 x.2 hx2;subst eb;have ev:ws=vs:=by have:=g.h _ _ (aD w4).1;rw[p4]at this;cases this;rfl
    subst ev;have n1:=vW h4 (show x.2∈pD::(Sc++[x]).map (·.2) by simp);have n2:=vW (Ž.mp h4).2 (show x.2∈(Sc++[x]).map (·.2) by simp);refine⟨Š.uy f1 f2 f3,Sc++[x],k1,k2,⟨us,?_,uQ⟩,?_,?_,h4,h5⟩
    ·rw[î<|đ n1];exact h1
    ·rw[î<|đ n2];exact h2
    ·refine tQ (Bg (λy hy z=>?_) p1)<|.cons ⟨ys,ws++[v],p2,p3,ö,â.append p5<|â.cons w5 â.nil⟩ .nil;have h6:=(Ž.mp (Ž.mp h4).2).2;rw[Ĝ,oi]at h6;exact h6.2.2 y.2 (Đ.mpr ⟨y,hy,rfl⟩) x.2 (by simp) z
   ·cases hp
  ·cases hp
theorem Ex.nM{b:Ć}{F3 H3:Hp}(h:Ex K c F H σ ρ iT iD T D pT pD tb)(r:ě K (c.nM (pT::pD::tb.map (·.2)) H) F3 H3 σ b)(s:Ù F F3)(f0:Ù c.F₀ F):Ex K c F3 H3 σ b iT iD T D pT pD tb:=by
 have hs:=fun{a}=>h.some (a:=a);obtain⟨k1,k2,⟨us,h1,uQ⟩,h2,h3,h4,h5⟩:=h;have up:∀a u,a∈pT::pD::tb.map (·.2)->H a=Option.some u->H3 a=Option.some u:=λa u ha e=>r.base a u (by
  show(if a∈pT::pD::tb.map (·.2)then H a else c.B a)=Option.some u;rw[if_pos ha];exact e)
 have bn:∀a,a∈pT::pD::tb.map (·.2)->(c.nM (pT::pD::tb.map (·.2)) H).B a≠none:=λa ha=>by show(if a∈pT::pD::tb.map (·.2)then H a else c.B a)≠none;rw[if_pos ha];exact hs ha
 have go:∀{Es:List (À×À)}{D':DL},(∀x∈Es,x.2∈pT::pD::tb.map (·.2))->Paired (ux K F H) Es D'->Paired (ux K F3 H3) Es D':=by
  intro Es D' hn hq
  induction hq with
  |nil=>exact .nil|@cons x d l m q t ih=>obtain⟨xs,vs,q1,q2,q3,q4⟩:=q;exact .cons ⟨xs,vs,s _ _ q1,q2.same s d.1 xs,up _ _ (hn x<|by simp) q3,q4.same s d.2 vs⟩<|ih λy hy=>hn y<|õ _ hy
 refine⟨k1,k2,⟨us,up _ _ (by simp) h1,uQ.same s T us⟩,up _ _ (by simp) h2,go (λx hx=>õ _<|õ _<|Đ.mpr ⟨x,hx,rfl⟩) h3,h4,λa ha=>⟨?_,(h5 a ha).2.1,λi q=>?_⟩⟩
 ·refine r.gj a (bn a ha) ?_;cases q:c.F₀ a with
  |none=>exact q|some u=>have:=f0 _ _ q;rw[(h5 a ha).1]at this;cases this
 ·exact bn a ha (r.owned q).2.2
def yB{i:Nat}{s:Slot}(h:ρ.all ė=true)(hs:ė s=true):(ρ.set i s).all ė=true:=by
 rw[cy]at h⊢;intro x hx;rcases List.mem_or_eq_of_mem_set hx with q|q
 ·exact h x q
 ·rw[q];exact hs
def Ex.sets{i:Nat}{v:V}{s:Slot}(h:Ex K c F H σ ρ iT iD T D pT pD tb)(hs:s.own=false)(n1:iT≠i)(n2:iD≠i):Ex K c F H (σ.set i<|Option.some v) (ρ.set i s) iT iD T D pT pD tb:=by obtain⟨k1,k2,h1,h2,h3,h4,h5⟩:=h;exact⟨by rw[tq n1];exact k1,by rw[tq n2];exact k2,h1,h2,h3,h4,λa ha=>⟨(h5 a ha).1,(h5 a ha).2.1,iY hs (h5 a ha).2.2⟩⟩
def CU{i:Nat}{v:V}(h:i<σ.length):qa (σ.set i<|Option.some v) i=Option.some v:=by unfold qa;rw[oa h];rfl
def Ex.start(rel:ě K c F H σ ρ)(lT:iT<ρ.length)(lD:iD<ρ.length)(n:iT≠iD)(h1:H pT=none)(h2:upd H pT (.lst []) pD=none):
 ě K c F (upd (upd H pT<|.lst []) pD<|.lst []) ((σ.set iT<|Option.some<|.ref pT).set iD (Option.some<|.ref pD)) ((ρ.set iT .no).set iD .no)/\Ex K c F (upd (upd H pT<|.lst []) pD<|.lst []) ((σ.set iT<|Option.some<|.ref pT).set iD (Option.some<|.ref pD)) ((ρ.set iT .no).set iD .no) iT iD [] [] pT pD []:=by
 have hl:=rel.len;have r1:=(rel.made (o:=.lst []) h1).put (i:=iT) (x:=Option.some<|.ref pT) (s:=.no) rfl trivial;have r2:=(r1.made (o:=.lst []) h2).put (i:=iD) (x:=Option.some<|.ref pD) (s:=.no) rfl trivial;have ne:pD≠pT:=λz=>by rw[z,ö]at h2;cases h2
 have h3:H pD=none:=by rw[î ne]at h2;exact h2
 refine⟨r2,?_,?_,⟨[],?_,â.nil⟩,ö,.nil,?_,λa ha=>?_⟩
 ·rw[tq n];exact CU (by lia)
 ·exact CU (by simp;lia)
 ·rw[î<|đ ne];exact ö
 ·simp;exact đ ne
 ·have:a=pT\/a=pD:=by simpa using ha
  rcases this with rfl|rfl
  ·exact⟨rel.sub.free h1,rel.base.free h1,iY rfl<|iY rfl<|rel.fresh h1⟩
  ·exact⟨rel.sub.free h3,rel.base.free h3,iY rfl<|iY rfl<|rel.fresh h3⟩
end
section
variable{X:Cx}{cm:String->À}{E:Ċ->XK}{pos:Pos}
def Vg{i j iT iD m:Nat}{s1 s2:í}{tg iter:È}{body tail:List í}{mi:M (List PV)}{mf:MW}{ns:List Nat}{mt:M Fl}(h1:PS X s1 (Hq (Hx DF)<|vj iT))(h2:PS X s2 (Hq (Hx DF)<|vj iD))
 (hp:lH (Ö X.prog X.w) X.A X.env X.xe)(hc:X.calm=true)(hi:PI X tg iter (tI (kk X cm) E mi))(hg:PG X tg (N7 X.K 2<|EK (vj i)<|EK (vj j) N6))(hb:ca X body (qB λL H Q=>Np ns L H λvs H1=>PQ (kk X cm) m mf vs H1 Q<|E L))
 (ht:ca X tail (tS (kk X cm) E mt))(hE:∀L y,E L=E y)(hlen:∀{as:List Slot},mf as≠.bad->as.length=m:=by exact qr)(n1:iT≠iD:=by decide)(n2:iT≠i:=by decide)(n3:iD≠i:=by decide)(n4:iT≠j:=by decide)(n5:iD≠j:=by decide)
 (hs:∀x,cC iter X.env x=ì x:=by intro _;rfl):ca X (s1::s2::.For tg iter body [] pos::tail) (tS (kk X cm) E<|Sb i j iT iD mi (ϵ mf ns) mt):=
 ca.wk (cb h1<|cb h2<|cb (AF hp hc hi hg hb hs) ht)<|by
  rintro D L H ⟨c,F,R,rel,h⟩;unfold Sb at h;split at h
  ·rename_i Q1;obtain⟨hpl,lT,lD⟩:=Q1;refine⟨bu _,λpT hT=>⟨bu _,λpD hD=>?_⟩⟩;obtain⟨ē,Sd⟩:=Ex.start rel lT lD n1 hT hD;have Vh:((R.set iT .no).set iD .no).all ė=true:=yB (yB hpl rfl) rfl;generalize (R.set iT .no).set iD .no=B at*;have pr:∀{F3 H3:Hp}{o:Ċ}{n:Ć}{T:List PV}{D':DL}{tb:List (À×À)},ě (kk X cm) c F3 H3 o n->n.all ė=true->Ex (kk X cm) c F3 H3 o n iT iD T D' pT pD tb->ě (kk X cm) (c.nM (pT::pD::tb.map (·.2)) H3) F3 H3 o n:=λr hp e=>r.nM (λa ha=>⟨e.some ha,e.2.2.2.2.2.2 a ha⟩) hp;refine⟨_,F,B,pr ē Vh Sd,?_⟩;cases em:mi B with
   |bad=>rw[em]at h;exact h.elim|exc x G=>rw[em]at h;exact h.elim|ok items N=>
    rw[em]at h;dsimp only at h;split at h
    ·rename_i PZ;intro J F1 H1 ã X_ _ MX;have ex1:=Sd.nM ã X_ ē.f0;have Vi:ě (kk X cm) c F1 H1 _ N:=ã.Bf (λa ha=>⟨Sd.some ha,(Sd.2.2.2.2.2.2 a ha).2.1⟩) ē.lb PZ;refine⟨λk m' y H'=>∃F2 G T D' tb,k<=items.length/\m'=items.length-k/\ě (kk X cm) c F2 H' y G/\Ù F1 F2/\G.all ė=true/\Ex (kk X cm) c F2 H' y G iT iD T D' pT pD tb/\
      ϻ (kk X cm) E c F2 D ((jU i j iT iD (ϵ mf ns) (items.drop k) G T D').bind λtd B=>(match mt (bc iT iD td.1 td.2 B)with
       |.ok (.rt<|.sh p) _=>.ok (.rt<|.sh p) B|.exc x _=>.exc x B|_=>.bad)),⟨_,F1,N,[],[],[],bu _,rfl,Vi,Ù.refl _,PZ,ex1,ϻ.mono h X_⟩,?_⟩
     rintro k m' o H3 ⟨F3,n,T,D',tb,hle,rfl,fU,Rk,IL,P_,h3⟩;have rp3:=pr fU IL P_;obtain⟨go,stop⟩:=MX _ k F3 H3 o n rp3 Rk λb u e=>(fU.lent b u e).1;by_cases mT:k<items.length
     ·obtain⟨g1,g2⟩:=go items[k] (ţ mT);rw[fI mT]at h3;unfold jU at h3;refine .inr ⟨g1,_,λy H' z=>z,λx H4 hy=>?_⟩;obtain⟨F4,qe,Se,_,rp⟩:=g2 x H4 hy;have ex4:=P_.nM qe Se fU.f0;have JN:ě (kk X cm) c F4 H4 o n:=qe.Bf (λa ha=>⟨P_.some ha,(P_.2.2.2.2.2.2 a ha).2.1⟩) fU.lb IL;cases ep:items[k]with
      |tup qs=>
       rw[ep]at h3 rp;unfold ă at rp;obtain⟨t,xs,rfl,ht,rx⟩:=rp
       match qs,rx,h3 with
       |[q1,q2],rx,h3=>
         unfold â at rx;obtain⟨v1,r',rfl,r1,rx⟩:=rx;unfold â at rx;obtain⟨v2,r'',rfl,r2,rx⟩:=rx;unfold â at rx;subst rx;refine⟨t,[v1,v2],rfl,Ù.tup JN.sub ht,rfl,v1,[v2],rfl,v2,[],rfl,rfl,?_⟩;have AZ:ě (kk X cm) c F4 H4 ((o.set i<|some v1).set j (some v2)) ((n.set i<|.sh q1).set j (.sh q2)):=(JN.put (s:=.sh q1) rfl ⟨v1,rfl,r1⟩).put (s:=.sh q2) rfl ⟨v2,rfl,r2⟩;have X0:=(ex4.sets (i:=i) (v:=v1) (s:=.sh q1) rfl n2 n3).sets (i:=j) (v:=v2) (s:=.sh q2) rfl n4 n5;have P0:((n.set i<|.sh q1).set j (.sh q2)).all ė=true:=yB (yB IL rfl) rfl;generalize (o.set i<|some v1).set j (some v2)=O at*;dsimp only at h3;generalize (n.set i<|.sh q1).set j (.sh q2)=I at*;have Vj:=AZ.lend P0 X0 n1;unfold ϵ at h3;cases el:ko (bc iT iD T D' I) ns with
         |none=>rw[el]at h3;exact h3.elim|some as=>
          rw[el]at h3;dsimp only at h3;obtain⟨vs,X1,v2'⟩:=uw Vj el;refine⟨vs,X1,F4,as,hlen λz=>?_,AZ.sub,v2',?_⟩
          ·rw[z]at h3;exact h3
          ·cases Vk:mf as with
           |bad=>rw[Vk]at h3;exact h3.elim|exc x=>rw[Vk]at h3;exact λC d F' H' g rx=>h3 O C d F' H' (AZ.call g) (Se.trans g.f) rx
           |ok w=>
            rw[Vk]at h3;dsimp only at h3;cases ej:ns[w.ix]?with
            |none=>rw[ej]at h3;exact h3.elim|some i'=>
             rw[ej]at h3;dsimp only at h3;by_cases hok:rh w (bc iT iD T D' I)[i']?=true
             ·rw[if_pos hok]at h3;dsimp only at h3;cases Vl:Aa iT iD (w.to i') T D' with
              |none=>rw[Vl]at h3;exact h3.elim|some td=>
               rw[Vl]at h3;intro F' H' H6 g hw;have ev:vs[w.ix]?=qa O i':=by
                have:=congrArg (λl=>l[w.ix]?) X1;simp only[ů,ej,wT]at this;cases ev:vs[w.ix]?with
                |none=>rw[ev]at this;cases this|some v=>rw[ev]at this;injection this with this;exact this.symm
               rw[ev]at hw;obtain⟨Ig,Es,ex6⟩:=X0.put (w:=w.to i') (T':=td.1) (D':=td.2) AZ g (by rw[JL];exact hw.to) Vl;exact⟨items.length-(k+1),by lia,F',I,td.1,td.2,Es,mT,rfl,Ig,(Rk.trans Se).trans g.f,P0,ex6,ϻ.mono h3<|Se.trans g.f⟩
             ·rw[if_neg hok]at h3;exact h3.elim
       |[],_,h3=>exact h3.elim|[_],_,h3=>exact h3.elim|_::_::_::_,_,h3=>exact h3.elim
      |_=>rw[ep]at h3;exact h3.elim
     ·have e:k=items.length:=by lia
      refine .inl ⟨stop e,?_⟩;rw[gL<|by lia]at h3;refine⟨_,F3,_,fU.lend IL P_ n1,?_⟩;have Ke:ϻ (kk X cm) E c F3 D (match mt (bc iT iD T D' n)with
       |.ok (.rt<|.sh p) _=>.ok (.rt<|.sh p) n|.exc x _=>.exc x n|_=>.bad):=h3
      cases Vm:mt (bc iT iD T D' n)with
      |bad=>rw[Vm]at Ke;exact Ke.elim|exc x P=>rw[Vm]at Ke;exact λy C d F' H' Š s' q=>by rw[hE y o];exact Ke o C d F' H' (fU.call Š.gr) s' q
      |ok fl P=>
       rw[Vm]at Ke;cases fl with
       |rt r=>
        cases r with
        |sh p=>exact λv y F' H' Š s' q=>Ke v o F' H' (fU.call Š.gr) s' q
        |_=>exact Ke.elim
       |_=>exact Ke.elim
    ·exact h.elim
  ·exact h.elim
end
abbrev Vn:=IB 1
section
variable{X:Cx}{elts:List È}{k:Nat}{tp:Pos}
def Mi(K:Î)(ta:TA):TI:=λb H R=>ta b H λvs H1=>∃a,vs=[.ref a]/\(∃xs,Ϫ K H1 a xs)/\R (Vn K a) H1
def P4{M:fK}{A:ê}{E:Á->Ã->Prop}{s:Ã}{pos:Pos}{T:String}{args:List (Bool×Sem Á)}{keywords:List (Option Str×Sem Á)}{Q:Á->Ã->Prop}(nW:args.any (·.1)=false)(hkw:keywords.any (·.1.isNone)=false)
 (h:Ï M A (evalArgs (.type T) true args keywords) (λa s₁=>Ï M A (call (.type T) a.pos a.kw) Q E s₁) E s):Ï M A (g_ pos (.type T) [] args keywords) Q E s:=by
 unfold g_;refine Ò<|lG<|Ϯ h (λa s₁ h₁=>Ò<|oA ?_) λ_ _ x=>x;simp only[nW,hkw,wo];refine Ò<|ĉ ?_;exact Ò<|Ϯ h₁ (λr s₂ hr=>Ò<|lG<|wpAny_point<|ĉ hr) λ_ _ x=>x
def Gg{l:È}{ta:TA}{p pos cp kp:Pos}{j:Nat}(hg:Gl X "enumerate")(hm:X.mg "enumerate"=none)(ha:PA X [l] ta)(hs:Ð [l] X.env=[(false,eval l X.env)]:=by exact Ō rfl):
 PI X (.Tuple elts k tp) (.Call (.Name "enumerate" p) [l] [⟨some "start",.Constant (.int 1) j cp,kp⟩] pos) (Mi X.K ta):=by
 intro Æ s c H R I h;refine lK (qb I hg hm boot_enumerate<|P4 (by rw[hs];rfl) rfl ?_);have h':=ha pos Æ s c H _ I h;rw[hs]at h'⊢;refine evalArgs_kwB rfl<|ώ h' λus s1 ⟨vs,H1,I1,r1,q1⟩=>kws_cons<|ώ (xF Æ s1 c H1 (λx H'=>x=.int 1/\H'=H1) I1 ⟨rfl,rfl⟩) λv s2 ⟨x,H2,I2,r2,e1,e2⟩=>kws_nil ?_;subst e1 e2;obtain⟨t,rfl⟩:=r2;obtain⟨a,e,⟨xs,hq⟩,q⟩:=q1;subst e;obtain⟨u,rfl,ru⟩:=r1.one;cases ru;obtain⟨č,rv,pl,hz⟩:=I2.list hq;refine RU.Pe pl.isList λh' he pY hsz hk=>?_;have I3:Inv X Æ c H2 {s2 with heap:=h'}:=I2.kept (t':=s2.toks) hk;refine xg (s:={s2 with heap:=h'}) he ⟨s2.heap.objs.size+1,[s2.heap.objs.size+1,s2.heap.objs.size],_,_,H2,rfl,I3,vQ 1 a _ _<|Nat.succ_ne_self _,⟨⟨_,he⟩,pY⟩,λb hb=>?_,q⟩;have Hg:s2.heap.objs.size<=b:=by
  rcases þ.mp hb with rfl|hb
  ·exact wN _
  ·have e':b=s2.heap.objs.size:=by simpa using hb
   exact se e'.symm
 exact I2.AC Hg<|I2.hok.fresh Hg
end
@[simp]def Bh(m:M (List PV))(b:Ć):ĵ (List PV):=(m b).bind λps a=>.ok (aa 1 ps) a
section
variable{X:Cx}{cm:String->À}{E:Ċ->XK}{e:È}
def IM{elts:List È}{k j:Nat}{tp p pos cp kp:Pos}{mi:M (List PV)}(hg:Gl X "enumerate")(hm:X.mg "enumerate"=none)(hl:PE X e (tG (kk X cm) E (Ph<|kk X cm) mi))(hs:Ð [e] X.env=[(false,eval e X.env)]:=by exact Ō rfl):
 PI X (.Tuple elts k tp) (.Call (.Name "enumerate" p) [e] [⟨some "start",.Constant (.int 1) j cp,kp⟩] pos) (tI (kk X cm) E<|Bh mi):=λÆ s b H R I h=>Gg hg hm (ϳ hl bZ hs) hs Æ s b H R I (by
 obtain⟨c,F,d,rel,h⟩:=h;refine⟨c,F,d,rel,h.bind λps f v F1 H1 ã s1 s2 q h1=>?_⟩;obtain⟨a,e1,e2,e3⟩:=q;subst e1;exact⟨a,rfl,e2,h1 _ F1 H1 ã Č Č<|uj 1 e3⟩)
end
end P
namespace Sp
open PySem PySem.Builtin PySem.Builtin.Str PySem.StrLaws
abbrev S(l:List Nat):Ϛ:=⟨l.toArray⟩
noncomputable def ń(c:Nat):List Nat->List (List Nat)
 |[]=>[[]]|x::xs=>if x=c then[]::ń c xs else(match ń c xs with
  |[]=>[[x]]|p::ps=>(x::p)::ps)
theorem vY(c:Nat):∀l,∃p ps,ń c l=p::ps
 |[]=>⟨_,_,rfl⟩|x::xs=>by
  unfold ń;split
  ·exact⟨_,_,rfl⟩
  ·split<;>exact⟨_,_,rfl⟩
noncomputable def rj(c:Nat):Nat->List Nat->List Nat
 |_,[]=>[]|k,x::xs=>if x=c then k::rj c (k+1) xs else rj c (k+1) xs
theorem yC(x:Ϛ)(c:Nat):∀(m a:Nat) (st:Array Nat×Nat),a+m=x.length+1->st.1.size<=a->st.2<=a->(forIn (aL a m) st<|occBody x (S [c]) x.length<|x.length+1).run.fst.toList=st.1.toList++rj c a (x.cps.toList.drop a)
 |0,a,st,h,_,_=>by have:x.cps.toList.drop a=[]:=gL (by simp[bC]at h⊢;lia);rw[this];simp[rj]|m+1,a,st,h,h1,h2=>by
  rw[gM,og];unfold occBody;have hl:x.cps.toList.length=x.length:=by simp[bC]
  by_cases ha:a<x.length
  ·have hd:x.cps.toList.drop a=x.cps.toList[a]::x.cps.toList.drop (a+1):=fI (by lia);have hs:subAt x (S [c]) a=decide (x.cps.toList[a]=c):=by
    rw[subAt_eq,hd];show(List.take 1 _==[c])=_;rw[BC,rW,dZ];simp
   by_cases hc:x.cps.toList[a]=c
   ·rw[if_pos ⟨⟨⟨by lia,h2⟩,show a+1<=x.length by lia⟩,by rw[hs];simpa using hc⟩];have ih:=yC x c m (a+1) (st.1.push a,a+1) (by lia) (by simp;lia)<|ø _;refine ih.trans ?_;rw[hd,rj,if_pos hc];simp
   ·rw[if_neg λz=>hc (by have:=z.2;rw[hs]at this;simpa using this)];have ih:=yC x c m (a+1) (st.1,st.2) (by lia) (by show st.1.size<=a+1;lia) (by show st.2<=a+1;lia);refine ih.trans ?_;rw[hd,rj,if_neg hc]
  ·rw[if_neg λz=>ha (by have:=z.1.2;show a<x.length;have e:(S [c]).length=1:=rfl;lia)];have ih:=yC x c m (a+1) (st.1,st.2) (by lia) (by show st.1.size<=a+1;lia) (by show st.2<=a+1;lia);refine ih.trans ?_;have e1:x.cps.toList.drop a=[]:=gL (by lia);have e2:x.cps.toList.drop (a+1)=[]:=gL (by lia);rw[e1,e2];rfl
def Mj(x:Ϛ)(c:Nat):jG x (S [c]) 0 x.length (x.length+1)=rj c 0 x.cps.toList:=by rw[occ_eq,yC x c _ 0 _ (by lia) (ø _)<|ø _];simp
def Gh(x:Ϛ)(i j:Nat):strSub x i j=S ((x.cps.toList.drop i).take (j-i)):=by apply eI;apply Array.toList_inj.mp;rw[strSub_toList]
theorem uz(x:Ϛ)(c:Nat):∀(m a b:Nat),b+m=x.length->a<=b->∀p ps,ń c (x.cps.toList.drop b)=p::ps->partsFrom x 1 a (rj c b<|x.cps.toList.drop b)=S ((x.cps.toList.drop a).take (b-a)++p)::ps.map S
 |0,a,b,h,hab,p,ps,e=>by
  have hl:x.cps.toList.length=x.length:=by simp[bC]
  have:x.cps.toList.drop b=[]:=gL (by lia);rw[this]at e⊢;cases e;show[strSub x a x.length]=_;rw[Gh,show x.length=b by lia];simp
 |m+1,a,b,h,hab,p,ps,e=>by
  have hl:x.cps.toList.length=x.length:=by simp[bC]
  have hd:x.cps.toList.drop b=x.cps.toList[b]::x.cps.toList.drop (b+1):=fI (by lia);obtain⟨q,qs,eq⟩:=vY c<|x.cps.toList.drop<|b+1;rw[hd]at e⊢;rw[ń]at e;rw[rj];by_cases hc:x.cps.toList[b]=c
  ·rw[if_pos hc]at e⊢;cases e;show strSub x a b::partsFrom x 1 (b+1) (rj c (b+1)<|x.cps.toList.drop<|b+1)=_;rw[uz x c m (b+1) (b+1) (by lia) (ø _) q qs eq,Gh,eq];simp
  ·rw[if_neg hc]at e⊢;rw[eq]at e;injection e with e1 e2
   subst e1 e2;rw[uz x c m a (b+1) (by lia) (by lia) q qs eq];congr 2;have:(x.cps.toList.drop a).take (b+1-a)=(x.cps.toList.drop a).take (b-a)++[x.cps.toList[b]]:=by rw[show b+1-a=(b-a)+1 by lia,List.take_succ];congr 1;rw[List.getElem?_drop,show a+(b-a)=b by lia,ţ<|by lia];rfl
   rw[this];simp
theorem CV(c:Nat):∀(l:List Nat) (k:Nat),rj c k l=[]->ń c l=[l]
 |[],k,_=>rfl|x::xs,k,h=>by
  unfold rj at h;split at h
  ·cases h
  ·rename_i hc;unfold ń;rw[if_neg hc,CV c xs (k+1) h]
theorem Ml(c:Nat):∀(l:List Nat),c∉l->ń c l=[l]
 |[],_=>rfl|x::xs,h=>by unfold ń;rw[if_neg λz=>h (by simp[z]),Ml c xs λz=>h<|õ _ z]
def P5{c:Nat}(h:c<256):lV (S [c])=1:=by unfold lV;rw[if_pos<|by simpa using h]
def IN(x:Ϛ):1<=lV x:=by
 unfold lV;split
 ·lia
 ·split<;>lia
def Gj(x:Ϛ){c:Nat}(h:c<256):Txt.split x (S [c])=(ń c x.cps.toList).map S:=by
 have hl:x.cps.toList.length=x.length:=by simp[bC]
 have whole:S x.cps.toList=x:=eI (by simp);have hk:=IN x;unfold Txt.split;split
 ·rename_i h1;rw[P5 h]at h1;have h0:x.length=0:=by
   simp only[gI,decide_eq_true_eq]at h1;have e:(S [c]).length=1:=rfl;lia
  have:x.cps.toList=[]:=rS.mp (by lia);have e:ń c x.cps.toList=[x.cps.toList]:=Ml c _ (by rw[this];simp);rw[e,Ó,ž,whole]
 ·rw[Mj];split
  ·rename_i h2;rw[CV c _ 0 (by simpa using h2),Ó,ž,whole]
  ·obtain⟨p,ps,e⟩:=vY c x.cps.toList;rw[partsBetween_eq];have:=uz x c x.length 0 0 (by lia) (ø _) p ps (by rw[lz];exact e);rw[lz]at this;rw[e];show partsFrom x 1 0 _=_;rw[this];simp
theorem jV(c:Nat):∀(ys:List (List Nat)),ys≠[]->(∀y∈ys,c∉y)->ń c (M4.Ė [c] ys)=ys
 |[],h,_=>absurd rfl h|[x],_,hn=>Ml c x (hn x<|by simp)|x::y::r,_,hn=>by
  have ih:=jV c (y::r) (by simp) λz hz=>hn z<|õ _ hz;have go:∀(x:List Nat),c∉x->ń c (x++[c]++M4.Ė [c] (y::r))=x::y::r:=by
   intro x
   induction x with
   |nil=>intro _;show ń c (c::M4.Ė [c] (y::r))=_;rw[ń,if_pos rfl,ih]|cons a x ihx=>intro h;show ń c (a::(x++[c]++M4.Ė [c] (y::r)))=_;rw[ń,if_neg λz=>h (by simp[z]),ihx λz=>h<|õ _ z]
  exact go x (hn x<|by simp)
theorem uA(c:Nat):∀l,(ń c l).length<=l.length+1
 |[]=>by simp[ń]|x::xs=>by
  have ih:=uA c xs;unfold ń;split
  ·simp;lia
  ·split
   ·simp
   ·rename_i e;rw[e]at ih;simp at ih⊢;lia
end Sp
namespace P
open PySem PySem.Spec PyProof.Rows L2 M2 M3 M4 PySem.Builtin PySem.Builtin.Str
section
variable{prog:ä}{w:Þ}{A:ê}{E:Á->Ã->Prop}{s:Ã}{x y:Ϛ}{t u:Tok}{Q:Á->Ã->Prop}
def IP(hy:(y.length==0)=false)(hq:∀l k,l.map (·.1)=Txt.split x y->Q (.ref s.heap.objs.size) {s with heap:=s.heap.push {cls:=.type "list",data:=.seq (strValues l).toArray},toks:=k})
 (hsz:x.length<=sizeLine)(Xj:(partsBetween x (jG x y 0 x.length<|x.length+1) y.length).length<=sizeLine):Ï (Ö prog w) A (call (.builtin "str.split") [.str x t,.str y u]) Q E s:=by
 cases h1:(decide (x.length<y.length)||decide (lV x<lV y))
 ·cases hf:(jG x y 0 x.length<|x.length+1).isEmpty
  ·refine jE jH (lM _ _ _) xn (xp _ _) (meets_str_split_sep x y t u h1 hy hf hsz Xj) ?_;show wants Q E _ {s with toks:=_,heap:=s.heap.push {cls:=.type "list",data:=.seq (strsFrom s.toks<|partsBetween x (jG x y 0 x.length<|x.length+1) y.length).toArray}};rw[strsFrom_eq];exact hq (numbered s.toks _) _<|(numbered_texts _ _).trans ((if_neg<|ne_true_of_eq_false h1).trans (if_neg<|ne_true_of_eq_false hf)).symm
  ·exact jE jH (lM _ _ _) xn (xp _ _) (meets_str_split_not_found x y t u h1 hy hf)<|hq [(x,t)] s.toks ((if_neg<|ne_true_of_eq_false h1).trans (if_pos hf)).symm
 ·exact jE jH (lM _ _ _) xn (xp _ _) (meets_str_split_cannot_occur x y t u h1)<|hq [(x,t)] s.toks (if_pos h1).symm
end
theorem mF:∀(l:List (Ϛ×Tok)) (ys:List (List Nat)),l.map (·.1)=ys.map S->ĳ (ys.map λy=>V.str<|S y) (strValues l)
 |[],[],_=>.nil|[],_::_,h=>by cases h|_::_,[],h=>by cases h|(a,t)::l,y::ys,h=>by
  rw[Ó,Ó]at h;injection h with h1 h2
  have uQ:a=S y:=h1;subst uQ;exact .cons ⟨t,rfl⟩<|mF l ys h2
def Bi:V->List V->Hp->VK->Prop:=λx xs H Q=>match x,xs with
 |.str z,[.str y]=>∃c,y=S [c]/\c<256/\z.length+2<=16777216/\∀p,H p=none->Q (.ref p) (upd H p<|.lst<|(Sp.ń c z.cps.toList).map λl=>.str<|S l)
 |_,_=>False
def pB{X:Cx}:Nc X "str.split" Bi:=by
 intro Æ s a H x xs v us Q I rx rs h;unfold Bi at h;split at h
 ·rename_i z y;obtain⟨c,rfl,hc,hz,q⟩:=h;obtain⟨t,rfl⟩:=rx;obtain⟨u,rfl,ru⟩:=vals1 rs;obtain⟨t',rfl⟩:=ru;have hl:z.cps.toList.length=z.length:=by simp[bC]
  refine IP rfl (λl k e=>?_) (by rw[cD];lia) (by rw[length_partsBetween,cD];have:=StrLaws.occ_length_le z (S [c]) 0 z.length<|z.length+1;lia);rw[Sp.Gj z hc]at e;have hn:(strValues l).length<=sizeLine:=by have:=(mF l _ e).length;rw[<-this,Ę,cD];have:=Sp.uA c z.cps.toList;lia
  refine⟨.ref s.heap.objs.size,_,I.laid (o:=.lst<|(Sp.ń c z.cps.toList).map λl=>.str<|S l) (t':=k) (λb u q=>Ă _ q) (ø _) ⟨?_,strValues l,0,mF l _ e,į _ rfl⟩,rfl,q _ I.fresh⟩;rw[(mF l _ e).length];exact hn
 ·exact h.elim
def X2(K:KK)(r:V->List V->Hp->VK->Prop)(f:PV->List PV->Option RV):Prop:=∀{c:Ctx}{F H:Hp}{a:Ċ}{b:Ć}{p:PV}{ps:List PV}{pv:RV}{v:V}{vs:List V}{Q:VK},ě K c F H a b->rR K c a b F H p v->Lj K c a b F H ps vs->f p ps=some pv->
 (∀z F' H',ě K c F' H' a b->Ù F F'->Ù H H'->rO K c a b F' H' pv z->Q z H')->r v vs H Q
@[simp]def yD(f:PV→List PV→Option RV)(mo:M PV)(ms:M (List PV))(c:Ć):ĵ RV:=(mo c).bind fun p a=>match p with
  |.str _=>(ms a).bind λps b=>ĵ.zp (f p ps) b
  |_=>.bad
noncomputable def Eb:Ϛ->Option Nat:=λy=>match y.cps.toList with
 |[c]=>some c|_=>none
def dU:PV->List PV->Option RV
 |.str z,[.str y]=>(Eb y).bind λc=>if c<256/\z.length+2<=16777216then some (.ow<|(Sp.ń c z.cps.toList).map λl=>.str<|S l)else none
 |_,_=>none
theorem vZ{K:KK}{F:Hp}:∀ys:List (List Nat),â K F (ys.map λl=>.str<|S l)<|ys.map λl=>.str<|S l
 |[]=>â.nil|y::ys=>â.cons ă.str<|vZ ys
def pC{K:KK}:X2 K Bi dU:=by
 intro c F H a b p ps pv v vs Q rel r1 r2 e k;unfold dU at e;split at e
 ·rename_i z y;cases r1.str;obtain⟨u,rfl,r3⟩:=uZ r2;cases r3.str;obtain⟨c',ec,e⟩:=oq.mp e;split at e
  ·rename_i hz;cases e;have ey:y=S [c']:=by
    unfold Eb at ec;split at ec
    ·rename_i c2 e2;cases ec;exact eI (by rw[show y.cps=y.cps.toList.toArray by simp,e2])
    ·cases ec
   refine⟨c',ey,hz.1,hz.2,λq hq=>?_⟩;obtain⟨a1,a2⟩:=gn rel hq<|vZ (K:=K) (F:=F)<|Sp.ń c' z.cps.toList;exact k _ F _ a1 Č (Ù.upd hq) a2
  ·cases e
 ·cases e
section
variable{X:Cx}{cm:String->À}{K:KK}{E:Ċ->XK}{o e:È}{es:List È}{name:Str}{dI gf pos:Pos}{id:String}{r:V->List V->Hp->VK->Prop}{f:PV->List PV->Option RV}{mo m:M PV}{ms:M (List PV)}
def IQ(pa:PlainAttrs "str")(slot:PySem.Slot "str" name id)(lm:typeOf (.builtin id)=ì (.type "method_descriptor"))(hf:X2 (kk X cm) r f)(hm:Nc X id r)(ho:PE X o (tR (kk X cm) E mo))(ha:PA X (e::es) (G2 (kk X cm) E ms))
 (jq:dh o name X.env (eval o X.env)=eval o X.env:=by kernel_rfl)
 (qA:((Ĉ gf<|Ð (e::es) X.env).all (fun x=>!x.1)&&(bv gf<|bz [] X.env).all (fun x=>x.1.isSome)
   &&decide ((e::es).length+([]:List ϯ).length+(if([]:List ϯ).isEmpty then 0 else 1)<30))=true:=by rfl)
 (jr:(dI.endLine==gf.line)=true:=by rfl)(hs:Ð (e::es) X.env=(false,eval e X.env)::Ð es X.env:=by exact Ō rfl)(nW:(Ĉ gf<|Ð es X.env).any (·.1)=false:=by kernel_rfl):
 PE X (.Call (.Attribute o name dI) (e::es) [] gf) (tO (kk X cm) E<|yD f mo ms):=
 PE.wk (fk pa slot lm hm ho ha jq qA jr hs nW) fun g H Q ⟨c,F,b,rel,h⟩=>⟨c,F,b,rel,ϴ.bind h fun p a v F1 H1 ã _ _ r1 h1=>by
   cases p with
   |str z=>
    cases r1.str;refine⟨rfl,c,F1,a,ã,ϴ.bind h1 λps d vs F2 H2 ē sF sH r2 h2=>?_⟩;cases ef:f (.str z) ps with
    |none=>rw[ef]at h2;exact h2.elim|some pv=>rw[ef]at h2;exact hf ē (.inl<|ă.str (K:=kk X cm) (F:=F2)) r2 ef λz F' H' Š s1 s2 q'=>h2 z F' H' Š s1 s2 q'
   |_=>exact h1.elim⟩
def Ec(m:M PV):M PV:=λb=>(m b).bind λp a=>match p with
 |.str x=>if x.length<=16777216then .ok (.str x) a else .bad|.int i=>if i.natAbs.log2<1920then .ok (.str<|bF i) a else .bad|_=>.bad
def JO(he:PE X e (tV (kk X cm) E m)):PE X (.FormattedValue e (-1) none pos) (tV (kk X cm) E<|Ec m):=by
 rintro Æ s a H Q I ⟨c,F,b,rel,h⟩;refine FormattedValue_plain<|ώ (he Æ s a H (λv H1=>(∃x,v=.str x/\x.length<=16777216/\Q (.str x) H1)\/∃i:Int,v=.int i/\i.natAbs.log2<1920/\Q (.str<|bF i) H1) I ⟨c,F,b,rel,ϴ.bind h λp d v F1 H1 ã _ _ r1 h1=>?_⟩) λv s1 ⟨x,H1,I1,r1,q1⟩=>?_
 ·cases p with
  |str x=>
   have ev:v=.str x:=by have kA:ă (kk X cm) F1 (.str x) v:=r1;unfold ă at kA;exact kA
   dsimp only at h1;split at h1
   ·rename_i hz;exact .inl ⟨x,ev,hz,h1 _ F1 H1 ã Č Č ă.str⟩
   ·exact h1.elim
  |int i=>
   have ev:v=.int i:=by have kA:ă (kk X cm) F1 (.int i) v:=r1;unfold ă at kA;exact kA
   dsimp only at h1;split at h1
   ·rename_i hz;exact .inr ⟨i,ev,hz,h1 _ F1 H1 ã Č Č ă.str⟩
   ·exact h1.elim
  |_=>exact h1.elim
 ·rcases q1 with⟨y,rfl,hz,q⟩|⟨i,rfl,hz,q⟩
  ·obtain⟨t,rfl⟩:=r1;exact formatField_str (λt' tk=>⟨.str y,H1,I1.tok _,⟨t',rfl⟩,q⟩) (by rw[cD];exact hz)
  ·obtain⟨t,rfl⟩:=r1;exact formatField_int_small hz ⟨.str<|bF i,H1,I1.tok _,⟨_,rfl⟩,q⟩
noncomputable def IS:List (M PV)->Ϛ->M PV
 |[],out=>λρ=>.ok (.str out) ρ
 |m::ms,out=>λρ=>(m ρ).bind λp ρ1=>match p with
  |.str y=>if(out++y).length<=16777216then IS ms (out++y) ρ1 else .bad|_=>.bad
def PJ(X:Cx)(cm:String->À)(E:Ċ->XK)(es:List È)(ms:List (M PV)):Prop:=∀out Æ s a H Q,out.length<=sizeLine->Inv X Æ a H s->tV (kk X cm) E (IS ms out) a H Q->Ï (Ö X.prog X.w) X.A (joinParts out<|oG es X.env) (EP X Æ a Q) X.xe s
def Mm:PJ X cm E [] []:=λout Æ s a H Q hz I ⟨c,F,b,rel,h⟩=>joinParts_nil ⟨.str out,H,I.tok _,⟨_,rfl⟩,h _ F H rel Č Č ă.str⟩ hz
def yE{ms:List (M PV)}(he:PE X e (tV (kk X cm) E m))(hr:PJ X cm E es ms)(hs:oG (e::es) X.env=eval e X.env::oG es X.env:=by rfl):PJ X cm E (e::es) (m::ms):=by
 rintro out Æ s a H Q hz I ⟨c,F,d,rel,h⟩;rw[hs];refine joinParts_cons<|ώ (he Æ s a H (λv H1=>∃y,v=.str y/\(out++y).length<=16777216/\tV (kk X cm) E (IS ms<|out++y) a H1 Q) I ⟨c,F,d,rel,ϴ.bind h λp b v F1 H1 ã _ _ r1 h1=>?_⟩) λv s1 ⟨x,H1,I1,r1,y,e1,Q2,q1⟩=>?_
 ·cases p with
  |str y=>
   have ev:v=.str y:=by have kA:ă (kk X cm) F1 (.str y) v:=r1;unfold ă at kA;exact kA
   dsimp only at h1;split at h1
   ·rename_i Q2;exact⟨y,ev,Q2,c,F1,b,ã,h1⟩
   ·exact h1.elim
  |_=>exact h1.elim
 ·subst e1;obtain⟨t,rfl⟩:=r1;have Jk:(out++y).length<=sizeLine:=by rw[cD];exact Q2
  exact⟨Jk,hr (out++y) Æ s1 a H1 Q Jk I1 q1⟩
def Vo{e2:È}{m2:M PV}{ms:List (M PV)}(h:PJ X cm E (e::e2::es) (m::m2::ms))(hs:oG (e::e2::es) X.env=eval e X.env::eval e2 X.env::oG es X.env:=by rfl):PE X (.JoinedStr (e::e2::es) pos) (tV (kk X cm) E<|IS (m::m2::ms) fQ):=λÆ s a H Q I hq=>by refine JoinedStr_many ?_;rw[<-hs];exact h fQ Æ s a H Q (by decide) I hq
@[simp]theorem Mn{b:Ć}:Ec m b=(m b).bind fun p a=>match p with
  |.str x=>if x.length<=16777216then .ok (.str x) a else .bad|.int i=>if i.natAbs.log2<1920then .ok (.str<|bF i) a else .bad|_=>.bad:=rfl
@[simp]theorem Gk{out:Ϛ}{a:Ć}:IS [] out a=.ok (.str out) a:=rfl
@[simp]theorem Gm{ms:List (M PV)}{out:Ϛ}{b:Ć}:IS (m::ms) out b=(m b).bind fun p a=>match p with
  |.str y=>if(out++y).length<=16777216then IS ms (out++y) a else .bad|_=>.bad:=rfl
end
section
variable{X:Cx}{K:KK}
def JP:List V->Hp->VK->Prop:=λxs H Q=>FM xs H Q\/∃z n,xs=[.str z]/\oH z=some n/\z.length<=640/\Q (.int n) H
def CW:Ŗ X (.type "int") JP:=by
 intro Æ s a H vs us Q I r h;rcases h with h|⟨z,n,rfl,h1,h2,q⟩
 ·exact LG Æ s a H vs us Q I r h
 ·obtain⟨u,rfl,ru⟩:=vals1 r;obtain⟨t,rfl⟩:=ru;exact PySem.W.KIN.call_text h1 h2 ⟨.int n,H,I.tok _,⟨_,rfl⟩,q⟩
def iZ:List PV->Option PV
 |[.str z]=>if z.length<=640then(oH z).map .int else none|ps=>zF ps
def CY:eU K JP iZ:=by
 intro c F H a b ps pv vs Q rel r e k;unfold iZ at e;split at e
 ·rename_i z;split at e
  ·rename_i hz;obtain⟨n,e1,rfl⟩:=eB.mp e;obtain⟨v,rfl,r1⟩:=uZ r;cases r1.str;exact .inr ⟨z,n,rfl,e1,hz,k _ F H rel Č Č ă.int⟩
  ·cases e
 ·exact .inl<|LH rel r e k
def JQ:List V->Hp->VK->Prop:=λxs H Q=>FN xs H Q\/∃z,xs=[.str z]/\Q (.str z) H
def mG:Ŗ X (.type "str") JQ:=by
 intro Æ s a H vs us Q I r h;rcases h with h|⟨z,rfl,q⟩
 ·exact LI Æ s a H vs us Q I r h
 ·obtain⟨u,rfl,ru⟩:=vals1 r;obtain⟨t,rfl⟩:=ru;exact PySem.P.str_of_str ⟨.str z,H,I,⟨t,rfl⟩,q⟩
def cS:List PV->Option PV
 |[.str z]=>some<|.str z|ps=>Iv ps
def mH:eU K JQ cS:=by
 intro c F H a b ps pv vs Q rel r e k;unfold cS at e;split at e
 ·cases e;obtain⟨v,rfl,r1⟩:=uZ r;cases r1.str;exact .inr ⟨_,rfl,k _ F H rel Č Č ă.str⟩
 ·exact .inl<|LJ rel r e k
@[simp]theorem P6{z:Ϛ}:iZ [.str z]=if z.length<=640then(oH z).map .int else none:=rfl
@[simp]theorem P7{i:Int}:iZ [.int i]=some (.int i):=rfl
@[simp]theorem P8{i:Bool}:iZ [.bl i]=some (.int<|if i then 1 else 0):=rfl
@[simp]theorem P9{z:Ϛ}:cS [.str z]=some (.str z):=rfl
@[simp]theorem Gn{i:Int}:cS [.int i]=if i.natAbs.log2<1920then some (.str<|bF i)else none:=rfl
end
noncomputable def CZ(mb:M Fl):M Fl:=λρ=>match mb ρ with
 |.ok f ρ1=>.ok f ρ1|_=>.bad
@[simp]theorem Sf{mb:M Fl}{b:Ć}:CZ mb b=(match mb b with
  |.ok f a=>.ok f a|_=>.bad):=rfl
section
variable{X:Cx}{cm:String->À}{E:Ċ->XK}
def Mo{body:List í}{h0:oE}{hs:List oE}{pos:Pos}{mb:M Fl}
 (hb:∀(xe:Á->Ã->Prop) (Æ:List (À×Obj)) (Et:Ċ->XK),ca (D3 X xe Æ) body<|tS (kk X cm) Et mb):PS X (.Try body (h0::hs) [] [] pos) (tS (kk X cm) E<|CZ mb):=by
 rintro Æ s b H D I ⟨c,F,d,rel,h⟩;refine wpAny_Try_except ?_;have J:Inv (D3 X (λe s₁=>Ï (Ö X.prog X.w) X.A (noteFrame e X.env) (λ_ s₂=>Ï (Ö X.prog X.w) X.A (setFlight e none) (λ_ s₃=>Ï (Ö X.prog X.w) X.A (handleBy e X.env (h0::hs)) (SP X Æ D) X.xe s₃) X.xe s₂) X.xe s₁) Æ) [] b H s:=Inv.O4 I;refine ώ (hb _ Æ (λ_ _ _ _=>False) [] s b H D J ⟨c,F,d,rel,?_⟩) λf s1 q=>?_
 ·unfold CZ at h;cases em:mb d with
  |bad=>rw[em]at h;exact h|exc x a=>rw[em]at h;exact h.elim|ok f a=>rw[em]at h;cases f<;>exact h
 ·have q':=SP.vM q;cases f with
  |next=>exact oy q'|brk=>exact q'|cont=>exact q'|ret u=>exact q'
end
end P
namespace Sp
open PySem PySem.Builtin PySem.Builtin.Str PySem.StrLaws
def Qa(x:Ϛ)(c:Nat):(!(jG x (S [c]) 0 x.length 1).isEmpty)=decide (c∈x.cps.toList):=by
 have hl:x.cps.toList.length=x.length:=by simp[bC]
 have h:=occ_none x (S [c]) x.length (aL 0<|x.length+1) 0<|λ_ _=>bu _;have e:(jG x (S [c]) 0 x.length 1).isEmpty=true↔¬c∈x.cps.toList:=by
  rw[occ_eq];rw[List.isEmpty_iff,Array.toList_eq_nil_iff];refine h.trans ?_;have hs:∀i,(hi:i<x.length)->(subAt x (S [c]) i=true↔x.cps.toList[i]'(by lia)=c):=λi hi=>by rw[subAt_eq,fI<|by lia];show((List.take 1 _==[c])=true)↔_;rw[BC,rW];simp
  constructor
  ·intro q z;obtain⟨i,hi,e⟩:=wI z;exact q i (by simp;lia) ⟨show i+1<=x.length by lia,(hs i<|by lia).mpr e⟩
  ·rintro q i _ ⟨z1,z2⟩;have z1':i+1<=x.length:=z1;exact q ((hs i<|by lia).mp z2▸Œ _)
 cases q:(jG x (S [c]) 0 x.length 1).isEmpty with
 |true=>have:=e.mp q;simp[this]|false=>
  have:c∈x.cps.toList:=Bw λz=>by rw[e.mpr z]at q;cases q
  simp[this]
end Sp
namespace P
open PySem PySem.Spec PyProof.Rows L2 M2 M3 M4
def Vp:R2:=λx y H Q=>∃c z,x=.str (S [c])/\y=.str z/\Q (.bl<|decide<|c∈z.cps.toList) H
def Ev(p q:PV):Option PV:=match p,q with
 |.str y,.str z=>(Eb y).map λc=>.bl<|decide<|c∈z.cps.toList
 |_,_=>Dg false p q
def Qb(K:Î):R2:=λx y H Q=>Vp x y H Q\/IH K false x y H Q
section
variable{X:Cx}{K:KK}
def yF(hu:X.A.units+64<Ń):ae X (ĭ .In) (Qb X.K):=by
 intro Æ s a H x y v u Q I rx ry h;rcases h with⟨c,z,rfl,rfl,q⟩|h
 ·obtain⟨t,rfl⟩:=rx;obtain⟨t',rfl⟩:=ry;refine in_str ?_;rw[Sp.Qa z c];exact⟨.bl _,H,I,rfl,q⟩
 ·exact LW hu Æ s a H x y v u Q I rx ry h
def yG:kB K (Qb K.K) Ev:=by
 intro c F H a b p q pv v u Q rel r1 r2 e k;unfold Ev at e;split at e
 ·rename_i y z;obtain⟨c',ec,rfl⟩:=eB.mp e;cases r1.str;cases r2.str;have ey:y=S [c']:=by
   unfold Eb at ec;split at ec
   ·rename_i c2 e2;cases ec;exact eI (by rw[show y.cps=y.cps.toList.toArray by simp,e2])
   ·cases ec
  exact .inl ⟨c',z,by rw[ey],rfl,k _ F H rel Č Č ă.bl⟩
 ·exact .inr<|F0 rel r1 r2 e k
end
@[simp]theorem Vq{c:Nat}{z:Ϛ}:Ev (.str ⟨#[c]⟩) (.str z)=some (.bl<|decide<|c∈z.cps.toList):=rfl
@[simp]theorem Sg{p:PV}{ps:List PV}:Ev p (.lst ps)=Dg false p (.lst ps):=by cases p<;>rfl
@[simp]theorem Sh{p:PV}{ps:List PV}:Ev p (.tup ps)=Dg false p (.tup ps):=by cases p<;>rfl
mutual
def nN(K:Î)(cm:String->À):PV->Á->Bool
 |.int i,v=>match v with
   |.int j _=>decide<|i=j|_=>false
 |.cls C,v=>match v with
   |.ref a=>decide<|a=cm C|_=>false
 |.tup ps,v=>match v with
   |.ref a=>match K.lookup a with
     |some o=>(match o.cls with
      |.type t=>decide<|t="tuple"|_=>false)&&match o.data with
      |.seq č _=>decide (č.size<=16777216)&&Ab K cm ps č.toList|_=>false
     |none=>false
   |_=>false
 |_,_=>false
def Ab(K:Î)(cm:String->À):List PV->List Á->Bool
 |[],vs=>vs.isEmpty|p::ps,vs=>match vs with
  |v::r=>nN K cm p v&&Ab K cm ps r|[]=>false
end
mutual
theorem Ac{K:KK}:∀(p:PV) (v:Á),nN K.K K.cm p v=true->∃x,RelV x v/\∀F,ă K F p x
 |.int i,v,h=>by
   unfold nN at h;split at h
   ·rename_i j t;have:=of_decide_eq_true h;subst this;exact⟨.int i,⟨t,rfl⟩,λF=>by unfold ă;rfl⟩
   ·cases h
 |.cls C,v,h=>by
   unfold nN at h;split at h
   ·rename_i a;have:=of_decide_eq_true h;subst this;exact⟨.ref<|K.cm C,rfl,λF=>by unfold ă;rfl⟩
   ·cases h
 |.tup ps,v,h=>by
   unfold nN at h;split at h
   ·rename_i a;split at h
    ·rename_i o ho;rw[ú]at h;obtain⟨h1,h2⟩:=h;split at h1
     ·rename_i t ht;have et:=of_decide_eq_true h1;subst et;split at h2
      ·rename_i č n hd;rw[ú]at h2;obtain⟨xs,h3,h4⟩:=v_ ps č.toList h2.2;refine⟨.ref a,rfl,λF=>?_⟩;unfold ă;exact⟨a,xs,rfl,.inr ⟨o,č,n,ho,ht,hd,by rw[Ē];exact of_decide_eq_true h2.1,h3⟩,h4 F⟩
      ·cases h2
     ·cases h1
    ·cases h
   ·cases h
 |.non,_,h=>by unfold nN at h;cases h|.bl _,_,h=>by unfold nN at h;cases h|.str _,_,h=>by unfold nN at h;cases h|.lst _,_,h=>by unfold nN at h;cases h|.ins _ _ _,_,h=>by unfold nN at h;cases h|.xc _ _ _,_,h=>by unfold nN at h;cases h|.ty _,_,h=>by unfold nN at h;cases h|.zn _ _,_,h=>by unfold nN at h;cases h
theorem v_{K:KK}:∀(ps:List PV) (vs:List Á),Ab K.K K.cm ps vs=true->∃xs,ĳ xs vs/\∀F,â K F ps xs
 |[],vs,h=>by
   unfold Ab at h;cases vs with
   |nil=>exact⟨[],.nil,λF=>â.nil⟩
   |cons _ _=>cases h
 |p::ps,vs,h=>by
  unfold Ab at h;cases vs with
  |nil=>cases h|cons v r=>rw[ú]at h;obtain⟨x,h1,h2⟩:=Ac p v h.1;obtain⟨xs,h3,h4⟩:=v_ ps r h.2;exact⟨x::xs,.cons h1 h3,λF=>â.cons (h2 F)<|h4 F⟩
end
noncomputable def Ed(K:Î)(cm:String->À):List (Str×PV)->List gZ->Bool
 |[],es=>es.isEmpty|(x,p)::t,es=>match es with
  |e::r=>eJ x e.key&&nN K cm p e.val&&Ed K cm t r|[]=>false
theorem uB{K:Î}{cm:String->À}(z:Str):∀{am:List (Str×PV)}{es:List gZ},Ed K cm am es=true->(am.lookup z=none/\(es.find? λe=>eJ z e.key)=none)\/∃p e,am.lookup z=some p/\(es.find? λe=>eJ z e.key)=some e/\nN K cm p e.val=true
 |[],es,h=>by
   unfold Ed at h;cases es with
   |nil=>exact .inl ⟨rfl,rfl⟩|cons _ _=>cases h
 |(x,p)::t,es,h=>by
  unfold Ed at h;cases es with
  |nil=>cases h|cons e r=>
   dsimp only at h;rw[ú,ú]at h;obtain⟨⟨h1,h2⟩,h3⟩:=h;by_cases hz:z=x
   ·subst hz;exact .inr ⟨p,e,by simp,by simp[h1],h2⟩
   ·have n1:eJ z e.key=false:=by
     cases q:eJ z e.key with
     |false=>rfl|true=>exact absurd (Value.isStrOf_inj _ _ _ q h1) hz
    have n2:(z==x)=false:=by simpa using hz
    rcases uB z h3 with⟨q1,q2⟩|⟨p',e',q1,q2,q3⟩
    ·exact .inl ⟨by rw[Ř,n2];exact q1,by rw[da,n1];exact q2⟩
    ·exact .inr ⟨p',e',by rw[Ř,n2];exact q1,by rw[da,n1];exact q2,q3⟩
def yH(K:Î)(cm:String->À)(P:gX)(a:À)(am:List (Str×PV)):Prop:=∃es n,K.lookup a=some ⟨.type "dict",none,.dict es n,#[]⟩/\PySem.W.KeysLit P es.toList/\Ed K cm am es.toList=true/\(a==cA)=false
noncomputable def Go(nm:String)(am:List (Str×PV)):PV->PV->Option PV
 |.str z,.cls n=>if n=nm then some (.bl<|!(am.lookup z).isSome)else none|_,_=>none
noncomputable def Gp(nm:String)(am:List (Str×PV)):PV->PV->Option PV
 |.cls n,.str z=>if n=nm then am.lookup z else none|_,_=>none
def JR(a:À)(am:List (Str×PV)):R2:=λx y H Q=>∃z,x=.str z/\y=.ref a/\Q (.bl<|!(am.lookup z).isSome) H
def JS(K:KK)(a:À)(am:List (Str×PV)):R2:=λx y H Q=>∃z p,x=.ref a/\y=.str z/\am.lookup z=some p/\∀v,(∀F,ă K F p v)->Q v H
def qP(z:Str)(es:Array gZ):findBy eJ es z=(es.toList.find? λe=>eJ z e.key).map (·.val):=by obtain⟨l⟩:=es;unfold findBy;rw[List.find?_toArray]
section
variable{X:Cx}{cm:String->À}{a:À}{am:List (Str×PV)}{nm:String}
def IT(h:yH X.K cm X.w.params a am):ae X (ĭ .NotIn) (JR a am):=by
 intro Æ s b H x y v u Q I rx ry hq;obtain⟨z,rfl,rfl,q⟩:=hq;obtain⟨t,rfl⟩:=rx;cases ry;obtain⟨es,n,h1,h2,h3,h4⟩:=h;refine wpAny_notIn_of (strKind_is X.prog X.w z t) h4 (PySem.W.mapOf_K (prog:=X.prog) I.yW h1 h2) ⟨.bl _,H,I.tok _,rfl,?_⟩;have e:(findBy eJ es z).isSome=(am.lookup z).isSome:=by rw[qP];rcases uB z h3 with⟨q1,q2⟩|⟨p,e,q1,q2,q3⟩<;>rw[q1,q2]<;>rfl
 rw[e];exact q
def Mp(h:yH X.K cm X.w.params a am):Aq X (JS (kk X cm) a am):=by
 intro value slice Æ s b H x y v u Q I rx ry hq hs;obtain⟨z,p,rfl,rfl,hl,q⟩:=hq;cases rx;obtain⟨t,rfl⟩:=ry;obtain⟨es,n,h1,h2,h3,h4⟩:=h;have hm:=PySem.W.mapOf_K (prog:=X.prog) (w:=X.w) I.yW h1 h2;rcases uB z h3 with⟨q1,q2⟩|⟨p',e,q1,q2,q3⟩
 ·rw[q1]at hl;cases hl
 ·rw[q1]at hl;cases hl;obtain⟨x,r1,r2⟩:=Ac (K:=kk X cm) p e.val q3;refine tail_any hm.typeIs slot_dict_getitem.lookup (wpAny_getItem_of (strKind_is X.prog X.w z t) hm (v:=e.val) ?_ ⟨x,H,I.tok _,r1,q x r2⟩) hs;rw[qP,q2];rfl
def IU(ha:cm nm=a):kB (kk X cm) (JR a am) (Go nm am):=by
 intro c F H b d p q pv v u Q rel r1 r2 e k;unfold Go at e;split at e
 ·rename_i z n;split at e
  ·rename_i hn;subst hn;cases e;cases r1.str;have r2':u=.ref (cm n):=by
    rcases r2 with r2|r2
    ·unfold ă at r2;exact r2
    ·exact r2.elim
   subst r2';exact⟨z,rfl,by rw[ha],k _ F H rel Č Č (by unfold ă;rfl)⟩
  ·cases e
 ·cases e
def IV(ha:cm nm=a):kB (kk X cm) (JS (kk X cm) a am) (Gp nm am):=by
 intro c F H b d p q pv v u Q rel r1 r2 e k;unfold Gp at e;split at e
 ·rename_i n z;split at e
  ·rename_i hn;subst hn;cases r2.str;have kA:v=.ref (cm n):=by
    rcases r1 with r1|r1
    ·unfold ă at r1;exact r1
    ·exact r1.elim
   subst kA;exact⟨z,pv,by rw[ha],rfl,e,λx hx=>k x F H rel Č Č<|hx F⟩
  ·cases e
 ·cases e
end
def C_(X:Cx)(cm:String->À)(CX:ia)(k n:Nat)(C:String)(mf:MF):Prop:=∃fd ps,bE X.K (.ref<|cm C)=true/\b_ X.prog X.w X.K X.mg X.base CX k (cm C) fd ps (vE (kk X cm) n mf)/\Binds X.K fd ps []/\
 ∀{ps:List Slot},(∃r,mf ps=r/\∀z,r=z->z≠.bad)->ps.length=n
@[simp]def IW(am:List (String×MF))(mo:M PV)(ms:M (List Slot))(c:Ć):ĵ RV:=(mo c).bind fun p b=>match p with
  |.cls C=>(match am.lookup C with
    |some mf=>(ms b).bind λas a=>match mf as with
     |.ret r=>.ok r a|.exc x=>.exc x a|.bad=>.bad
    |none=>.bad)
  |_=>.bad
section
variable{X:Cx}{cm:String->À}{E:Ċ->XK}{CX:ia}{k n:Nat}{am:List (String×MF)}{m:M PV}{ms:M (List Slot)}{o e:È}{es:List È}{pos:Pos}
def IX{c:Ctx}{F H:Hp}{a:Ċ}{d:Ć}{Q:VK}(h:ϴ (kk X cm) E (rO<|kk X cm) c F H a Q (IW am m ms d))(nK:uh (λC mf=>C_ X cm CX k n C mf) am):
 ϴ (kk X cm) E (rV<|kk X cm) c F H a (λx H1=>∃g fd ps mf,x=.ref g/\bE X.K (.ref g)=true/\b_ X.prog X.w X.K X.mg X.base CX k g fd ps (vE (kk X cm) n mf)/\Binds X.K fd ps []/\
  tA (kk X cm) E ms a H1 λvs H2=>vE (kk X cm) n mf vs H2 Q<|E a) (m d):=
 ϴ.bind h λp b v F1 H1 ã _ _ r1 h1=>by
  cases p with
  |cls C=>
   dsimp only at h1;cases el:am.lookup C with
   |none=>rw[el]at h1;exact h1.elim|some mf=>rw[el]at h1;dsimp only at h1;obtain⟨fd,qs,k2,k3,k4,k5⟩:=nK.get el;have kA:ă (kk X cm) F1 (.cls C) v:=r1;unfold ă at kA;subst kA;exact⟨_,fd,qs,mf,rfl,k2,k3,k4,c,F1,b,ã,ϴ.bind h1 λas f vs F2 H2 ē sF sH r3 h3=>t_ k5 ē r3 h3⟩
  |_=>exact h1.elim
def Qc(nK:uh (λC mf=>C_ X cm CX k n C mf) am)(hr:ϫ k X.A)(hx:dn CX X E)(he:PE X o (tV (kk X cm) E m))(ha:PA X (e::es) (tA (kk X cm) E ms))
 (gi:Ð (e::es) X.env=(false,eval e X.env)::Ð es X.env:=by exact Ō rfl)(hpl:(Ĉ pos<|Ð es X.env).any (·.1)=false:=by kernel_rfl)
 (ht:eval (.Call o (e::es) [] pos) X.env=(do g_ pos (<-eval o X.env) [] (Ĉ pos<|Ð (e::es) X.env) (bv pos<|bz [] X.env)):=by rfl):
 PE X (.Call o (e::es) [] pos) (tO (kk X cm) E<|IW am m ms):=by
 rintro Æ s a H Q I ⟨c,F,b,rel,h⟩;rw[ht];refine Ò<|ώ (he Æ s a H _ I ⟨c,F,b,rel,IX h nK⟩) λu s1 zz=>?_;obtain⟨x,H1,I1,rx,g,fd,ps,mf,ex,k2,k3,k4,q⟩:=zz;subst ex;obtain rfl:u=ť g:=rx;refine oP (h₀:=X.base) I.ok.mod.Js k2 (ώ (ha pos Æ s1 a H1 _ I1 q) λus s2 ⟨vs,H2,I2,r,q2⟩=>⟨I2.yW,?_⟩) gi hpl;exact oY k3 hr k4 hx I2 r q2
end
inductive MR where
 |ret (p:PV) (ns:List Str) (ps:List PV) (q:Option (List PV))|exc (x:PX) (ns:List Str) (ps:List PV) (q:Option (List PV))|bad
abbrev MM:=List Str->List PV->Option (List PV)->List PV->MR
structure Qd(Pg:ä)(w:Þ)(K:Î)(mg:Str->Option Á)(base:Ñ)(CX:ia)(k:Nat)(f:À)(fd:ċ)(ps:List Str)(sp:Sp):Prop where
 len:∀vs H Q E,sp vs H Q E->vs.length=ps.length
 run:∀(A:ê) (outer:List Env) (s:Ã) (H:Hp) (args:Args) (us:List Á) (vs:List V) (Q:VK) (E:XK),0<s.toks->ϫ k A->zg Pg w K mg base A outer s H->fO s fd args (ps.zip us)->ĳ vs us->sp vs H Q E->
  fN (Ö Pg w) A (.call (.ref f) args) (CR CX outer Pg w H s Q E) s
section
variable{Pg:ä}{w:Þ}{K:Î}{mg:Str->Option Á}{base:Ñ}{CX:ia}{k:Nat}{f:À}{fd:ċ}{ps:List Str}{sp:Sp}
def b_.pos(F:b_ Pg w K mg base CX k f fd ps sp):Qd Pg w K mg base CX k f fd ps sp:=⟨F.len,λA outer s H args us vs Q E _=>F.run A outer s H args us vs Q E⟩
end
end P
namespace L2
open PySem PySem.Spec PyProof.Rows
section
variable{κ:Type}[DecidableEq κ]
noncomputable def mR(ı:List (κ×V))(k:κ):Option V:=(ı.find? λkv=>decide<|kv.1=k).map (·.2)
noncomputable def pZ(ı:List (κ×V))(k:κ)(v:V):List (κ×V):=
 if(ı.any λkv=>decide<|kv.1=k)=true then ı.map (λkv=>if kv.1=k then(kv.1,v)else kv)else ı++[(k,v)]
def kR{p:κ×V}{r:List (κ×V)}{k:κ}(e:p.1=k):mR (p::r) k=some p.2:=by simp[mR,da,e]
def kS{p:κ×V}{r:List (κ×V)}{k:κ}(e:¬p.1=k):mR (p::r) k=mR r k:=by simp[mR,da,e]
theorem Ad(k:κ):∀ı:List (κ×V),(ı.any λkv=>decide<|kv.1=k)=(mR ı k).isSome
 |[]=>rfl|p::r=>by
  rw[bt];by_cases e:p.1=k
  ·simp only[kR e,decide_eq_true e,Bool.true_or,BL]
  ·rw[kS e,decide_eq_false e,wp];exact Ad k r
def qQ(ı:List (κ×V))(k:κ)(v:V):(pZ ı k v).length<=ı.length+1:=by
 unfold pZ;split
 ·rw[Ę];lia
 ·rw[ő,Ĕ,fE];lia
def mO.Ee{o:Option V}{u:Option Á}(r:mO o u):o.isSome=u.isSome:=by
 cases o with
 |none=>cases u with
  |none=>rfl|some _=>exact(show False from r).elim
 |some _=>cases u with
  |none=>exact(show False from r).elim|some _=>rfl
def KV.val{ı:List (κ×V)}{vs:List (κ×Á)}(r:KV ı vs)(k:κ):mO (mR ı k) (jF vs k):=by
 unfold KV at r
 induction r with
 |nil=>exact True.intro|@cons p q ps qs h t ih=>
  obtain⟨h1,h2⟩:=h;by_cases e:p.1=k
  ·have e':q.1=k:=h1.symm.trans e;have b:jF (q::qs) k=some q.2:=by simp[jF,da,e']
   rw[kR e,b];exact h2
  ·have e':¬q.1=k:=λz=>e<|h1.trans z;have b:jF (q::qs) k=jF qs k:=by simp[jF,da,e']
   rw[kS e,b];exact ih
theorem KV.any{ı:List (κ×V)}{vs:List (κ×Á)}(r:KV ı vs)(k:κ):(ı.any λkv=>decide<|kv.1=k)=vs.any λkv=>decide (kv.1=k):=by
 unfold KV at r
 induction r with
 |nil=>rfl|cons h t ih=>rw[bt,bt,ih,h.1]
def KV.repl{ı:List (κ×V)}{vs:List (κ×Á)}(r:KV ı vs)(k:κ){y:V}{u:Á}(ry:RelV y u):
 KV (ı.map λkv=>if kv.1=k then(kv.1,y)else kv) (vs.map λkv=>if kv.1=k then(kv.1,u)else kv):=by
 unfold KV at r⊢
 induction r with
 |nil=>exact .nil|@cons p q ps qs h t ih=>
  rw[Ó,Ó];refine .cons ?_ ih;obtain⟨h1,h2⟩:=h;by_cases e:p.1=k
  ·rw[if_pos e,if_pos<|h1.symm.trans e];exact⟨h1,ry⟩
  ·rw[if_neg e,if_neg<|λz=>e<|h1.trans z];exact⟨h1,h2⟩
def KV.put{ı:List (κ×V)}{vs:List (κ×Á)}(r:KV ı vs)(k:κ){y:V}{u:Á}(ry:RelV y u):KV (pZ ı k y) (stored vs k u):=by
 unfold pZ stored;rw[r.any k];by_cases e:(vs.any λkv=>decide<|kv.1=k)=true
 ·rw[if_pos e,if_pos e];exact r.repl k ry
 ·rw[if_neg e,if_neg e];exact Paired.snoc r ⟨rfl,ry⟩
theorem KV.length{ı:List (κ×V)}{vs:List (κ×Á)}(r:KV ı vs):ı.length=vs.length:=Paired.length r
end
def Gq{P:ä}{w:Þ}{k:Key}{u:Á}(r:RelV (kV k) u):(aP P w).is k u=true:=by
 cases k with
 |inl i=>obtain⟨t,e⟩:=(show ∃t,u=oM i t from r);subst e;exact za P w i t|inr x=>obtain⟨t,e⟩:=(show ∃t,u=lY x t from r);subst e;exact zb P w x t
theorem wa{P:ä}{w:Þ}:∀{ks:List Key}{us:List Á},ĳ (ks.map kV) us->ItemsAre (aP P w) ks us
 |[],_,r=>by rw[ž]at r;cases r;exact .nil|k::ks,_,r=>by
  rw[Ó]at r;cases r with
  |cons h t=>exact .cons (Gq h)<|wa t
abbrev KT(H:Hp):List (List Key×V)->List (List Key×À×Á)->Prop:=Paired λp q=>p.1=q.1/\H q.2.1=some (.tup<|p.1.map kV)/\RelV p.2 q.2.2
def KT.val{H:Hp}{ı:List (List Key×V)}{xs:List (List Key×À×Á)}(r:KT H ı xs)(k:List Key):mO (mR ı k) ((fP xs k).map (·.2)):=by
 induction r with
 |nil=>exact True.intro|@cons p q ps qs h t ih=>
  obtain⟨h1,_,h2⟩:=h;by_cases e:p.1=k
  ·have e':q.1=k:=h1.symm.trans e;have b:fP (q::qs) k=some q.2:=by simp[fP,da,e']
   rw[kR e,b];exact h2
  ·have e':¬q.1=k:=λz=>e<|h1.trans z;have b:fP (q::qs) k=fP qs k:=by simp[fP,da,e']
   rw[kS e,b];exact ih
def KT.repl{H:Hp}{ı:List (List Key×V)}{xs:List (List Key×À×Á)}(r:KT H ı xs)(k:List Key){y:V}{u:Á}(ry:RelV y u):
 KT H (ı.map λkv=>if kv.1=k then(kv.1,y)else kv) (xs.map<|putAt k u):=by
 induction r with
 |nil=>exact .nil|@cons p q ps qs h t ih=>
  rw[Ó,Ó];refine .cons ?_ ih;obtain⟨h1,h2,h3⟩:=h;unfold putAt;by_cases e:p.1=k
  ·rw[if_pos e,if_pos<|h1.symm.trans e];exact⟨h1,h2,ry⟩
  ·rw[if_neg e,if_neg<|λz=>e<|h1.trans z];exact⟨h1,h2,h3⟩
def KT.put{H:Hp}{ı:List (List Key×V)}{xs:List (List Key×À×Á)}(r:KT H ı xs)(k:List Key){b:À}{y:V}{u:Á}(hb:H b=some (.tup<|k.map kV))(ry:RelV y u):
 KT H (pZ ı k y) (storedH xs k b u):=by
 have e:(ı.any λkv=>decide<|kv.1=k)=(fP xs k).isSome:=by rw[Ad,(r.val k).Ee,Option.isSome_map]
 unfold pZ storedH;rw[e];by_cases q:(fP xs k).isSome=true
 ·rw[if_pos q,if_pos q];exact r.repl k ry
 ·rw[if_neg q,if_neg q];exact Paired.snoc r ⟨rfl,hb,ry⟩
def KT.keeps{H H':Hp}{ı:List (List Key×V)}{xs:List (List Key×À×Á)}(r:KT H ı xs)(ht:∀b ys,H b=some (.tup ys)->H' b=some (.tup ys)):KT H' ı xs:=
 Paired.Hk r λ_ _ z=>⟨z.1,ht _ _ z.2.1,z.2.2⟩
section
variable{P:ä}{w:Þ}{H:Hp}{h:Ñ}{a:À}
def JT{u:HO}(ok:kC P w H h)(e:Rd H a u):bS P w H h a u:=e.ok ok
def Gu{ı:List (Key×V)}(ok:kC P w H h)(e:Rd H a (.dK ı)):ı.length<=sizeLine/\(a==cA)=false/\∃vs,KV ı vs/\h.DictOf (aP P w) a vs:=
 show bS P w H h a (.dK ı)from JT ok e
def Qe{ı:List (Key×V)}(ok:kC P w H h)(e:H a=some (.dK ı)):ı.length<=sizeLine/\(a==cA)=false/\∃vs,KV ı vs/\h.DictOf (aP P w) a vs:=Gu ok<|.inl e
def Bj{ks:List Key}(ok:kC P w H h)(e:H a=some (.tup<|ks.map kV)):(ou<|aP P w).is h ks a:=by obtain⟨_,č,r,o,h1,h2,n,h3⟩:=(show bS P w H h a (.tup<|ks.map kV)from ok a _ e);exact⟨o,č.toArray,n,h1,h2,h3,by simpa using wa r⟩
def Gv{ı:List (List Key×V)}(ok:kC P w H h)(e:Rd H a (.dT ı)):ı.length<=sizeLine/\(a==cA)=false/\
 ∃xs,KT H ı xs/\h.DictOfH (ou<|aP P w) a xs:=by
 obtain⟨z,y,xs,r,o,es,ep,h1,h2,h3,h4,h5⟩:=(show bS P w H h a (.dT ı)from JT ok e);refine⟨z,y,xs,r,o,es,ep,h1,h2,h3,h4,λx hx=>?_,h5⟩;have all:∀{l:List (List Key×V)}{m:List (List Key×À×Á)},KT H l m->∀x∈m,(ou<|aP P w).is h x.1 x.2.1:=by
  intro l m q
  induction q with
  |nil=>intro x hx;exact nomatch hx|@cons p q ps qs hq t ih=>
   intro x hx;rcases þ.mp hx with e|hx
   ·subst e;exact Bj ok (by rw[<-hq.1];exact hq.2.1)
   ·exact ih x hx
 exact all r x hx
def Qf{ı:List (List Key×V)}(ok:kC P w H h)(e:H a=some (.dT ı)):ı.length<=sizeLine/\(a==cA)=false/\
 ∃xs,KT H ı xs/\h.DictOfH (ou<|aP P w) a xs:=Gv ok<|.inl e
end
def yI(H:Hp)(a:À)(y:V)(r:Option V):Prop:=
 (∃ı k,Rd H a (.dK ı)/\y=kV k/\r=mR ı k)\/∃ı k b,Rd H a (.dT ı)/\y=.ref b/\H b=some (.tup<|k.map kV)/\r=mR ı k
def Bk(H:Hp)(a:À)(y v:V)(H':Hp):Prop:=
 (∃ı k,H a=some (.dK ı)/\y=kV k/\ı.length<sizeLine/\H'=upd H a (.dK<|pZ ı k v))\/
 ∃ı k b,H a=some (.dT ı)/\y=.ref b/\H b=some (.tup<|k.map kV)/\ı.length<sizeLine/\H'=upd H a (.dT<|pZ ı k v)
theorem yI.k{H:Hp}{a:À}{ı:List (Key×V)}{k:Key}(e:H a=some (.dK ı)):yI H a (kV k) (mR ı k):=.inl ⟨ı,k,.inl e,rfl,rfl⟩
def yI.t{H:Hp}{a b:À}{ı:List (List Key×V)}{k:List Key}(e:H a=some (.dT ı))(eb:H b=some (.tup<|k.map kV)):yI H a (.ref b) (mR ı k):=.inr ⟨ı,k,b,.inl e,rfl,eb,rfl⟩
theorem Bk.k{H:Hp}{a:À}{ı:List (Key×V)}{k:Key}{v:V}(e:H a=some (.dK ı))(hl:ı.length<sizeLine):Bk H a (kV k) v (upd H a<|.dK<|pZ ı k v):=.inl ⟨ı,k,e,rfl,hl,rfl⟩
def Bk.t{H:Hp}{a b:À}{ı:List (List Key×V)}{k:List Key}{v:V}(e:H a=some (.dT ı))(eb:H b=some (.tup<|k.map kV))(hl:ı.length<sizeLine):
 Bk H a (.ref b) v (upd H a<|.dT<|pZ ı k v):=.inr ⟨ı,k,b,e,rfl,eb,hl,rfl⟩
section
variable{X:Cx}{Æ:List (À×Obj)}{σ:St}{H:Hp}{s:Ã}{a:À}{y v:V}{u r:Á}{o:Option V}{A:ê}{E:Á->Ã->Prop}
def Inv.big(I:Inv X Æ σ H s):cA<s.heap.objs.size:=by have h:Ĥ<s.heap.objs.size:=(I.mod.glob.keeps I.bk).lt;exact wM (by decide) h
def Ef{Q:Á->Ã->Prop}(hu:A.units+1<Ń)(I:Inv X Æ σ H s)(g:yI H a y (some v))(ry:RelV y u)(h:∀w' s',Inv X Æ σ H s'->RelV v w'->Q w' s'):
 Ï (Ö X.prog X.w) A (lL (.ref a) u) Q E s:=by
 rcases g with⟨ı,k,e,ey,l⟩|⟨ı,k,b,e,ey,eb,l⟩
 ·subst ey;obtain⟨z,hd,vs,rel,dd⟩:=Gu I.hok e;obtain⟨w',hw,HC⟩:=mO.some_of (v:=v) (o:=jF vs k) (by rw[l];exact rel.val k);exact wpAny_getItem_of (Gq ry) dd.mapOf hw<|h w' _ (I.tok _) HC
 ·subst ey;cases(show u=ť b from ry);obtain⟨z,hd,xs,rel,dd⟩:=Gv I.hok e;obtain⟨w',hw,HC⟩:=mO.some_of (v:=v) (o:=(fP xs k).map (·.2)) (by rw[l];exact rel.val k);obtain⟨p,hp,Q3⟩:=eB.mp hw;refine wpAny_getItem_heap (tupleKind_room_in1 hu) (Bj I.hok eb) dd hp ?_;rw[Q3];exact h w' _ (I.tok _) HC
def C0{h':Ñ}{t':Nat}{ob:HO}(I:Inv X Æ σ H s)(mu:NW (H a))(hs:Ŝ a s.heap h')(he:∃q,h'.get? a=some q)(new:bS X.prog X.w (upd H a ob) h' a ob):
 Inv X Æ σ (upd H a ob) {s with heap:=h',toks:=t'}:=
 I.write (x:=a) (e:=a) mu (.inl rfl) (λb q hb z=>(hs.2 b hb).trans z) he new
def Mq{P:ä}{w:Þ}{H':Hp}{h':Ñ}{ı:List (Key×V)}{vs:List (Key×Á)}(z:ı.length<=sizeLine)(hd:(a==cA)=false)(rel:KV ı vs)(dd:h'.DictOf (aP P w) a vs):
 bS P w H' h' a (.dK ı):=⟨z,hd,vs,rel,dd⟩
def Eg{H':Hp}{Q:Unit->Ã->Prop}(hu:A.units+1<Ń)(I:Inv X Æ σ H s)(g:Bk H a y v H')(ry:RelV y u)(rv:RelV v r)(h:∀s',Inv X Æ σ H' s'->Q () s'):
 Ï (Ö X.prog X.w) A (setItem (.ref a) u r) Q E s:=by
 rcases g with⟨ı,k,e,ey,l,eH⟩|⟨ı,k,b,e,ey,eb,l,eH⟩
 ·subst ey eH;obtain⟨z,hd,vs,rel,dd⟩:=Qe I.hok e;have hz:vs.length<=sizeLine:=by rw[<-rel.length];exact z
  have hl:(pZ ı k v).length<=sizeLine:=by have:=qQ ı k v;lia
  refine wpAny_setItem_pairs (hsz:=hz) (Gq ry) dd λh' Si hs=>h _ ?_;have he:∃q,h'.get? a=some q:=let ⟨q,_,_,hq,_⟩:=Si;⟨q,hq⟩;exact C0 I (by rw[e];exact True.intro) hs he<|Mq hl hd (rel.put k rv) Si
 ·subst ey eH;cases(show u=ť b from ry);obtain⟨z,hd,xs,rel,dd⟩:=Qf I.hok e;have hz:xs.length<=sizeLine:=by rw[<-Paired.length rel];exact z
  have hl:(pZ ı k v).length<=sizeLine:=by have:=qQ ı k v;lia
  refine wpAny_setItem_heap (hsz:=hz) (tupleKind_room_in1 hu) (Bj I.hok eb) dd λh' Si hs=>h _ ?_;obtain⟨q,es,ep,hq,h2,h3,h4,_,h5⟩:=Si;refine C0 I (by rw[e];exact True.intro) hs ⟨q,hq⟩ ⟨hl,hd,_,(rel.put k eb rv).keeps λc ys ec=>?_,q,es,ep,hq,h2,h3,h4,h5⟩;rw[î<|NV ec e<|λz=>nomatch z];exact ec
end
def Mr(i:È):Prop:=∀ov iv,sw i false ov iv=operate [ov,iv] (lL ov iv)
def IY{prog:ä}{w:Þ}{A:ê}{E:Á->Ã->Prop}{s:Ã}{env:Env}{value slice:È}{pos:Pos}{T id:String}{Q:Á->Ã->Prop}
 (hl:typeLookup (.type T) "__getitem__"=ì (some<|.builtin id))(hs:Mr slice)
 (h:Ï (Ö prog w) A (eval value env) (λo s₁=>Ï (Ö prog w) A (eval slice env) (λi s₂=>s₂.TypeIs o T/\Ï (Ö prog w) A (lL o i) Q E s₂) E s₁) E s):
 Ï (Ö prog w) A (eval (.Subscript value slice pos) env) Q E s:=by
 refine Subscript_<|Ϯ h (λo s₁ h₁=>Ϯ h₁ (λi s₂ h₂=>?_) λ_ _ x=>x) λ_ _ x=>x;obtain⟨hT,h₂⟩:=h₂;unfold wU;refine Ò ?_;rw[getitemInPython_of_ne hT.not_modules];refine Ò<|wpAny_specialOf hT hl ?_;have lf:Ï (Ö prog w) A (sw slice false o i) (λr s₃=>Ï (Ö prog w) A (letTemporaryGo value o r>>=λ_=>ì r) Q E s₃) E s₂:=by
  rw[hs o i];exact wpAny_operating (Ϯ h₂ (λr s₃ h₃=>Ò<|wpAny_letTemporaryGo<|ĉ h₃) λ_ _ x=>x)
 first
  |exact ĉ<|Ò lf
  |exact Ò<|ĉ<|Ò lf
  |exact Ò lf
def Ae{X:Cx}{Æ:List (À×Obj)}{c:St}{H:Hp}{s:Ã}{a:À}{y:V}{o:Option V}(I:Inv X Æ c H s)(g:yI H a y o):s.TypeIs (.ref a) "dict":=by
 rcases g with⟨ı,k,e,_,_⟩|⟨ı,k,b,e,_,_,_⟩
 ·obtain⟨_,_,vs,_,dd⟩:=Gu I.hok e;exact dd.typeIs
 ·obtain⟨_,_,xs,_,dd⟩:=Gv I.hok e;exact dd.typeIs
def JU(td ty:TE):TE:=λb H Q=>td b H λx H1=>ty b H1 λy H2=>∃a v,x=.ref a/\yI H2 a y (some v)/\Q v H2
def JW(td ty tv:TE):TS:=λD b H=>tv b H λv H1=>td b H1 λx H2=>ty b H2 λy H3=>∃a H4,x=.ref a/\Bk H3 a y v H4/\D.nx b H4
section
variable{X:Cx}{o i value:È}{pos aY:Pos}{td ty tv:TE}
def C1(hu:X.A.units+1<Ń)(ho:PE X o td)(hi:PE X i ty)(hs:Mr i):PE X (.Subscript o i pos) (JU td ty):=by intro Æ s b H Q I h;refine IY PySem.F.slot_dict_getitem.lookup hs<|ώ (ho Æ s b H _ I h) λu s1 ⟨x,H1,I1,rx,q1⟩=>ώ (hi Æ s1 b H1 _ I1 q1) λiv s2 zz=>?_;obtain⟨y,H2,I2,ry,a,v,ex,g,q2⟩:=zz;subst ex;obtain rfl:u=ť a:=rx;exact⟨Ae I2 g,Ef hu I2 g ry λw' s3 I3 HC=>⟨v,H2,I3,HC,q2⟩⟩
def IZ(hu:X.A.units+1<Ń)(ho:PE X o td)(hi:PE X i ty)(hv:PE X value tv)(hs:ņ value (some<|.Subscript o i aY) pos.line X.env=ì false):
 PS X (.Assign [.Subscript o i aY] value pos) (JW td ty tv):=by
 intro Æ s b H D I h;refine wpAny_Assign_Subscript (ώ (hv Æ s b H _ I h) λr s1 ⟨v,H1,I1,rv,q1⟩=>ώ (ho Æ s1 b H1 _ I1 q1) λu s2 ⟨x,H2,I2,rx,q2⟩=>ώ (hi Æ s2 b H2 _ I2 q2) λiv s3 zz=>?_) hs;obtain⟨y,H3,I3,ry,a,H4,ex,g,q3⟩:=zz;subst ex;obtain rfl:u=ť a:=rx;exact Eg hu I3 g ry rv λs4 I4=>⟨b,H4,I4,q3⟩
end
def Gw{P:ä}{w:Þ}{H:Hp}(h:Ñ)(hb:cA<h.objs.size):bS P w H (h.push {cls:=.type "dict",data:=.dict #[]}) h.objs.size (.dK []):=
 ⟨bu _,beq_eq_false_iff_ne.mpr<|đ<|Ņ hb,[],.nil,Heap.DictOf.new h⟩
def Ms:TE:=λ_ H Q=>∀p,H p=none->Q (.ref p) (upd H p<|.dK [])
section
variable{X:Cx}{pos:Pos}
def Gx:PE X (.Dict [] [] pos) Ms:=λÆ s b H Q I h=>
 wpAny_Dict_empty ⟨.ref s.heap.objs.size,_,I.laid (a:=s.heap.objs.size) (o:=.dK []) (t':=s.toks) (λ_ _ q=>Ă _ q) (ø _)<|Gw s.heap I.big,rfl,h _<|I.hok.fresh<|ø _⟩
end
end L2
namespace Rf
open PySem PySem.W PySem.Calls PyProof.Rows
end Rf
namespace L2
open PySem PySem.Spec PyProof.Rows
section
variable{κ:Type}[DecidableEq κ]
end
end L2
namespace P
open PySem PySem.Spec PyProof.Rows L2 M2 M3 M4
abbrev DS:=List<|Str×List PV
abbrev MD:=Ć->DS->Option (Ć×DS)
def yX(es:List (Str×À)):List (Key×V):=es.map λe=>(ŝ e.1,V.ref e.2)
def Mt(K:KK)(F H:Hp)(e:Str×À)(k:Str×List PV):Prop:=e.1=k.1/\∃vs,H e.2=some (.lst vs)/\â K F k.2 vs
def Vr(K:KK)(i:Nat)(c:Ctx)(F H:Hp)(e:Ċ)(f:Ć)(d:DS)(a:À)(es:List (Str×À)):Prop:=
 e[i]?=some (some<|.ref a)/\H a=some (.dK<|yX es)/\Paired (Mt K F H) es d/\(a::es.map (·.2)).Nodup/\∀b∈a::es.map (·.2),H b≠none/\F b=none/\c.B b=none/\fq F e f b
def Gy(K:KK)(i:Nat)(c:Ctx)(F H:Hp)(e:Ċ)(b:Ć)(d:DS):Prop:=
 ě K c F H e b/\b.all ė=true/\b[i]?=some .no/\∃a es,Vr K i c F H e b d a es
def GA(K:KK)(i:Nat)(c:Ctx)(F:Hp)(D:Ends):Option (Ć×DS)->Prop
 |none=>False|some (b,d')=>∀a F' H',Gy K i c F' H' a b d'->Ù F F'->D.nx a H'
def tD(K:KK)(_E:Ċ->XK)(i:Nat)(m:MD):TS:=λD b H=>∃c F a d,Gy K i c F H b a d/\GA K i c F D (m a d)
noncomputable def Ctx.Mu(c:Ctx)(a:À):Ctx:=⟨c.B,c.F₀,c.L,λx _ _=>x=a⟩
noncomputable def qR:Option Slot->Bool
 |some .pin=>true|_=>false
section
variable{K:KK}{c:Ctx}{F F1 H H':Hp}{σ:Ċ}{ρ:Ć}{i:Nat}{a:À}
def GA.mono{D:Ends}{r:Option (Ć×DS)}(h:GA K i c F D r)(s:Ù F F1):GA K i c F1 D r:=by
 cases r with
 |none=>exact h|some q=>exact λb F' H' rel s1=>h b F' H' rel<|s.trans s1
theorem ě.pin(r:ě K c F H σ ρ)(hp:ρ.all ė=true)(hx:σ[i]?=some (some<|.ref a)):ě K (c.Mu a) F H σ (ρ.set i .pin) where
 sub:=r.sub
 base:=r.base
 f0:=r.f0
 gj:=r.gj
 lent:=r.lent
 lb:=r.lb
 len:=by rw[wA];exact r.len
 slot:=λj s e=>by
  rw[gO]at e;split at e
  ·rename_i hj;split at e
   ·cases e;subst hj;exact⟨a,by rw[hx];rfl,rfl⟩
   ·cases e
  ·have hs:=pA hp e;have q:=r.slot j s e;cases s with
   |no=>trivial|sh p=>exact q|bw ps=>exact q|ow ps=>exact q|_=>cases hs
 sep:=λj k b h1 h2=>by
  have f:∀{j},Ŏ F σ (ρ.set i .pin) j b->Ŏ F σ ρ j b:=fun{j} ⟨s,x,e1,e2,e3⟩=>by
   rw[gO]at e1;split at e1
   ·split at e1
    ·cases e1;exact e3.elim
    ·cases e1
   ·exact⟨s,x,e1,e2,e3⟩
  exact r.sep j k b (f h1)<|f h2
def ě.Qg(r:ě K (c.Mu a) F H σ ρ)(hp:(ρ.set i .no).all ė=true)(hx:qR ρ[i]?=true):ě K c F H σ (ρ.set i .no)/\σ[i]?=some (some<|.ref a):=by
 have e0:ρ[i]?=some .pin:=by
  unfold qR at hx;split at hx
  ·rename_i q;exact q
  ·cases hx
 refine⟨⟨r.sub,r.base,r.f0,r.gj,r.lent,r.lb,by rw[wA];exact r.len,λj s e=>?_,λj k b h1 h2=>?_⟩,?_⟩
 ·have hs:=pA hp e;rw[gO]at e;split at e
  ·split at e
   ·cases e;trivial
   ·cases e
  ·have q:=r.slot j s e;cases s with
   |no=>trivial|sh p=>exact q|bw ps=>exact q|ow ps=>exact q|_=>cases hs
 ·have f:∀{j},Ŏ F σ (ρ.set i .no) j b→Ŏ F σ ρ j b:=fun{j} ⟨s,x,e1,e2,e3⟩=>by
   rw[gO]at e1;split at e1
   ·split at e1
    ·cases e1;exact e3.elim
    ·cases e1
   ·exact⟨s,x,e1,e2,e3⟩
  exact r.sep j k b (f h1)<|f h2
 ·obtain⟨b,h1,h2⟩:=r.slot i _ e0;have Jj:b=a:=h2;subst Jj;exact ļ h1
end
section
variable{X:Cx}{cm:String->À}{E:Ċ->XK}{i:Nat}
def il(i:Nat)(m:M Fl):MD:=λb d=>match m (b.set i .pin)with
 |.ok .nx a=>if(a.set i .no).all ė=true/\qR a[i]?=true then some (a.set i .no,d)else none|_=>none
def mJ{K:KK}{c:Ctx}{F F' H H':Hp}{h g:Ċ}{l f:Ć}{a:À}{d:DS}{es:List (Str×À)}(rel:ě K c F H h l)(hd:Vr K i c F H h l d a es)(Š:ě K ((c.nM (a::es.map (·.2)) H).Mu a) F' H' g f)(s':Ù F F')
 (hz:(f.set i .no).all ė=true/\qR f[i]?=true):ě K c F' H' g (f.set i .no)/\(f.set i .no)[i]?=some .no/\Vr K i c F' H' g (f.set i .no) d a es:=by
 obtain⟨hx,h1,h2,h3,h4⟩:=hd;obtain⟨r1,hx'⟩:=Š.Qg hz.1 hz.2;have r2:=r1.Bf (λb hb=>⟨(h4 b hb).1,(h4 b hb).2.2.1⟩) rel.lb hz.1;have hH:∀b∈a::es.map (·.2),H' b=H b:=λb hb=>by
  cases e:H b with
  |none=>exact absurd e (h4 b hb).1|some u=>exact r1.base b u (by show(if _ then _ else _)=_;rw[if_pos hb];exact e)
 have hF:∀b∈a::es.map (·.2),F' b=none:=λb hb=>r1.gj b (by show(if _ then _ else _)≠_;rw[if_pos hb];exact(h4 b hb).1) (by
  cases e:c.F₀ b with
  |none=>exact e|some u=>have q:=(h4 b hb).2.1;rw[rel.f0 b u e]at q;cases q)
 refine⟨r2,?_,hx',by rw[hH a<|ł ..];exact h1,?_,h3,λb hb=>⟨by rw[hH b hb];exact(h4 b hb).1,hF b hb,(h4 b hb).2.2.1,?_⟩⟩
 ·rw[gO];have:i<f.length:=by
   have e:=hz.2;unfold qR at e;split at e
   ·rename_i q;rcases Nat.lt_or_ge i f.length with z|z
    ·exact z
    ·rw[wF z]at q;cases q
   ·cases e
  simp[this]
 ·refine ig h2 λe k he ⟨q1,vs,q2,q3⟩=>⟨q1,vs,?_,q3.same s' _ _⟩;rw[hH e.2<|õ _<|rX he];exact q2
 ·rintro j ⟨s,x,e1,e2,e3⟩;obtain⟨_,_,e4⟩:=r1.owned ⟨s,x,e1,e2,e3⟩;have e4':(if b∈a::es.map (·.2)then H b else c.B b)=none:=e4;rw[if_pos hb]at e4';exact(h4 b hb).1 e4'
def GB{m:M Fl}{D:Ends}{e:Ċ}{H:Hp}(h:tD (kk X cm) E i (il i m) D e H):tS (kk X cm) E m D e H:=by
 obtain⟨c,F,g,d,⟨rel,hp,hn,a,es,hd⟩,hm⟩:=h;refine⟨_,F,_,(rel.nM (A:=a::es.map (·.2)) hd.2.2.2.2 hp).pin hp hd.1,?_⟩;unfold il at hm;split at hm
 ·rename_i f em;rw[em];split at hm
  ·rename_i hz;intro b F' H' Š s';obtain⟨r1,r2,r3⟩:=mJ rel hd Š s' hz;exact hm b F' H' ⟨r1,hz.1,r2,a,es,r3⟩ s'
  ·exact hm.elim
 ·exact hm.elim
def Bl{s:í}{m:M Fl}(h:PS X s (tS (kk X cm) E m)):PS X s (tD (kk X cm) E i<|il i m):=PS.wk h λ_ _ _ h=>GB h
noncomputable def nO(m n:MD):MD:=λρ d=>match m ρ d with
 |some (ρ1,d1)=>n ρ1 d1|none=>none
def GC{s:í}{ss:List í}{m n:MD}(h:PS X s (tD (kk X cm) E i m))(h2:ca X ss (tD (kk X cm) E i n)):ca X (s::ss) (tD (kk X cm) E i<|nO m n):=ca.wk (cb h h2)<|by
 rintro D f H ⟨c,F,a,d,rel,hm⟩;refine⟨c,F,a,d,rel,?_⟩;unfold nO at hm;cases e:m a d with
 |none=>rw[e]at hm;exact hm|some q=>rw[e]at hm;exact λb F' H' Š s'=>⟨c,F',q.1,q.2,Š,hm.mono s'⟩
noncomputable def wb(j:Nat):MD:=λρ d=>match ρ[j]?with
 |some (.sh<|.str k)=>if(d.all λe=>decide<|e.1≠k)=true/\d.length<16777216then some (ρ,d++[(k,[])])else none
 |_=>none
theorem GD{α β:Type}{G:α->β->Prop}{x:α}{y:β}(h:G x y):∀{l:List α}{m:List β},Paired G l m->Paired G (l++[x]) (m++[y])
 |_,_,.nil=>.cons h .nil|_,_,.cons r t=>.cons r<|GD h t
theorem Bm{K:KK}{F H:Hp}{k:Str}:∀{es:List (Str×À)}{d:DS},Paired (Mt K F H) es d->(d.all λe=>decide<|e.1≠k)=true->((yX es).any λkv=>decide<|kv.1=ŝ k)=false/\∀v,mR (yX es++[(ŝ k,v)]) (ŝ k)=some v
 |_,_,.nil,_=>⟨rfl,λv=>kR rfl⟩
 |e::es,q::d,.cons r t,h=>by
  rw[ſ,ú]at h;obtain⟨h1,h2⟩:=Bm t h.2;have n:¬(ŝ e.1:Key)=ŝ k:=λz=>(of_decide_eq_true h.1)<|r.1▸xB z;refine⟨?_,λv=>?_⟩
  ·show(decide ((ŝ e.1:Key)=ŝ k)||(yX es).any _)=false;rw[decide_eq_false n,h1];rfl
  ·show mR ((ŝ e.1,V.ref e.2)::(yX es++[(ŝ k,v)])) _=_;rw[kS n];exact h2 v
def I_{j:Nat}{D:Ends}{f:Ċ}{H:Hp}(h:tD (kk X cm) E i (wb j) D f H):JW (dQ i) (dQ j) (Hx DF) D f H:=by
 obtain⟨c,F,g,d,⟨rel,hp,hn,a,es,hx,h1,h2,h3,h4⟩,hm⟩:=h;unfold wb at hm;split at hm
 ·rename_i k ek;split at hm
  ·rename_i hz;obtain⟨vk,q1,q2⟩:=rel.slot j _ ek;have ev:vk=.str k:=by unfold ă at q2;exact q2
   subst ev;refine⟨bu _,λb hb=>?_⟩;obtain⟨n1,_⟩:=Bm h2 hz.1;have nb:∀x∈a::es.map (·.2),x≠b:=λx hx z=>(h4 x hx).1 (z▸hb);have na:a≠b:=nb a<|ł ..;have e1:upd H b (.lst []) a=some (.dK<|yX es):=by rw[î na];exact h1
   refine⟨.ref a,hx,.str k,ļ q1,a,_,rfl,Bk.k (k:=.inr k) e1 (by rw[Ē];unfold yX;rw[Ę,Paired.length h2];exact hz.2),?_⟩;have ep:pZ (yX es) (ŝ k) (V.ref b)=yX (es++[(k,b)]):=by unfold pZ;rw[n1,if_neg<|by decide];unfold yX;rw[Ĝ];rfl
   rw[ep];obtain⟨a1,a2,a3,a4⟩:=h4 a<|ł ..;have r1:=rel.made (o:=.lst []) hb;have r2:=r1.uy (o:=.dK<|yX<|es++[(k,b)]) a2 a3 a4;have nd:=(Ž.mp h3);refine hm f F _ ⟨r2,hp,hn,a,es++[(k,b)],hx,ö,GD ⟨rfl,[],?a,â.nil⟩<|ig h2 λe q he ⟨z1,vs,z2,z3⟩=>⟨z1,vs,?b,z3⟩,?c,λx hx'=>?d⟩ Č
   case a=>
    show upd _ a _ b=_;rw[î na.symm];exact ö
   case b=>
    have m1:e.2∈es.map (·.2):=rX he;have m2:e.2≠a:=λz=>nd.1 (by rw[<-z];exact m1);rw[î m2,î<|nb _<|õ _ m1];exact z2
   case c=>
    rw[Ĝ,<-c_];exact oi.mpr ⟨h3,by simp,λx hx' y hy=>by simp at hy;subst hy;exact nb x hx'⟩
   case d=>
    rw[Ĝ,<-c_]at hx';rcases Ů.mp hx' with hx'|hx'
    ·obtain⟨b1,b2,b3,b4⟩:=h4 x hx';refine⟨?_,b2,b3,b4⟩;by_cases z:x=a
     ·subst z;rw[ö];intro z;cases z
     ·rw[î z,î<|nb x hx'];exact b1
    ·simp at hx';subst hx';refine⟨(by rw[î na.symm,ö];intro z;cases z),rel.sub.free hb,rel.base.free hb,rel.fresh hb⟩
  ·exact hm.elim
 ·exact hm.elim
def Qh{j:Nat}{x y:Str}{px py mQ pl pos:Pos}(hu:X.A.units+64<Ń)(ho:PE X (.Name x px) (dQ i))(hk:PE X (.Name y py) (dQ j))(hs:ņ (.List [] pl) (some<|.Subscript (.Name x px) (.Name y py) mQ) pos.line X.env=ì false:=by kernel_rfl):
 PS X (.Assign [.Subscript (.Name x px) (.Name y py) mQ] (.List [] pl) pos) (tD (kk X cm) E i<|wb j):=PS.wk (IZ (by lia) ho hk (tK bZ) hs) λ_ _ _ h=>I_ h
def Eh(i j:Nat)(me:M PV):MD:=λb d=>match b[j]?,d.getLast? with
 |some (.sh<|.str k),some q=>if q.1=k∧(d.dropLast.all fun e=>decide<|e.1≠k)=true∧q.2.length<16777216then(match me (b.set i .pin)with
   |.ok p a=>if(a.set i .no).all ė=true/\qR a[i]?=true then some (a.set i .no,d.dropLast++[(k,q.2++[p])])else none|_=>none)
  else none
 |_,_=>none
def Af{α β:Type}{G:α->β->Prop}{y:β}{l:List α}{m:List β}(h:Paired G l (m++[y])):∃l' x,l=l'++[x]/\Paired G l' m/\G x y:=by
 have:=ut h (d:=y) (by simp)
 rwa [rY]at this
def Mv{j:Nat}{me:M PV}{D:Ends}{f:Ċ}{H:Hp}(h:tD (kk X cm) E i (Eh i j me) D f H):qB (K0 X.K "list" my (JU (dQ i)<|dQ j) (tL (kk X cm) E<|É me å)) D f H:=by
 obtain⟨c,F,m,d,⟨rel,hp,hn,a,es,hd⟩,hm⟩:=h;unfold Eh at hm;split at hm
 ·rename_i k q ek eq;split at hm
  ·rename_i hz;obtain⟨Q2,Jk,hz3⟩:=hz;obtain⟨vk,q1,q2⟩:=rel.slot j _ ek;have ev:vk=.str k:=by unfold ă at q2;exact q2
   subst ev;have ed:d=d.dropLast++[q]:=by obtain⟨z,hz⟩:=List.getLast?_eq_some_iff.mp eq;rw[hz,rY]
   obtain⟨hx,h1,h2,h3,h4⟩:=id hd;rw[ed]at h2;obtain⟨es0,e0,ee,h5,h6,vs,h7,h8⟩:=Af h2;obtain⟨k0,b⟩:=e0;have ek0:k0=k:=h6.trans Q2;subst ek0;have hb:b∈a::es.map (·.2):=by rw[ee];simp
   have ev:mR (yX es) (ŝ k0)=some (V.ref b):=by rw[ee];unfold yX;rw[Ĝ];exact(Bm h5 Jk).2 _
   have g:=yI.k (k:=.inr k0) h1;rw[ev]at g;refine⟨.ref a,hx,.str k0,ļ q1,a,.ref b,rfl,g,.inl ⟨rfl,_,Ϫ.of h7⟩,_,F,_,(rel.nM (A:=a::es.map (·.2)) h4 hp).pin hp hx,?_⟩;unfold É;split at hm
   ·rename_i p l em;rw[em];intro ws F1 H1 ã s1 s2 r1;split at hm
    ·rename_i hy;have kA:â (kk X cm) F1 [p] ws:=r1;cases kA.pr with
     |cons rp u=>
      rename_i v yR;cases u;obtain⟨w1,w2,w3⟩:=mJ rel hd ã s1 hy;obtain⟨x1,x2,x3,x4,x5⟩:=id w3;obtain⟨b1,b2,b3,b4⟩:=x5 b hb;have X3:H1 b=some (.lst vs):=s2 _ _ h7;have nd:a≠b:=λz=>(Ž.mp h3).1 (by rw[z,ee];simp);refine⟨b,vs,v,rfl,rfl,X3,by rw[<-h8.length,Ē];exact hz3,hm f F1 _ ⟨w1.uy b2 b3 b4,hy.1,w2,a,es,x1,by rw[î nd];exact x2,?_,x4,λy hy'=>⟨?_,(x5 y hy').2⟩⟩ s1⟩
      ·rw[ee]at x3 h3⊢;rw[ed]at x3;obtain⟨es1,e1,ee1,y5,y6,us,y7,y8⟩:=Af x3;obtain⟨rfl,ee2⟩:=wH ee1 rfl;cases ee2;refine GD ⟨rfl,vs++[v],ö,?a⟩ (ig y5 λe q he ⟨z1,us,z2,z3⟩=>⟨z1,us,?b,z3⟩)
       case a=>
        rw[X3]at y7;cases y7;exact â.append y8 (â.cons rp â.nil)
       case b=>
        have m1:e.2∈es0.map (·.2):=rX he;have m2:e.2≠b:=λz=>by have h9:=(Ž.mp h3).2;rw[Ĝ]at h9;exact(oi.mp h9).2.2 e.2 m1 b (by simp) z
        rw[î m2];exact z2
      ·by_cases z:y=b
       ·subst z;rw[ö];intro z;cases z
       ·rw[î z];exact(x5 y hy').1
    ·exact hm.elim
   ·exact hm.elim
  ·exact hm.elim
 ·exact hm.elim
def Qi{j:Nat}{x y:Str}{e:È}{px py mQ ap cp pos:Pos}{me:M PV}(hu:X.A.units+64<Ń)(ho:PE X (.Name x px) (dQ i))(hk:PE X (.Name y py) (dQ j))(he:PE X e (tV (kk X cm) E me))
 (jq:dh (.Subscript (.Name x px) (.Name y py) mQ) "append" X.env (eval (.Subscript (.Name x px) (.Name y py) mQ) X.env)=eval (.Subscript (.Name x px) (.Name y py) mQ) X.env:=by kernel_rfl)
 (qA:((Ĉ cp<|Ð [e] X.env).all (λx=>!x.1)&&(bv cp<|bz [] X.env).all (λx=>x.1.isSome)&&decide ([e].length+([]:List ϯ).length+(if([]:List ϯ).isEmpty then 0 else 1)<30))=true:=by rfl)
 (jr:(ap.endLine==cp.line)=true:=by rfl)(gi:Ð [e] X.env=(false,eval e X.env)::Ð [] X.env:=by exact Ō rfl)(hpl:(Ĉ cp<|Ð [] X.env).any (·.1)=false:=by kernel_rfl)
 (hs:ņ (.Call (.Attribute (.Subscript (.Name x px) (.Name y py) mQ) "append" ap) [e] [] cp) none pos.line X.env=ì false:=by kernel_rfl):
 PS X (.Expr (.Call (.Attribute (.Subscript (.Name x px) (.Name y py) mQ) "append" ap) [e] [] cp) pos) (tD (kk X cm) E i<|Eh i j me):=
 PS.wk (ϝ (fk aN bB cG Ŵ (C1 (by lia) ho hk (by intro _ _;rfl)) (Í he ó gi) jq qA jr gi hpl) hs) λ_ _ _ h=>Mv h
noncomputable def pE(i:Nat)(g:Tg)(mb:MD):List PV->MD
 |[],ρ,d=>some (ρ,d)|p::ps,ρ,d=>match g p (ρ.set i .pin)with
  |none=>none|some ρ1=>if(ρ1.set i .no).all ė=true/\qR ρ1[i]?=true then(match mb (ρ1.set i .no) d with
   |some (ρ2,d2)=>pE i g mb ps ρ2 d2|none=>none)else none
def jW(i:Nat)(mi:M (List PV))(g:Tg)(mb:MD):MD:=λb d=>match mi (b.set i .pin)with
 |.ok items a=>if(a.set i .no).all ė=true/\qR a[i]?=true then pE i g mb items (a.set i .no) d else none|_=>none
def JX{pos:Pos}{iter tg:È}{body:List í}{mi:M (List PV)}{g:Tg}{mb:MD}(hp:lH (Ö X.prog X.w) X.A X.env X.xe)(hc:X.calm=true)(hi:PI X tg iter (tI (kk X cm) E mi))(hg:PG X tg (tT (kk X cm) g))(hb:ca X body (tD (kk X cm) E i mb))
 (hs:∀x,cC iter X.env x=ì x:=by intro _;rfl):PS X (.For tg iter body [] pos) (tD (kk X cm) E i<|jW i mi g mb):=PS.wk (AF hp hc hi hg hb hs)<|by
 rintro D r H ⟨c,F,s,d,⟨rel,hp,hn,a,es,hd⟩,h⟩;refine⟨_,F,_,(rel.nM (A:=a::es.map (·.2)) hd.2.2.2.2 hp).pin hp hd.1,?_⟩;unfold jW at h;split at h
 rotate_left
 ·exact h.elim
 rename_i items o em;rw[em];split at h
 rotate_left
 ·exact h.elim
 rename_i hz;intro J F1 H1 ã s1 _ MX;obtain⟨b1,b2,b3⟩:=mJ rel hd ã s1 hz;refine⟨λn m j H'=>∃F2 f d2,n<=items.length/\m=items.length-n/\Gy (kk X cm) i c F2 H' j f d2/\Ù F1 F2/\GA (kk X cm) i c F2 D (pE i g mb (items.drop n) f d2),⟨_,F1,_,d,bu _,rfl,⟨b1,hz.1,b2,a,es,b3⟩,Ù.refl _,h.mono s1⟩,?_⟩;rintro n m k H2 ⟨F2,f,d2,hle,rfl,⟨ē,Q3,NH,a2,Xk,An⟩,s2,h2⟩;have rp2:=(ē.nM (A:=a2::Xk.map (·.2)) An.2.2.2.2 Q3).pin Q3 An.1;obtain⟨go,stop⟩:=MX _ n F2 H2 k _ rp2 s2 λb u e=>(ē.lent b u e).1;by_cases mT:n<items.length
 ·obtain⟨g1,g2⟩:=go items[n] (ţ mT);rw[fI mT]at h2;unfold pE at h2;refine .inr ⟨g1,_,λj H' z=>z,λx H3 hy=>?_⟩;obtain⟨F3,fU,s3,_,rp⟩:=g2 x H3 hy;refine⟨_,F3,_,items[n],fU,rp,?_⟩;cases eg:g items[n] (f.set i .pin)with
  |none=>rw[eg]at h2;exact h2.elim|some l=>
   rw[eg]at h2;dsimp only at h2;intro p qe;split at h2
   rotate_left
   ·exact h2.elim
   rename_i Jk;obtain⟨c1,c2,c3⟩:=mJ ē An qe s3 Jk;refine⟨c,F3,_,d2,⟨c1,Jk.1,c2,a2,Xk,c3⟩,?_⟩;cases e2:mb (l.set i .no) d2 with
   |none=>rw[e2]at h2;exact h2.elim|some q=>rw[e2]at h2;exact λj F' H' Š s'=>⟨items.length-(n+1),by lia,F',q.1,q.2,mT,rfl,Š,(s2.trans s3).trans s',h2.mono<|s3.trans s'⟩
 ·have e:n=items.length:=by lia
  refine .inl ⟨stop e,?_⟩;rw[gL<|by lia]at h2;unfold pE at h2;exact h2 k F2 H2 ⟨ē,Q3,NH,a2,Xk,An⟩ Č
noncomputable def fX(d:DS):PV:=.zn (d.map (·.1))<|d.map λe=>.lst e.2
theorem Ag{K:KK}{c:Ctx}{H:Hp}{a:Ċ}{f:Ć}:∀{es:List (Str×À)}{d:DS}{F:Hp},ě K c F H a f->Paired (Mt K F H) es d->(es.map (·.2)).Nodup->(∀b∈es.map (·.2),F b=none/\c.B b=none/\fq F a f b)->
 ∃F',ě K c F' H a f/\Ù F F'/\â K F' (d.map λe=>.lst e.2) (es.map λe=>.ref e.2)/\∀x,x∉es.map (·.2)->F' x=F x
 |[],_,F,rel,.nil,_,_=>⟨F,rel,Ù.refl _,â.nil,λ_ _=>rfl⟩
 |e::es,q::d,F,rel,.cons ⟨r1,vs,r2,r3⟩ t,hn,ha=>by
  obtain⟨n1,n2⟩:=Ž.mp hn;obtain⟨a1,a2,a3⟩:=ha e.2<|ł ..;have ã:=rel.freeze r2 a2 a1 a3;have s1:Ù F (upd F e.2<|.lst vs):=Ù.upd a1;obtain⟨F',k1,k2,k3,k4⟩:=Ag ã (ig t λe' q' _ ⟨w1,us,w2,w3⟩=>⟨w1,us,w2,w3.same s1 _ _⟩) n2 λb hb=>by have nb:b≠e.2:=λz=>n1 (by show e.2∈_;rw[<-z];exact hb);obtain⟨b1,b2,b3⟩:=ha b<|õ _ hb;exact⟨by rw[î nb];exact b1,b2,rel.jP s1 b3⟩
  refine⟨F',k1,s1.trans k2,â.cons ?_ k3,λx hx=>?_⟩
  ·unfold ă;exact⟨e.2,vs,rfl,Ϫ.of<|k2 _ _ ö,r3.same (s1.trans k2) _ _⟩
  ·have nx:x≠e.2:=λz=>hx (by rw[z];exact ł ..);rw[k4 x λz=>hx<|õ _ z,î nx]
def GF{K:KK}{c:Ctx}{F H:Hp}{f:Ċ}{g:Ć}{d:DS}(h:Gy K i c F H f g d):∃F',Ù F F'/\ě K c F' H f (g.set i<|.sh<|fX d):=by
 obtain⟨rel,hp,hn,a,es,hx,h1,h2,h3,h4⟩:=h;obtain⟨n1,n2⟩:=Ž.mp h3;obtain⟨F',k1,k2,k3,k4⟩:=Ag rel h2 n2 λb hb=>(h4 b<|õ _ hb).2;obtain⟨_,a1,a2,a3⟩:=h4 a<|ł ..;have fa:F' a=none:=by rw[k4 a n1];exact a1
 have r2:=k1.freeze h1 a2 fa<|rel.jP k2 a3;have s2:Ù F' (upd F' a<|.dK<|yX es):=Ù.upd fa;refine⟨_,k2.trans s2,r2.Cs (s:=.sh<|fX d) rfl ⟨.ref a,by rw[hx];rfl,?_⟩⟩;unfold fX ă;refine⟨a,yX es,rfl,ö,?_,?_⟩
 ·unfold yX;rw[ę,ę];clear k1 k2 k3 k4 r2 s2 fa hp hn hx h1 h3 h4 n1 n2 a1 a2 a3
  induction h2 with
  |nil=>rfl|cons r t ih=>rw[Ó,Ó,ih];exact congrArg (·::_)<|congrArg ŝ r.1
 ·have:(yX es).map (·.2)=es.map λe=>V.ref e.2:=by unfold yX;rw[ę];rfl
  rw[this];exact k3.same s2 _ _
def C2(i:Nat)(m1:M Fl)(m2:MD)(mr:M Fl):M Fl:=fun a=>if(a.set i .no).all ė=true∧i<a.length then(match nO (il i m1) m2 (a.set i .no) []with
    |none=>.bad|some (b,d2)=>mr<|b.set i<|.sh<|fX d2)
 else .bad
def Mw{x:Str}{aY p0 pos:Pos}{s1 s2:í}{rest:List í}{m1:M Fl}{m2:MD}{mr:M Fl}(h1:PS X s1 (tS (kk X cm) E m1))(h2:PS X s2 (tD (kk X cm) E i m2))(hr:ca X rest (tS (kk X cm) E mr))(hN:X.N.Nodup)(hi:X.N[i]?=some x)(hx:Loc X.env.scope x)
 (hs:ņ (.Dict [] [] p0) (some<|.Name x aY) pos.line X.env=ì false:=by kernel_rfl)(hf:X.fn x=true\/X.env.scope.names.lookup x=some .local:=by first|exact .inl rfl|exact .inr rfl|assumption):
 ca X (.Assign [.Name x aY] (.Dict [] [] p0) pos::s1::s2::rest) (tS (kk X cm) E<|C2 i m1 m2 mr):=ca.wk (cb (tE hN hi hx Gx hs hf)<|cb (Bl h1)<|cb h2 hr)<|by
 rintro D a H ⟨c,F,d,rel,h⟩ p hp;unfold C2 at h;split at h
 rotate_left
 ·exact h.elim
 rename_i hz;have ã:=(rel.made (o:=.dK []) hp).put (i:=i) (x:=some<|.ref p) (s:=.no) rfl trivial;have fr:fq F (a.set i<|some<|.ref p) (d.set i .no) p:=by
  rintro j ⟨s,y,e1,e2,e3⟩;rw[gO]at e1 e2;split at e1
  ·split at e1
   ·cases e1;exact e3
   ·cases e1
  ·rename_i hj;rw[if_neg hj]at e2;exact rel.fresh hp j ⟨s,y,e1,e2,e3⟩
 have hl:i<a.length:=by rw[rel.len];exact hz.2
 have rd:Gy (kk X cm) i c F (upd H p<|.dK []) (a.set i<|some<|.ref p) (d.set i .no) []:=⟨ã,hz.1,by rw[gO];simp[hz.2],p,[],by rw[gO];simp[hl],ö,.nil,by simp,λb hb=>by simp at hb;subst hb;exact⟨(by rw[ö];intro z;cases z),rel.sub.free hp,rel.base.free hp,fr⟩⟩;unfold nO at h;refine⟨c,F,_,[],rd,?_⟩;cases e1:il i m1 (d.set i .no) []with
 |none=>rw[e1]at h;exact h|some q1=>
  rw[e1]at h;dsimp only at h;intro e F1 H1 rd1 t1;refine⟨c,F1,q1.1,q1.2,rd1,?_⟩;cases e2:m2 q1.1 q1.2 with
  |none=>rw[e2]at h;exact h|some q2=>rw[e2]at h;intro f F2 H2 rd2 t2;obtain⟨F3,t3,fU⟩:=GF rd2;exact⟨c,F3,_,fU,ϻ.mono h<|(t1.trans t2).trans t3⟩
noncomputable def mX:List Str->List PV->Str->Option PV
 |k::ks,x::xs,q=>if k=q then some x else mX ks xs q|_,_,_=>none
theorem Ah{K:KK}{F:Hp}{k:Str}{p:PV}:∀{ks:List Str}{xs:List PV}{us:List (Key×V)},us.map (·.1)=ks.map .inr->â K F xs (us.map (·.2))->mX ks xs k=some p->∃v,mR us (ŝ k)=some v/\ă K F p v
 |[],_,_,_,_,h=>by unfold mX at h;cases h|_::_,[],_,_,_,h=>by unfold mX at h;cases h|q::ks,x::xs,us,h1,h2,h=>by
  cases us with
  |nil=>cases h1|cons u us=>
   rw[Ó,Ó,BI]at h1;unfold â at h2;obtain⟨y,r,h3,h4,h5⟩:=h2;rw[Ó,BI]at h3;obtain⟨h3,rfl⟩:=h3;unfold mX at h;split at h
   ·rename_i z;subst z;cases h;exact⟨u.2,kR h1.1,h3▸h4⟩
   ·rename_i z;rw[kS (by rw[h1.1];exact λw=>z<|xB w)];exact Ah h1.2 h5 h
def Ai(mo mk:M PV):M PV:=λc=>(mo c).bind λp a=>(mk a).bind λq b=>match p,q with
 |.zn ks xs,.str k=>ĵ.zp (mX ks xs k) b|_,_=>.bad
def Mx{o e:È}{pos:Pos}{mo mk:M PV}(hu:X.A.units+64<Ń)(ho:PE X o (tV (kk X cm) E mo))(hk:PE X e (tV (kk X cm) E mk))(hs:Mr e:=by intro _ _;rfl):PE X (.Subscript o e pos) (tV (kk X cm) E<|Ai mo mk):=PE.wk (C1 (by lia) ho hk hs) λj H Q ⟨c,F,d,rel,h⟩=>
 ⟨c,F,d,rel,h.bind fun p b x F1 H1 ã s1 s2 r1 h1=>⟨c,F1,b,ã,h1.bind fun q f y F2 H2 ē t1 t2 r2 h2=>by
   split at h2
   ·rename_i ks xs k;have kA:ă (kk X cm) F1 (.zn ks xs) x:=r1;unfold ă at kA;obtain⟨a,us,rfl,g1,g2,g3⟩:=kA;have ey:y=.str k:=by have:ă (kk X cm) F2 (.str k) y:=r2;unfold ă at this;exact this
    subst ey;cases el:mX ks xs k with
    |none=>rw[el]at h2;exact h2.elim|some p=>rw[el]at h2;obtain⟨v,v1,v2⟩:=Ah g2 (g3.same t1 _ _) el;have g:=yI.k (k:=.inr k)<|ē.sub _ _<|t1 _ _ g1;rw[v1]at g;exact⟨a,v,rfl,g,h2 v F2 H2 ē Č Č v2⟩
   ·exact h2.elim⟩⟩
end
open M5
def Qj(st:í):List Str:=(ÿ st).names.filterMap λy=>match y.2 with
 |.local=>some y.1|.cell=>some y.1|_=>none
def uP(st:í):List Str:=(bG st).args.map (·.arg)
set_option genInjectivity false in
set_option genSizeOf false in
structure VE where
 Pg:ä
 w:Þ
 K:Î
 mg:Str->Option Á
 cm:String->À
abbrev Kc(V:VE)(C:String):Prop:=Az V.K<|V.cm C
abbrev Na(V:VE)(C:String)(f:Str):Prop:=ff V.K (V.cm C) f
structure Gz(mg:Str->Option Á)(x:String):Prop where
 h:mg x=none
structure Gc(V:VE)(C:String):Prop where
 h:V.mg C=some (.ref<|V.cm C)
structure Gi(mg:Str->Option Á)(x:String)(i:Int):Prop where
 ex:∃t,mg x=some (.int i t)
structure Gs(mg:Str->Option Á)(x:String)(z:Str):Prop where
 ex:∃t,mg x=some (.str z t)
structure Dn(V:VE)(x:String)(st:í)(N:List Str)(mf:MF)(k:Nat):Prop where
 ex:∃f fd,Df V.K V.mg x st (uP st) f fd
structure Dw(V:VE)(x:String)(st:í)(N:List Str)(mf:MW)(k:Nat):Prop where
 ex:∃f fd,Df V.K V.mg x st (uP st) f fd
structure Di(V:VE)(C:String)(q:Str)(st:í)(mi:MI)(k:Nat):Prop where
 ex:∃f fd,Mk V.K (V.cm C) f/\Dm V.K (V.cm C) "__init__" q st (uP st) f fd
structure Dh(V:VE)(C y:String)(q:Str)(st:í)(mf:MF)(k:Nat):Prop where
 ex:∃f fd,Em V.K (V.cm C) y f/\Dm V.K (V.cm C) y q st (uP st) f fd
structure Cl(x:String)(k:Nat)(sp:Sp)(V:VE):Prop where
 ex:∃f fd ps st,Df V.K V.mg x st ps f fd/\∀base,b_ V.Pg V.w V.K V.mg base DM k f fd ps sp
structure Ci(C:String)(k n:Nat)(mi:MI)(V:VE):Prop where
 ex:∃f fd ps,Mk V.K (V.cm C) f/\Binds V.K fd ps []/\∀base,b_ V.Pg V.w V.K V.mg base DM k f fd ps<|O3 ⟨V.K,V.cm⟩ n C mi
structure Ch(y:String)(C:String)(k n:Nat)(mf:MF)(V:VE):Prop where
 ex:∃f fd ps,Em V.K (V.cm C) y f/\Binds V.K fd ps []/\∀base,b_ V.Pg V.w V.K V.mg base DM k f fd ps<|vE ⟨V.K,V.cm⟩ n mf
noncomputable abbrev vX(X:Cx)(cm:String->À):VE:=⟨X.prog,X.w,X.K,X.mg,cm⟩
section
variable{X:Cx}{cm:String->À}{E:Ċ->XK}{k j n:Nat}{mf:MF}{mr:M (List Slot)}{x:String}{C:String}{p pos Er:Pos}{e:È}{es:List È}
def ù(hr:ϫ j X.A)(ha:PA X (e::es) (tA (kk X cm) E mr))(F:Cl x k (vE (kk X cm) n mf) (vX X cm):=by assumption)(hlen:∀{ps:List Slot},(∃r,mf ps=r/\∀z,r=z->z≠.bad)->ps.length=n:=by exact oZ)(hg:Gl X x:=by kernel_rfl)(Bu:k<=j:=by decide)(qz:((x:Str)==("__debug__":Str))=false:=by kernel_rfl)(he:Ð (e::es) X.env=(false,eval e X.env)::Ð es X.env:=by exact Ō rfl)(hpl:(Ĉ pos<|Ð es X.env).any (·.1)=false:=by kernel_rfl):
 PE X (.Call (.Name x p) (e::es) [] pos) (tO (kk X cm) E<|Ý mf mr):=by
 obtain⟨_,_,_,_,D,F⟩:=F.ex;exact II (F _) D hr nH ha hlen hg Bu qz he hpl
def Mz{mf:MW}{m:Nat}(hr:ϫ j X.A){ns:List Nat}(ha:PA X (e::es) (Np ns))(F:Cl x k (PQ (kk X cm) m mf) (vX X cm):=by assumption)(hlen:∀{as:List Slot},mf as≠.bad->as.length=m:=by exact qr)(hg:Gl X x:=by kernel_rfl)(Bu:k<=j:=by decide)(qz:((x:Str)==("__debug__":Str))=false:=by kernel_rfl)(he:Ð (e::es) X.env=(false,eval e X.env)::Ð es X.env:=by exact Ō rfl)(hpl:(Ĉ pos<|Ð es X.env).any (·.1)=false:=by kernel_rfl)(hs:ņ (.Call (.Name x p) (e::es) [] pos) none Er.line X.env=ì false:=by kernel_rfl):
 ca X [.Expr (.Call (.Name x p) (e::es) [] pos) Er] (tW (kk X cm) E n<|ϵ mf ns):=by
 obtain⟨_,_,_,_,D,F⟩:=F.ex;exact w_call (F _) D hr nH ha hlen hg Bu qz he hpl hs
def Qk{sp:Sp}{ta:TA}(hr:ϫ j X.A)(ha:PA X (e::es) ta)(F:Cl x k sp (vX X cm):=by assumption)(hg:Gl X x:=by kernel_rfl)(Bu:k<=j:=by decide)(qz:((x:Str)==("__debug__":Str))=false:=by kernel_rfl)(he:Ð (e::es) X.env=(false,eval e X.env)::Ð es X.env:=by exact Ō rfl)(hpl:(Ĉ pos<|Ð es X.env).any (·.1)=false:=by kernel_rfl):
 PE X (.Call (.Name x p) (e::es) [] pos) (λa H Q=>ta a H λvs H1=>sp vs H1 Q<|E a):=by
 obtain⟨_,_,_,_,D,F⟩:=F.ex;exact zZ (F _) (hr.mono Bu) hg D.m D.F.kp D.b nH ha qz he hpl
def yJ{mi:MI}{ms:M (List Slot)}(hr:ϫ j X.A)(ha:PA X (e::es) (tA (kk X cm) E ms))(F:Ci C k n mi (vX X cm):=by assumption)(hm:Gc (vX X cm) C:=by assumption)(hlen:∀{as:List Slot},(∃r,mi as=r/\∀z,r=z->z≠.bad)->as.length+1=n:=by exact D_)(hg:Gl X C:=by kernel_rfl)(Bu:k+1<=j:=by decide)(qz:((C:Str)==("__debug__":Str))=false:=by kernel_rfl)(he:Ð (e::es) X.env=(false,eval e X.env)::Ð es X.env:=by exact Ō rfl)(hpl:(Ĉ pos<|Ð es X.env).any (·.1)=false:=by kernel_rfl):
 PE X (.Call (.Name C p) (e::es) [] pos) (tV (kk X cm) E<|eW C mi ms):=by
 obtain⟨_,_,_,M,B,F⟩:=F.ex;exact LF M (F _) hlen (hr.mono Bu) hg hm.h B nH ha qz he hpl
def Ql{y:String}(hc:Az X.K (cm C):=by assumption)(F:Ch y C k n mf (vX X cm):=by assumption)(Bu:k<=j:=by decide)(hlen:∀{ps:List Slot},(∃r,mf ps=r/\∀z,r=z->z≠.bad)->ps.length=n:=by exact oZ):qh X cm DM j n y C mf:=by obtain⟨_,_,_,M,B,F⟩:=F.ex;exact⟨hc,_,_,_,M,(F _).mono Bu,B,hlen⟩
def Vs(F:Cl C k (vE (kk X cm) n mf) (vX X cm):=by assumption)(hm:Gc (vX X cm) C:=by assumption)(Bu:k<=j:=by decide)(hlen:∀{ps:List Slot},(∃r,mf ps=r/\∀z,r=z->z≠.bad)->ps.length=n:=by exact oZ):C_ X cm DM j n C mf:=by obtain⟨_,_,_,_,D,F⟩:=F.ex;cases D.m.symm.trans hm.h;exact⟨_,_,D.F.kp,(F _).mono Bu,D.b,hlen⟩
def ϶{f:Str}{cs:List String}{m:M PV}(he:PE X e (tR (kk X cm) E m))(MY:A3 (λC=>Az X.K (cm C)/\ff X.K (cm C) f) cs:=by repeat' first|assumption|apply And.intro|exact True.intro)(hb:dh e f X.env (eval e X.env)=eval e X.env:=by kernel_rfl):PE X (.Attribute e f pos) (tV (kk X cm) E<|eR (ŏ cs f) m):=O2 cs MY he hb
def kT{i:Nat}{x f:Str}{px aY:Pos}{cs:List String}{m:M PV}(ho:PE X (.Name x px) (dQ i))(he:PE X e (tV (kk X cm) E m))(MY:A3 (λC=>Az X.K (cm C)/\ff X.K (cm C) f) cs:=by repeat' first|assumption|apply And.intro|exact True.intro)(hs:ņ e (some<|.Attribute (.Name x px) f aY) pos.line X.env=ì false:=by kernel_rfl):
 PS X (.Assign [.Attribute (.Name x px) f aY] e pos) (tS (kk X cm) E<|km i cs f m):=LC cs MY ho he hs
def I0{pl:Sem Bool}{o:È}{qK:Str}{dI:Pos}{am:List (String×MF)}{m:M PV}{ms:M (List Slot)}(hr:ϫ k X.A)(he:PE X o (tV (kk X cm) E m))(ha:PA X (e::es) (tA (kk X cm) E ms))(nK:uh (λC mf=>qh X cm DM k n qK C mf) am:=by repeat' first|exact Ql|apply And.intro|exact True.intro)
 (gi:Ð (e::es) X.env=(false,eval e X.env)::Ð es X.env:=by exact Ō rfl)(hpl:(Ĉ pos<|Ð es X.env).any (·.1)=false:=by kernel_rfl)
 (ht:eval (.Call (.Attribute o qK dI) (e::es) [] pos) X.env=(do
   let ov<-eval o X.env
   gR dI.atName
   let (f,first)<-cB [ov] (lJ ov qK pl)
   g_ pos f first (Ĉ pos<|Ð (e::es) X.env) (bv pos<|bz [] X.env)):=by rfl):
 PE X (.Call (.Attribute o qK dI) (e::es) [] pos) (tO (kk X cm) E<|gq qK am m ms):=LB nK hr nH he ha gi hpl ht
def Qm{pl:Sem Bool}{o:È}{qK:Str}{dI:Pos}{am:List (String×MF)}{m:M PV}(hr:ϫ k X.A)(he:PE X o (tV (kk X cm) E m))(nK:uh (λC mf=>qh X cm DM k n qK C mf) am:=by repeat' first|exact Ql|apply And.intro|exact True.intro)
 (ht:eval (.Call (.Attribute o qK dI) [] [] pos) X.env=(do
   let ov<-eval o X.env
   gR dI.atName
   let (f,first)<-cB [ov] (lJ ov qK pl)
   g_ pos f first (Ĉ pos<|Ð [] X.env) (bv pos<|bz [] X.env)):=by rfl):
 PE X (.Call (.Attribute o qK dI) [] [] pos) (tO (kk X cm) E<|gq qK am m Ø):=Iq nK hr nH he ht
def Vt{o:È}{am:List (String×MF)}{m:M PV}{ms:M (List Slot)}(hr:ϫ k X.A)(he:PE X o (tV (kk X cm) E m))(ha:PA X (e::es) (tA (kk X cm) E ms))(nK:uh (λC mf=>C_ X cm DM k n C mf) am:=by repeat' first|exact Vs|apply And.intro|exact True.intro)
 (gi:Ð (e::es) X.env=(false,eval e X.env)::Ð es X.env:=by exact Ō rfl)(hpl:(Ĉ pos<|Ð es X.env).any (·.1)=false:=by kernel_rfl)
 (ht:eval (.Call o (e::es) [] pos) X.env=(do g_ pos (<-eval o X.env) [] (Ĉ pos<|Ð (e::es) X.env) (bv pos<|bz [] X.env)):=by rfl):
 PE X (.Call o (e::es) [] pos) (tO (kk X cm) E<|IW am m ms):=Qc nK hr nH he ha gi hpl ht
def nP{i:Int}(h:Gi X.mg x i:=by assumption)(hg:Gl X x:=by kernel_rfl)(hd:((x:Str)==("__debug__":Str))=false:=by kernel_rfl):PE X (.Name x pos) (tV (kk X cm) E<|mC<|.int i):=by obtain⟨t,h⟩:=h.ex;exact Lk _<|xG (v:=.int i) hg h ⟨_,rfl⟩ hd
def Qn{z:Str}(h:Gs X.mg x z:=by assumption)(hg:Gl X x:=by kernel_rfl)(hd:((x:Str)==("__debug__":Str))=false:=by kernel_rfl):PE X (.Name x pos) (tV (kk X cm) E<|mC<|.str z):=by obtain⟨t,h⟩:=h.ex;exact Lk _<|xG (v:=.str z) hg h ⟨_,rfl⟩ hd
def Qo(h:Gc (vX X cm) x:=by assumption)(hg:Gl X x:=by kernel_rfl)(hd:((x:Str)==("__debug__":Str))=false:=by kernel_rfl):PE X (.Name x pos) (tV (kk X cm) E<|mC<|.cls x):=
 Lk _ (xG (v:=.ref<|cm x) hg h.h rfl hd)
def gz(h:Gz X.mg x:=by assumption):X.mg x=none:=h.h
end
section
variable{V:VE}{x:String}{q:Str}{st:í}{N:List Str}{k n j:Nat}{mb:M Fl}{mf:MF}{G:Prop}{C y:String}
set_option genInjectivity false in
set_option genSizeOf false in
structure HZ where
 f:À
 base:Ñ
 cdv:Á
 A:ê
 outer:List Env
 s:Ã
 H:Hp
 E:XK
abbrev HB(V:VE)(q:Str)(st:í)(N:List Str)(k:Nat)(t:XK->TS):Prop:=ό N (uP st) (ÿ st)->∀z:HZ,ϫ k (z.A.deeper<|Ϙ q (ÿ st) z.s.heap.objs.size z.f z.cdv)->(z.A.deeper<|Ϙ q (ÿ st) z.s.heap.objs.size z.f z.cdv).units+64<Ń->
 ca (tM DM V.Pg V.w V.K V.mg z.base N q (ÿ st) z.f z.cdv z.A z.outer z.s z.H z.E) (ύ st) (t z.E)
def Ϸ(D:Dn V x st N mf k)(hf:mf=ď n j mb)(hb:HB V x st N k λE=>tS ⟨V.K,V.cm⟩ (λ_=>E) mb)(hg:Cl x (k+1) (vE ⟨V.K,V.cm⟩ n mf) V->G)(hn:(uP st).length=n:=by rfl)(hj:N.length=j:=by rfl)(S:ό N (uP st) (ÿ st):=by exact Pz):G:=by obtain⟨f,fd,D⟩:=D.ex;exact hg ⟨f,fd,_,st,D,λbase=>L7 D.F S (λcdv A outer s H E=>hb S ⟨f,base,cdv,A,outer,s,H,E⟩) hn hj hf⟩
def Sj{mf:MW}{mb:M WR}(D:Dw V x st N mf k)(hf:mf=gt n j mb)(hb:HB V x st N k λE=>tW ⟨V.K,V.cm⟩ (λ_=>E) (uP st).length mb)(hg:Cl x (k+1) (PQ ⟨V.K,V.cm⟩ n mf) V->G)(hn:(uP st).length=n:=by rfl)(hj:N.length=j:=by rfl)(S:ό N (uP st) (ÿ st):=by exact Pz):G:=by obtain⟨f,fd,D⟩:=D.ex;exact hg ⟨f,fd,_,st,D,λbase=>fnW D.F S (λcdv A outer s H E=>hb S ⟨f,base,cdv,A,outer,s,H,E⟩) hn hj hf⟩
def stI{mi:MI}(D:Di V C q st mi k)(hf:mi=dO n n C mb)(hb:HB V q st (uP st) k λE=>tS ⟨V.K,V.cm⟩ (λ_=>E) mb)(hg:Ci C (k+1) n mi V->G)(hn:(uP st).length=n:=by rfl)(S:ό (uP st) (uP st) (ÿ st):=by exact Pz):G:=by obtain⟨f,fd,M,D⟩:=D.ex;exact hg ⟨f,fd,_,M,D.b,λbase=>fnI D.F S hn hn hf λcdv A outer s H E hr=>hb S ⟨f,base,cdv,A,outer,s,H,E⟩ hr hr.units⟩
def stH(D:Dh V C y q st mf k)(hf:mf=ď n j mb)(hb:HB V q st (Qj st) k λE=>tS ⟨V.K,V.cm⟩ (λ_=>E) mb)(hg:Ch y C (k+1) n mf V->G)(hn:(uP st).length=n:=by rfl)(hj:(Qj st).length=j:=by rfl)(S:ό (Qj st) (uP st) (ÿ st):=by exact Pz):G:=by obtain⟨f,fd,M,D⟩:=D.ex;exact hg ⟨f,fd,_,M,D.b,λbase=>L7 D.F S (λcdv A outer s H E=>hb S ⟨f,base,cdv,A,outer,s,H,E⟩) hn hj hf⟩
abbrev Qp(V:VE)(fa:À)(z:Str)(k:Nat)(mf:MF):Prop:=∃fd:ċ,(∀(s:Ã) (v:Á),fO s fd ⟨[v],[]⟩ [(z,v)])/\∀base:Ñ,V.K.In base->base.Ns Ĥ V.mg->∃cm,b_ V.Pg V.w V.K V.mg base DM k fa fd [z] (vE ⟨V.K,cm⟩ 1 mf)
def stL{fa:À}{z:Str}(D:Dn V x st N mf k)(hf:mf=ď 1 j mb)(hb:HB V x st N k λE=>tS ⟨V.K,V.cm⟩ (λ_=>E) mb)(hm:V.mg x=some (.ref fa):=by assumption)(hn:uP st=[z]:=by rfl)(hj:N.length=j:=by rfl)(S:ό N (uP st) (ÿ st):=by exact Pz):
 Qp V fa z (k+1) mf:=by
 obtain⟨f,fd,D⟩:=D.ex;cases D.m.symm.trans hm;have B:=D.bb;have Q:=λbase=>L7 D.F S (λcdv A outer s H E=>hb S ⟨_,base,cdv,A,outer,s,H,E⟩) (by rw[hn];rfl) hj hf;rw[hn]at B Q;exact⟨fd,λs v=>B s [v] rfl,λbase _ _=>⟨_,Q base⟩⟩
end
def Ei(K:Î)(x:Str):À:=match eL K Ĥ x with
 |some (some<|.ref a)=>a|_=>0
def cmK(K:Î)(s:String):À:=Ei K s
def Bn(K:Î)(C:À)(y:Str):À:=match ϛ K (.ref C) y with
 |some (some<|.ref a)=>a|_=>0
def G3(K:Î)(f:À):Option ċ:=match K.lookup f with
 |some ⟨_,_,.func fd,_⟩=>some fd|_=>none
def Nq(K:Î)(f:À)(x q:Str)(st:í):ċ:=
 let d:=(G3 K f).getD gK
 aO x q (bG st) (ύ st) (ÿ st) .none d.kwdefaults d.doc d.pyModule d.annotations d.code d.closureTuple
def GG{K:Î}{f:À}{fd:ċ}(h:G3 K f=some fd):∃oc od sl,K.lookup f=some ⟨oc,od,.func fd,sl⟩:=by
 unfold G3 at h;split at h
 ·cases h;exact⟨_,_,_,by assumption⟩
 ·cases h
def JY(K:Î)(f:À)(q:Str):Bool:=lZ K ((G3 K f).getD gK).code q&&bE K (.ref f)
section
variable{V:VE}{h:Ñ}{x C y:String}{st:í}{k:Nat}{q:Str}
abbrev Nr(x q:Str)(st:í):Prop:=∀(kV dc pm:Á) (an:Option À) (cd ct:Á),BN (uP st).length λus=>oB (aO x q (bG st) (ύ st) (ÿ st) .none kV dc pm an cd ct) ⟨us,[]⟩=ì ((uP st).zip us)
def Vu(KX:V.K.In h)(G:h.Ns Ĥ V.mg)(e:eL V.K Ĥ x=some none):Gz V.mg x:=⟨PySem.W.mg_none_of KX G e⟩
def Vv(KX:V.K.In h)(G:h.Ns Ĥ V.mg)(e:eL V.K Ĥ C=some (some<|.ref<|V.cm C)):Gc V C:=⟨sT KX G e⟩
def X4(K:Î)(x:Str):Tok:=match eL K Ĥ x with
 |some (some<|.int _ t)=>t|some (some<|.str _ t)=>t|_=>0
def Vw{i:Int}(KX:V.K.In h)(G:h.Ns Ĥ V.mg)(e:eL V.K Ĥ x=some (some<|.int i<|X4 V.K x)):Gi V.mg x i:=⟨_,sT KX G e⟩
def Vx{z:Str}(KX:V.K.In h)(G:h.Ns Ĥ V.mg)(e:eL V.K Ĥ x=some (some<|.str z<|X4 V.K x)):Gs V.mg x z:=⟨_,sT KX G e⟩
def Qq(KX:V.K.In h)(G:h.Ns Ĥ V.mg)(hb:Nr x x st)(a:eL V.K Ĥ x=some (some<|.ref<|Ei V.K x))(l:G3 V.K (Ei V.K x)=some (Nq V.K (Ei V.K x) x x st))(c:JY V.K (Ei V.K x) x=true):∃f fd,Df V.K V.mg x st (uP st) f fd:=by have c':=c;unfold JY at c';rw[l,ú]at c';obtain⟨_,_,_,l⟩:=GG l;exact⟨_,_,Px KX G hb a l c'.1 c'.2⟩
def Vy{N:List Str}{mf:MF}(KX:V.K.In h)(G:h.Ns Ĥ V.mg)(hb:Nr x x st)(a:eL V.K Ĥ x=some (some<|.ref<|Ei V.K x))(l:G3 V.K (Ei V.K x)=some (Nq V.K (Ei V.K x) x x st))(c:JY V.K (Ei V.K x) x=true):Dn V x st N mf k:=⟨Qq KX G hb a l c⟩
def Vz{N:List Str}{mf:MW}(KX:V.K.In h)(G:h.Ns Ĥ V.mg)(hb:Nr x x st)(a:eL V.K Ĥ x=some (some<|.ref<|Ei V.K x))(l:G3 V.K (Ei V.K x)=some (Nq V.K (Ei V.K x) x x st))(c:JY V.K (Ei V.K x) x=true):Dw V x st N mf k:=⟨Qq KX G hb a l c⟩
def Qr{K:Î}{c:À}{y q:Str}(hb:Nr y q st)(a:ϛ K (.ref c) y=some (some<|.ref<|Bn K c y))(l:G3 K (Bn K c y)=some (Nq K (Bn K c y) y q st))(b:JY K (Bn K c y) q=true):∃fd,Dm K c y q st (uP st) (Bn K c y) fd:=by have c':=b;unfold JY at c';rw[l,ú]at c';obtain⟨_,_,_,l⟩:=GG l;exact⟨_,Py hb a l c'.1 c'.2⟩
def VA{mi:MI}(hb:Nr "__init__" q st)(m:UU V.K (V.cm C) (Bn V.K (V.cm C) "__init__")=true)(a:ϛ V.K (.ref<|V.cm C) "__init__"=some (some<|.ref<|Bn V.K (V.cm C) "__init__"))(l:G3 V.K (Bn V.K (V.cm C) "__init__")=some (Nq V.K (Bn V.K (V.cm C) "__init__") "__init__" q st))(b:JY V.K (Bn V.K (V.cm C) "__init__") q=true):Di V C q st mi k:=by obtain⟨_,d⟩:=Qr hb a l b;exact⟨_,_,O9 m,d⟩
def VB{mf:MF}(hb:Nr y q st)(m:FT V.K (V.cm C) y (Bn V.K (V.cm C) y)=true)(a:ϛ V.K (.ref<|V.cm C) y=some (some<|.ref<|Bn V.K (V.cm C) y))(l:G3 V.K (Bn V.K (V.cm C) y)=some (Nq V.K (Bn V.K (V.cm C) y) y q st))(b:JY V.K (Bn V.K (V.cm C) y) q=true):Dh V C y q st mf k:=by obtain⟨_,d⟩:=Qr hb a l b;exact⟨_,_,Iy m,d⟩
def uC:List gZ->List (Str×Tok)
 |[]=>[]|e::r=>match e.key with
  |.str x t=>(x,t)::uC r|_=>uC r
theorem wc:∀l:List gZ,(uC l).length<=l.length
 |[]=>ø _|e::r=>by
  have:=wc r;unfold uC;split
  ·exact Nat.succ_le_succ this
  ·exact Nat.le_succ_of_le this
theorem C3{P:gX}:∀{l:List gZ},(l.map λe=>(e.key,e.hash))=((uC l).map λx=>(lY x.1 x.2,PyData.keyHash P x.1))->PySem.W.KeysLit P l
 |[],_=>True.intro|e::r,h=>by
  unfold uC at h;split at h
  ·rename_i x t e1;rw[Ó,Ó]at h;obtain⟨h1,h2⟩:=List.cons.inj h;exact⟨⟨x,t,e1,congrArg (·.2) h1⟩,C3 h2⟩
  ·have:=congrArg bq h;simp at this;have:=wc r;lia
def Qs(K:Î)(a:À):Array gZ×Nat:=match K.lookup a with
 |some ⟨_,_,.dict es n,_⟩=>(es,n)|_=>(#[],0)
def MA{K:Î}{cm:String->À}{pm:gX}{a:À}{am:List (Str×PV)}(h1:K.lookup a=some ⟨.type "dict",none,.dict (Qs K a).1 (Qs K a).2,#[]⟩)(h2:((Qs K a).1.toList.map λe=>(e.key,e.hash))=((uC (Qs K a).1.toList).map λx=>(lY x.1 x.2,PyData.keyHash pm x.1)))(h3:Ed K cm am (Qs K a).1.toList=true)(h4:(a==cA)=false):yH K cm pm a am:=⟨_,_,h1,C3 h2,h3,h4⟩
end
end P
namespace My
noncomputable def gd(a b:Int):Int:=((Int.gcd a b:Nat):Int)
def Z48(a b:Int):gd b (Int.fmod a b)=gd a b:=by unfold gd;rw[Int.fmod_def,Int.gcd_sub_mul_left_right,Int.gcd_comm]
def Z49(a:Int){b:Int}(h:b≠0):(Int.fmod a b).natAbs<b.natAbs:=by
 rcases(by lia:0<b\/b<0)with h|h
 ·have h1:=By a h;have h2:=Int.fmod_lt_of_pos a h;lia
 ·have e:=Int.neg_fmod_neg a b;have h1:=By (-a) (show 0< -b by lia);have h2:=Int.fmod_lt_of_pos (-a) (show 0< -b by lia);lia
def Z4a(a:Int):gd a 0=if a<0then -a else a:=by unfold gd;rw[Int.gcd_zero];split<;>lia
def Z4R(a:Int){b:Int}(h:b≠0):0<gd a b:=by have:=Int.gcd_ne_zero_right (a:=a) h;unfold gd;lia
def Z2w(a b:Int):0<=gd a b:=by unfold gd;lia
def Z5x(a:Int){b:Int}(h:b≠0):gd a b<=b.natAbs:=by unfold gd;have:=Int.gcd_dvd_natAbs_right a b;have:=Nat.le_of_dvd (by lia) this;lia
def dv(t b:Int):Int:=if b<0then-gd t b else gd t b
end My
namespace Hu
abbrev Pt:=Int×Int
noncomputable def tn(a b c:Pt):Int:=(b.1-a.1)*(c.2-a.2)-(b.2-a.2)*(c.1-a.1)
section
variable{p:Pt}
noncomputable def dt(u v:Pt)(p:Pt):Int:=(u.1-p.1)*(v.1-p.1)+(u.2-p.2)*(v.2-p.2)
end
abbrev Ln:=Int×Int×Int
noncomputable def hd(l:Ln)(p:Pt):Bool:=decide<|l.1*p.1+l.2.1*p.2<=l.2.2
def Z8(a b:Pt):Ln:=(b.2-a.2,a.1-b.1,(b.2-a.2)*a.1+(a.1-b.1)*a.2)
def X5{a b s:Pt}:hd (Z8 a b) s=true↔0<=tn a b s:=by
 unfold hd Z8;rw[decide_eq_true_iff];have e:tn a b s=((b.2-a.2)*a.1+(a.1-b.1)*a.2)-((b.2-a.2)*s.1+(a.1-b.1)*s.2):=by simp only[tn];grind
 dsimp only;lia
def Z6(S:List Pt):List Pt:=S.foldl (λk x=>if x∈k then k else k++[x]) []
theorem X6(x:Pt):∀(S k:List Pt),x∈S.foldl (λk x=>if x∈k then k else k++[x]) k↔x∈k\/x∈S
 |[],k=>by simp|y::S,k=>by
  rw[br,X6 x S];by_cases h:y∈k
  ·rw[if_pos h];constructor
   ·rintro (q|q)
    ·exact .inl q
    ·exact .inr<|õ _ q
   ·rintro (q|q)
    ·exact .inl q
    ·rcases þ.mp q with e|e
     ·exact .inl<|e▸h
     ·exact .inr e
  ·rw[if_neg h];simp only[Ů,þ,aK,or_false];constructor
   ·rintro ((q|q)|q)
    ·exact .inl q
    ·exact .inr<|.inl q
    ·exact .inr<|.inr q
   ·rintro (q|q|q)
    ·exact .inl<|.inl q
    ·exact .inl<|.inr q
    ·exact .inr q
def Zu{x:Pt}{S:List Pt}:x∈Z6 S↔x∈S:=by unfold Z6;rw[X6];simp
def ZO(S:List Pt):List Ln:=(Z6 S).flatMap λa=>(Z6 S).filterMap λb=>if a≠b/\(Z6 S).all (hd<|Z8 a b)then some (Z8 a b)else none
def Z2x{S:List Pt}{l:Ln}:l∈ZO S↔∃a∈S,∃b∈S,a≠b/\(∀s∈S,0<=tn a b s)/\l=Z8 a b:=by
 unfold ZO;simp only[List.mem_flatMap,wx];constructor
 ·rintro ⟨a,ha,b,hb,h⟩;split at h
  ·rename_i hc;refine⟨a,Zu.mp ha,b,Zu.mp hb,hc.1,λs hs=>?_,(Ś h).symm⟩;exact X5.mp<|cy.mp hc.2 s<|Zu.mpr hs
  ·cases h
 ·rintro ⟨a,ha,b,hb,h1,h2,rfl⟩;refine⟨a,Zu.mpr ha,b,Zu.mpr hb,?_⟩;rw[if_pos ⟨h1,cy.mpr λs hs=>X5.mpr<|h2 s<|Zu.mp hs⟩]
noncomputable def mx(l:List Int):Int:=l.tail.foldl max<|l.headD 0
noncomputable def mn(l:List Int):Int:=l.tail.foldl min<|l.headD 0
def box(S:List Pt):List Ln:=[(1,0,mx<|S.map (·.1)),(-1,0,-mn (S.map (·.1))),(0,1,mx<|S.map (·.2)),(0,-1,-mn (S.map (·.2)))]
def ZF(S:List Pt):List Ln:=box S++ZO S
def ZL(S:List Pt)(p:Pt):Option Ln:=(ZF S).find? λl=>!hd l p
def Nt(a b c p:Pt):List Int:=[tn p b c,tn a p c,tn a b p]
noncomputable def Nu(a b p:Pt):List Int:=
 let g:=(b.1-a.1)*(p.1-a.1)+(b.2-a.2)*(p.2-a.2)
 [(b.1-a.1)*(b.1-a.1)+(b.2-a.2)*(b.2-a.2)-g,g]
noncomputable def at_(S:List Pt)(i:Nat):Pt:=S.getD i (0,0)
def Z4S{S:List Pt}{i:Nat}(h:i<S.length):at_ S i∈S:=by unfold at_;rw[aJ,ţ h];exact Œ h
structure Z69(S:List Pt)(p:Pt)(w:List Int)(q:List Nat):Prop where
 len:w.length=q.length
 sum:w.sum≠0
 sign:∀s∈w,0<=s*w.sum
 nd:q.Nodup
 lt:∀i∈q,i<S.length
 x:((w.zip q).map λa=>a.1*(at_ S a.2).1).sum=w.sum*p.1
 y:((w.zip q).map λa=>a.1*(at_ S a.2).2).sum=w.sum*p.2
end Hu
namespace Fr
end Fr
namespace T
open PySem L2 M2 M3 M4 P
noncomputable section
def top(i:Nat):í:=PySem.Challenge.pw_shadowpost_k84_whole_hours_two_ways.main.body.getD i<|.Pass ⟨0,0,0,0⟩
def ZD:List (Str×PV):=[("show",.tup [.int 0,.int 0,.cls "answer_show"]),("dark",.tup [.int 1,.int 1,.cls "answer_dark"]),("who",.tup [.int 1,.int 3,.cls "answer_who"]),("lit",.tup [.int 1,.int 2,.cls "answer_lit"]),("hours",.tup [.int 0,.int 2,.cls "answer_hours"]),("first",.tup [.int 0,.int 2,.cls "answer_first"]),("walk",.tup [.int 1,.int 4,.cls "answer_walk"]),("dial",.tup [.int 0,.int 3,.cls "answer_dial"])]
def pF:M Fl:=(Ā<|Ļ<|aW A_<|É (Â 2) å)
def jX:M Fl:=(è (cW (Ϥ<|Ú<|uY (Â 0) (mP<|é 1)<|mP<|Ú<|ü ô (Â 1)<|Ç 1) (gN 2) pF)
 (Ā<|Ļ<|Ç 0))
def ō:MF:=ď 2 3 jX
def ź:M Fl:=(è (H0 (gS 2<|ð (gN 7)<|ð (gN 8) ű)<|aW ij<|É (Â 3)<|É (Ç 4099) å)
 (ý 3<|Ļ<|Ê ĥ (Ú<|ü ô (Ú<|ü ô (Ú<|ü ô (Ê ą (Â 8)<|Ç 240007)<|Ê ą (Â 7)<|Ç 89)<|Ê ą (Ç 1201)<|aW aX<|É (Â 2) å)<|Ç 11)<|Ç 998244353))
def be:M Fl:=(aE (ay<|Ê nI (aW aX<|É (Â 2) å)<|Â 1)
 (è (cW (ŷ Ϟ<|É (Ç 2) å) (gN 5) ź)
 (uX 2<|Ê bU (Â 3)<|Ç 5)))
def bf:M Fl:=(è (H0 (gS 2<|ð (gN 3)<|ð (gN 6) ű)<|aW ij<|É (Â 3)<|É (Ê ub (Ç 10)<|Ç 9) å)
 (uX 2<|é 6))
def gu:M Fl:=(è (ý 2<|bI å)
 (è (ý 3<|Ļ<|Ê bU (Â 0)<|Ç 2)
 (è (cW (ŷ Ϟ<|É (Ê ą (Â 1)<|Ê Ş (Ç 1)<|Ê ĥ (Â 0)<|Ç 2) å) (gN 4) bf)
 (è (ý 3<|ü ô (Ê ĥ (Â 3)<|Ç 998244341)<|Ç 5)
 (è be
 (Ā<|ce 2))))))
def Ų:MF:=ď 2 9 gu
def dz:M Fl:=(è (ý 1<|Ý Ų<|Ì 0<|à (Ç 4) Ø)
 (è (a_ (ay<|Ê Ĺ (Ê ĥ (Ê æ (Â 1)<|Ç 3)<|Ç 6)<|Ç 4)
 (Ā<|Ļ<|mC .non)
 cY)
 (è (a_ (ay<|Ê Ĺ (Ê ĥ (Ê æ (Â 1)<|Ç 3)<|Ç 6)<|Ç 5)
 (Ā<|Ļ<|ŵ<|É (Ê Ş (Ê ĥ (Ê æ (Â 1)<|Ç 0)<|Ç 2000001)<|Ç 1000000)<|É (Ê Ş (Ê ĥ (Ê æ (Â 1)<|Ç 1)<|Ç 2000001)<|Ç 1000000)<|É (Ú<|ü ô (Ç 1)<|Ê ĥ (Ê æ (Â 1)<|Ç 2)<|Ç 1000000) å)
 cY)
 (Ā<|Ļ<|ŵ<|É (Ê Ş (Ê ĥ (Ê æ (Â 1)<|Ç 0)<|Ç 7)<|Ç 3)<|É (Ê Ş (Ê ĥ (Ê æ (Â 1)<|Ç 1)<|Ç 7)<|Ç 3)<|É (Ú<|ü ô (Ç 1)<|Ê ĥ (Ê æ (Â 1)<|Ç 2)<|Ç 3) å))))
def ϥ:MF:=ď 1 2 dz
def ar:M Fl:=(è (ý 4<|ü ô (Ç 1)<|Ê ĥ (Ú<|ü ô (Ê bU (Â 1)<|Ç 12)<|Â 3)<|Ç 4)
 (è (ý 5<|Ī [0,1,3] 1 (ŷ Ϟ<|É (é 4) å) (gN 3) Ģ (Ú<|Ý ϥ<|à (Ú<|ü ô (Ú<|Ý ō<|Ì 0<|à (Ú<|ü ô (Ú<|ü ô (Ç 5)<|Ê ą (Ç 4)<|Â 2)<|Â 3) Ø)<|Ê bU (Â 1)<|Ç 12) Ø))
 (è (ý 6<|Ļ<|Ê æ (Ú<|bI<|É (Ç 1)<|É (Ê ub (Ç 10)<|Ç 9)<|É (Ê ub (Ç 10)<|Ç 9)<|É (Ú<|ü ô (Ç 1)<|Ê ĥ (Â 1)<|Ç 366) å)<|Ê ĥ (Ú<|ü ô (Ê bU (Â 1)<|Ç 5)<|Ê bU (Â 3)<|Ç 2)<|Ç 4)
 (uX 2<|ŵ<|É (Ê æ (Ú<|bI<|É (mC<|.str "u")<|É (mC<|.str "uv")<|É (mC<|.str "v") å)<|Â 3)<|É (é 6)<|É (é 5) å))))
def kq:M Fl:=(è (ý 1<|Ý ō<|Ì 0<|à (Ç 1) Ø)
 (è (ý 2<|bI å)
 (è (cW (ŷ Ϟ<|É (Ú<|ü ô (Ç 1)<|Ê ĥ (Ê bU (Â 1)<|Ç 4)<|Ç 3) å) (gN 3) ar)
 (Ā<|ce 2))))
def dA:MF:=ď 1 7 kq
def kU:M Fl:=(Ā<|Ļ<|FU eX (mC<|.str " ")<|É (Ú<|Ī [] 1 (ī 0) (gN 0) Ģ (aW cS<|É (Â 0) å)) å)
def Ď:MF:=ď 1 1 kU
def ŧ:M Fl:=(a_ (ay<|Ê ue (Â 8)<|mC .non)
 (uX 4<|mC<|.str "night")
 (uX 4<|Ú<|Ý Ď<|à (Ú<|ü ô (Ú<|bI<|É (mC<|.str "ray") å)<|Ú<|xZ kO<|É (Â 8) å) Ø))
def aT:M Fl:=(è (uX 4<|Ú<|Ý Ď<|à (Ú<|bI<|É (mC<|.str "day")<|É (é 5)<|É (é 6) å) Ø)
 (cW (ī 7) (gN 8) ŧ))
def im:M Fl:=(è (ý 4<|ü ô (Ú<|bI<|É (Ú<|Ý Ď<|à (Ú<|bI<|É (mC<|.str "yard")<|É (é 0)<|É (é 1) å) Ø) å)<|Ú<|Ī [] 1 (ī 2) (gN 0) Ģ (Ú<|Ý Ď<|Ì 0 Ø))
 (è (cW (ī 3) (gT 3<|ð (gN 5)<|ð (gN 6)<|ð (gN 7) ű) aT)
 (Ā<|Ļ<|FU eX (mC<|.str "\n")<|É (Â 4) å)))
def bK:MF:=ď 4 9 im
def eO:M Fl:=(Ā<|Ļ<|iF (nF fV fV (Ç 1) (aW aX<|É (Â 0) å)<|Â 2)<|aW pb<|É (Ú<|Ī [1] 1 (ī 0) (gN 1) Ģ (Ê Ev (Â 1)<|Â 0)) å)
def ag:MF:=ď 3 3 eO
def fY:M Fl:=(è (ý 1<|a_ (cM<|FU pc (Â 0)<|É (mC<|.str "-") å) (uY (Â 0) (mP<|Ç 1) qf)<|Ļ<|é 0)
 (è (a_ (gm<|cM<|Ú<|Ý ag<|Ì 1<|à (mC<|.str "0123456789")<|à (mC<|.int<|10) Ø)
 (Ā<|Ļ<|mC<|.bl false)
 cY)
 (Ā<|Ļ<|Ri (Ê Ĺ (Â 0)<|mC<|.str "0")<|OH<|FU pc (Â 1)<|É (mC<|.str "0") å)))
def ϡ:MF:=ď 1 2 fY
def mY:M Fl:=(è (a_ (cM<|aW pb<|É (Ú<|Ī [] 1 (ī 0) (gN 0) Ģ (Ú<|Ý ϡ<|Ì 0 Ø)) å)
 (Ā<|Ī [] 1 (ī 0) (gN 0) Ģ (aW iZ<|É (Â 0) å))
 cY)
 (Ā<|Ļ<|mC .non))
def dB:MF:=ď 1 1 mY
def mZ:M Fl:=(è (ý 2<|Ý dB<|Ì 0 Ø)
 (è (a_ (ay<|Ê ue (Â 2)<|mC .non)
 cV
 cY)
 (Ā<|ce 2)))
def ah:MF:=ď 2 3 mZ
def pG:M Fl:=(è (a_ (xY (ay<|Ê cO (Ê æ (Â 0)<|Ç 0)<|mC<|.str "yard")<|ay<|Ê cO (aW aX<|É (Â 0) å)<|Ç 3)
 cV
 cY)
 (è (ý 2<|Ý ah<|à (Ú<|uY (Â 0) (mP<|Ç 1) qf)<|Ì 1 Ø)
 (è (a_ (gm<|cM<|aW pb<|É (Ú<|Ī [] 1 (ī 2) (gN 0) Ģ (nF fV fV (Ç 1) (Â 0)<|mC<|.int<|20)) å)
 cV
 cY)
 (Ā<|ce 2))))
def io:MF:=ď 2 3 pG
def dC:M Fl:=(Ā<|Ļ<|iF (Ê DX (uu 0)<|Ç 0)<|Ê Ĺ (zY 0)<|Ç 0)
def ų:MF:=ď 1 1 dC
def i_:M Fl:=(è (km 0 ["Yard"] "width" (é 1))
 (è (km 0 ["Yard"] "height" (é 2))
 (è (km 0 ["Yard"] "things" (Ú<|xZ kO<|É (Â 3) å))
 (km 0 ["Yard"] "days" (Ú<|R9 (L8 4) (Ī [] 3 (qo 4) (gD 0 1 2) Ģ (ŵ<|É (é 0)<|É (é 1)<|É (Ú<|xZ kO<|É (Â 2) å) å))<|Ī [] 3 (ī 4) (gT 3<|ð (gN 0)<|ð (gN 1)<|ð (gN 2) ű) Ģ (ŵ<|É (é 0)<|É (é 1)<|É (Ú<|xZ kO<|É (Â 2) å) å))))))
def jY:MI:=dO 5 5 "Yard" i_
def we:M Fl:=(Ā<|Ļ<|iF (Ê fV (aW A_<|É (Ê æ (Â 0)<|Ç 0) å)<|mC<|.int<|1000000)<|iF (Ê fV (aW A_<|É (Ê æ (Â 0)<|Ç 1) å)<|mC<|.int<|1000000)<|nF fV fV (Ç 1) (Ê æ (Â 0)<|Ç 2)<|mC<|.int<|1000000)
def pH:MF:=ď 1 1 we
def jZ:M Fl:=(è (a_ (ay<|Ê Ĺ (Â 0)<|Ú<|bI<|É (mC<|.str "night") å)
 (Ā<|Ļ<|mC .non)
 cY)
 (è (a_ (xY (ay<|Ê cO (Ê æ (Â 0)<|Ç 0)<|mC<|.str "ray")<|ay<|Ê cO (aW aX<|É (Â 0) å)<|Ç 4)
 cV
 cY)
 (è (ý 2<|Ļ<|aW qg<|É (Ú<|Ý ah<|à (Ú<|uY (Â 0) (mP<|Ç 1) qf)<|Ì 1 Ø) å)
 (è (a_ (gm<|cM<|Ú<|Ý pH<|Ì 2 Ø)
 cV
 cY)
 (Ā<|ce 2)))))
def eY:MF:=ď 2 3 jZ
def pI:M WR:=(ur (xY (ay<|Ê Ĺ (uu 2)<|Ç 0)<|ay<|Ê Ĺ (zY 2)<|mC<|.int<|24) cV<|zX 2<|Ú<|Ý eY<|Ì 0<|Ì 1 Ø)
def ip:MW:=gt 3 3 pI
def uD:M Fl:=(Ā<|Ý ag<|Ì 0<|à (mC<|.str "abcdefghijklmnopqrstuvwxyz")<|à (mC<|.int<|8) Ø)
def mK:MF:=ď 1 1 uD
def qS:M Fl:=(è (a_ (xY (ay<|Ê cO (aW aX<|É (Â 0) å)<|Ç 3)<|gm<|cM<|Ú<|Ý mK<|à (Ê æ (Â 0)<|Ç 1) Ø)
 cV
 cY)
 (è (ý 2<|Ļ<|Ê æ (Ú<|Ý ah<|à (Ú<|uY (Â 0) (mP<|Ç 2) qf)<|Ì 1 Ø)<|Ç 0)
 (è (a_ (gm<|ay<|nF fV fV (Ç 1) (Â 2)<|mC<|.int<|1000000000)
 cV
 cY)
 (Ā<|JK<|Bd (Ê æ (Â 0)<|Ç 1)<|Bd (é 2)<|JJ<|bI å))))
def j_:MF:=ď 2 3 qS
def qT:M WR:=(ur (xY (cM<|Ú<|Ý ų<|Ì 2 Ø)<|ay<|Ê Ĺ (uu 2)<|mC<|.int<|12) cV<|JM 3 (Ý j_<|Ì 0<|Ì 1 Ø)<|ur (zQ 3<|ay<|Ê Ev (Ê æ (Â 3)<|Ç 0)<|Ú<|Ī [] 3 (qo 2) (gD 0 1 2) Ģ (é 0)) cV<|zW 2 3)
def ka:MW:=gt 3 4 qT
def qU:M Fl:=(Ā<|Ļ<|nF fV fV (eR kL<|mC<|.int<|1000000000) (Â 0)<|mC<|.int<|1000000000)
def bg:MF:=ď 1 1 qU
def pJ:M Fl:=(Ā<|Ļ<|nF fV fV (Ç 1) (Â 0)<|mC<|.int<|1000000000)
def eZ:MF:=ď 1 1 pJ
def iI:M Fl:=(Ā<|Ļ<|iF (Ê Ĺ (aW aX<|É (Â 0) å)<|Ç 3)<|iF (Ú<|Ý bg<|à (Ê æ (Â 0)<|Ç 0) Ø)<|iF (Ú<|Ý bg<|à (Ê æ (Â 0)<|Ç 1) Ø)<|Ú<|Ý eZ<|à (Ê æ (Â 0)<|Ç 2) Ø)
def dE:MF:=ď 1 1 iI
def Ĵ:M Fl:=(è (km 0 ["Thing","Post","Fence","Sail","Cloth","House"] "word" (é 1))
 (km 0 ["Thing","Post","Fence","Sail","Cloth","House"] "numbers" (Ú<|xZ kO<|É (Â 2) å)))
def GH:MI:=dO 3 3 "Thing" Ĵ
def yK:MI:=dO 3 3 "Post" Ĵ
def uE:MI:=dO 3 3 "Fence" Ĵ
def yL:MI:=dO 3 3 "Sail" Ĵ
def uF:MI:=dO 3 3 "Cloth" Ĵ
def uG:MI:=dO 3 3 "House" Ĵ
def fg:M Fl:=(Ā<|Ļ<|iF (Ê Ĺ (aW aX<|É (Â 0) å)<|Ç 5)<|iF (aW pb<|É (Ú<|Ī [] 1 (Ϥ<|Ú<|uY (Â 0) qf<|mP<|Ç 4) (gN 0) Ģ (Ú<|Ý bg<|Ì 0 Ø)) å)<|Ú<|Ý eZ<|à (Ê æ (Â 0)<|Ç 4) Ø)
def ϸ:MF:=ď 1 1 fg
def gv:M Fl:=(Ā<|Ļ<|iF (Ú<|Ý ϸ<|Ì 0 Ø)<|Ê cO (Ú<|uY (Â 0) qf<|mP<|Ç 2)<|Ú<|uY (Â 0) (mP<|Ç 2)<|mP<|Ç 4)
def cj:MF:=ď 1 1 gv
def ai:M Fl:=(Ā<|Ļ<|iF (Ú<|Ý ϸ<|Ì 0 Ø)<|iF (Ê nI (Ê æ (Â 0)<|Ç 0)<|Ê æ (Â 0)<|Ç 2)<|Ê nI (Ê æ (Â 0)<|Ç 1)<|Ê æ (Â 0)<|Ç 3)
def Ķ:MF:=ď 1 1 ai
def gw:M Fl:=(Ā<|Ļ<|iF (Ú<|Ý bg<|à (Ê æ (Â 0)<|Ç 0) Ø)<|iF (Ú<|Ý bg<|à (Ê æ (Â 0)<|Ç 1) Ø)<|nF fV fV (Ç 0) (Ê æ (Â 0)<|Ç 2)<|mC<|.int<|1000000000)
def aU:MF:=ď 1 1 gw
def gx:M Fl:=(Ā<|Ļ<|iF (Ê Ĺ (aW aX<|É (Â 0) å)<|Ç 9)<|aW pb<|É (Ú<|Ī [0] 1 (Ϥ<|ŵ<|É (Ç 0)<|É (Ç 3)<|É (Ç 6) å) (gN 1) Ģ (Ú<|Ý aU<|à (Ú<|uY (Â 0) (mP<|é 1)<|mP<|Ú<|ü ô (Â 1)<|Ç 3) Ø)) å)
def ck:MF:=ď 1 1 gx
def bh:M Fl:=(è (a_ (qG (ay<|Ê Ĺ (Â 0)<|mC<|.str "post")<|cM<|Ú<|Ý dE<|Ì 1 Ø)
 (Ā<|Ļ<|eW "Post" yK (Ì 0<|Ì 1 Ø))
 cY)
 (è (a_ (qG (ay<|Ê Ĺ (Â 0)<|mC<|.str "fence")<|cM<|Ú<|Ý cj<|Ì 1 Ø)
 (Ā<|Ļ<|eW "Fence" uE (Ì 0<|Ì 1 Ø))
 cY)
 (è (a_ (qG (ay<|Ê Ĺ (Â 0)<|mC<|.str "sail")<|cM<|Ú<|Ý Ķ<|Ì 1 Ø)
 (Ā<|Ļ<|eW "Sail" yL (Ì 0<|Ì 1 Ø))
 cY)
 (è (a_ (qG (ay<|Ê Ĺ (Â 0)<|mC<|.str "cloth")<|cM<|Ú<|Ý ck<|Ì 1 Ø)
 (Ā<|Ļ<|eW "Cloth" uF (Ì 0<|Ì 1 Ø))
 cY)
 (è (a_ (qG (ay<|Ê Ĺ (Â 0)<|mC<|.str "house")<|cM<|Ú<|Ý Ķ<|Ì 1 Ø)
 (Ā<|Ļ<|eW "House" uG (Ì 0<|Ì 1 Ø))
 cY)
 cV)))))
def Ϧ:MF:=ď 2 2 bh
def m_:M Fl:=(è (ý 2<|Ý ah<|à (Ú<|uY (Â 0) (mP<|Ç 1) qf)<|Ì 1 Ø)
 (CZ<|Ā<|Ý Ϧ<|à (Ê æ (Â 0)<|Ç 0)<|Ì 2 Ø))
def fZ:MF:=ď 2 3 m_
def nc:M WR:=(ur (xY (ay<|Ê DX (uu 3)<|Ç 0)<|ay<|Ê Ĺ (aW aX<|É (Â 2) å)<|mC<|.int<|40) cV<|zU 2<|Ú<|Ý fZ<|Ì 0<|Ì 1 Ø)
def dF:MW:=gt 4 4 nc
def iq:M WR:=(L9 (ay<|Ê Ev (Ê æ (Â 0)<|Ç 0)<|ŵ<|É (mC<|.str "ray")<|É (mC<|.str "night") å) (ϵ ip [0,1,3])<|L9 (ay<|Ê Ĺ (Ê æ (Â 0)<|Ç 0)<|mC<|.str "day") (ϵ ka [0,1,3])<|ϵ dF [0,1,2,3])
def ħ:MW:=gt 4 4 iq
def pK:M Fl:=(è (ý 1<|Ī [] 1 (Ϥ<|Ú<|yD dU (Â 0)<|É (mC<|.str "\n") å) (gN 0) Ģ (Ú<|yD dU (Â 0)<|É (mC<|.str " ") å))
 (è (ý 2<|Ý io<|à (Ê æ (Â 1)<|Ç 0)<|à (Ç 0) Ø)
 (Sb 5 6 3 4 (Bh<|Nl<|Ú<|uY (Â 1) (mP<|Ç 1) qf) (ϵ ħ [6,5,3,4]) (è (a_ (cM<|Ú<|Ý ų<|Ì 4 Ø)
 cV
 cY)
 (Ā<|Ļ<|eW "Yard" jY (à (Ê æ (Â 2)<|Ç 0)<|à (Ê æ (Â 2)<|Ç 1)<|Ì 3<|Ì 4 Ø))))))
def cT:MF:=ď 1 7 pK
def ja:M Fl:=(km 0 ["Desk"] "yard" (Ú<|Ý cT<|Ì 1 Ø))
def tu:MI:=dO 2 2 "Desk" ja
def VC:M Fl:=(è (a_ (ay<|Ê Ĺ (Ê ĥ (Ê æ (Â 3)<|Ç 0)<|Ç 5)<|Ç 0)
 (Ā<|bI<|É (mC<|.str "post")<|É (Ê Ş (Ê ĥ (Ê æ (Â 3)<|Ç 1)<|Ú<|ü ô (Â 1)<|Ç 2)<|Ç 1)<|É (Ê Ş (Ê ĥ (Ê æ (Â 3)<|Ç 2)<|Ú<|ü ô (Â 2)<|Ç 2)<|Ç 1)<|É (é 8) å)
 cY)
 (è (a_ (ay<|Ê Ĺ (Ê ĥ (Ê æ (Â 3)<|Ç 0)<|Ç 5)<|Ç 1)
 (è (ý 10<|Ļ<|Ê æ (Ú<|bI<|É (ŵ<|É (é 6)<|É (é 5) å)<|É (ŵ<|É (é 6)<|É (é 7) å)<|É (ŵ<|É (é 4)<|É (é 7) å)<|É (ŵ<|É (Ê Ş (Â 4)<|Ç 2)<|É (é 7) å) å)<|Ê ĥ (Ê æ (Â 3)<|Ç 7)<|Ç 4)
 (Ā<|bI<|É (mC<|.str "fence")<|É (é 4)<|É (é 5)<|É (Ê æ (Â 10)<|Ç 0)<|É (Ê æ (Â 10)<|Ç 1)<|É (é 8) å))
 cY)
 (è (a_ (ay<|Ê Ĺ (Ê ĥ (Ê æ (Â 3)<|Ç 0)<|Ç 5)<|Ç 2)
 (Ā<|bI<|É (mC<|.str "sail")<|É (é 4)<|É (é 5)<|É (é 6)<|É (é 7)<|É (é 8) å)
 cY)
 (è (a_ (ay<|Ê Ĺ (Ê ĥ (Ê æ (Â 3)<|Ç 0)<|Ç 5)<|Ç 3)
 (Ā<|bI<|É (mC<|.str "house")<|É (é 4)<|É (é 5)<|É (é 6)<|É (é 7)<|É (é 8) å)
 cY)
 (è (ý 9<|Ļ<|Ê ą (Ê ĥ (Ê æ (Â 3)<|Ç 10)<|Ç 7)<|Ê ĥ (Ê æ (Â 3)<|Ç 6)<|Ç 2)
 (Ā<|bI<|É (mC<|.str "cloth")<|É (é 4)<|É (é 5)<|É (Ê ĥ (Ê æ (Â 3)<|Ç 5)<|Ç 7)<|É (é 6)<|É (Ú<|ü ô (Ê Ş (Â 5)<|Ç 2)<|Ê ĥ (Ê æ (Â 3)<|Ç 7)<|Ç 5)<|É (Ê ĥ (Ê æ (Â 3)<|Ç 8)<|Ç 7)<|É (Ú<|ü ô (Ê Ş (Â 4)<|Ç 3)<|Ê ĥ (Ê æ (Â 3)<|Ç 9)<|Ç 7)<|É (é 7)<|É (é 9) å))))))
def qt:M Fl:=(è (ý 3<|Ý Ų<|Ì 0<|à (Ç 11) Ø)
 (è (ý 4<|Ļ<|Ê Ş (Ê ĥ (Ê æ (Â 3)<|Ç 1)<|Ú<|ü ô (Ê ą (Ç 2)<|Â 1)<|Ç 7)<|Ç 4)
 (è (ý 5<|Ļ<|Ê Ş (Ê ĥ (Ê æ (Â 3)<|Ç 2)<|Ú<|ü ô (Ê ą (Ç 2)<|Â 2)<|Ç 7)<|Ç 4)
 (è (ý 6<|ü ô (Ú<|ü ô (Â 4)<|Ç 1)<|Ê ĥ (Ê æ (Â 3)<|Ç 3)<|Ç 5)
 (è (ý 7<|ü ô (Ú<|ü ô (Â 5)<|Ç 1)<|Ê ĥ (Ê æ (Â 3)<|Ç 4)<|Ç 5)
 (è (ý 8<|ü ô (Ç 1)<|Ê ĥ (Ê æ (Â 3)<|Ç 5)<|Ç 8)
 (è (a_ (ay<|Ê Ĺ (Ê ĥ (Ê æ (Â 3)<|Ç 6)<|Ç 8)<|Ç 5)
 (ý 8<|Ļ<|Ê Ş (Ê ub (Ç 10)<|Ç 9)<|Ê ĥ (Ê æ (Â 3)<|Ç 5)<|Ç 1000)
 cY)
 VC)))))))
def ϓ:MF:=ď 3 11 qt
def ir:M Fl:=(è (ý 2<|Ý dB<|à (Ú<|uY (Â 0) (mP<|é 1) qf) Ø)
 (è (a_ (ay<|Ê ue (Â 2)<|mC .non)
 cV
 cY)
 (Ā<|ce 2)))
def Ł:MF:=ď 2 3 ir
def nQ:M Fl:=(Ā<|Ļ<|nF fV nI (Ç 0) (Â 1)<|aW aX<|É (eR (ŏ ["Yard"] "days")<|Â 0) å)
def dW:MF:=ď 2 2 nQ
def qV:M Fl:=(Ā<|Ļ<|Ê æ (Ê æ (eR (ŏ ["Yard"] "days")<|Â 0)<|Â 1)<|Ç 2)
def bi:MF:=ď 2 2 qV
def ng:M Fl:=(a_ (xY (gm<|cM<|Ú<|Ý dW<|Ì 0<|Ì 1 Ø)<|gm<|ay<|nF fV nI (Ç 0) (Â 2)<|aW aX<|É (Ú<|Ý bi<|Ì 0<|Ì 1 Ø) å)
 cV
 cY)
def f_:MF:=ď 3 3 ng
def pL:M Fl:=(è (ý 1<|Ī [] 1 (ī 0) (gN 0) Ģ (Ê æ (Â 0)<|Ç 0))
 (è (ý 2<|Ī [] 1 (ī 0) (gN 0) Ģ (Ê æ (Â 0)<|Ç 1))
 (Ā<|bI<|É (ŵ<|É (Ç 1)<|É (Ç 0)<|É (aW vN<|É (Â 1) å) å)<|É (ŵ<|É (eR kL<|Ç 1)<|É (Ç 0)<|É (eR kL<|aW vO<|É (Â 1) å) å)<|É (ŵ<|É (Ç 0)<|É (Ç 1)<|É (aW vN<|É (Â 2) å) å)<|É (ŵ<|É (Ç 0)<|É (eR kL<|Ç 1)<|É (eR kL<|aW vO<|É (Â 2) å) å) å)))
def iu:MF:=ď 1 3 pL
def bL:M Fl:=(a_ (ay<|Ê (Dg true) (Â 2)<|Â 1)
 (uX 1<|é 2)
 cY)
def pM:M Fl:=(è (ý 1<|bI å)
 (è (cW (ī 0) (gN 2) bL)
 (Ā<|ce 1)))
def iw:MF:=ď 1 3 pM
def kr:M Fl:=(è (ý 2<|Ļ<|Ê Ş (Ê æ (Â 1)<|Ç 1)<|Ê æ (Â 0)<|Ç 1)
 (è (ý 3<|Ļ<|Ê Ş (Ê æ (Â 0)<|Ç 0)<|Ê æ (Â 1)<|Ç 0)
 (Ā<|Ļ<|ŵ<|É (é 2)<|É (é 3)<|É (Ú<|ü ô (Ê ą (Â 2)<|Ê æ (Â 0)<|Ç 0)<|Ê ą (Â 3)<|Ê æ (Â 0)<|Ç 1) å)))
def dG:MF:=ď 2 4 kr
def Aj:M Fl:=(Ā<|Ļ<|Ê fV (Ú<|ü ô (Ê ą (Ê æ (Â 0)<|Ç 0)<|Ê æ (Â 1)<|Ç 0)<|Ê ą (Ê æ (Â 0)<|Ç 1)<|Ê æ (Â 1)<|Ç 1)<|Ê æ (Â 0)<|Ç 2)
def kb:MF:=ď 2 2 Aj
def az:M Fl:=(è (ý 5<|Ý dG<|Ì 3<|Ì 4 Ø)
 (a_ (qG (ay<|Ê cO (Â 3)<|Â 4)<|cM<|aW pb<|É (Ú<|Ī [5] 1 (ī 2) (gN 1) Ģ (Ú<|Ý kb<|Ì 0<|Ì 1 Ø)) å)
 (uX 1<|é 5)
 cY))
def eP:M Fl:=(cW (ī 2) (gN 4) az)
def nh:M Fl:=(è (ý 1<|bI å)
 (è (ý 2<|Ý iw<|Ì 0 Ø)
 (è (cW (ī 2) (gN 3) eP)
 (Ā<|ce 1))))
def ga:MF:=ď 1 6 nh
def kW:M Fl:=(Ā<|ü ô (Ú<|Ý iu<|Ì 0 Ø)<|Ú<|Ý ga<|Ì 0 Ø)
def cn:MF:=ď 1 1 kW
def C4:M Fl:=(Ā<|Ļ<|ŵ<|É (Ú<|ü ô (Ê ą (Ê æ (Â 1)<|Ç 2)<|Ê æ (Â 0)<|Ç 0)<|Ê ą (Ê æ (Â 1)<|Ç 0)<|Ê æ (Â 0)<|Ç 2)<|É (Ú<|ü ô (Ê ą (Ê æ (Â 1)<|Ç 2)<|Ê æ (Â 0)<|Ç 1)<|Ê ą (Ê æ (Â 1)<|Ç 1)<|Ê æ (Â 0)<|Ç 2) å)
def nR:MF:=ď 2 2 C4
def jb:M Fl:=(Ā<|bI<|É (ŵ<|É (é 0)<|É (é 1)<|É (é 4) å)<|É (ŵ<|É (é 2)<|É (é 1)<|É (é 4) å)<|É (ŵ<|É (é 2)<|É (é 3)<|É (é 4) å)<|É (ŵ<|É (é 0)<|É (é 3)<|É (é 4) å) å)
def ϔ:MF:=ď 5 5 jb
def jc:M Fl:=(Ā<|ü ô (Ú<|Ý ϔ<|Ì 0<|Ì 1<|Ì 2<|Ì 3<|à (Ç 0) Ø)<|Ú<|Ý ϔ<|Ì 0<|Ì 1<|Ì 2<|Ì 3<|Ì 4 Ø)
def au:MF:=ď 5 5 jc
def kt:M Fl:=(è (ý 1<|Ļ<|Ê ą (Ç 2)<|Ê æ (eR (ŏ ["Thing","Post","Fence","Sail","Cloth","House"] "numbers")<|Â 0)<|Ç 0)
 (è (ý 2<|Ļ<|Ê ą (Ç 2)<|Ê æ (eR (ŏ ["Thing","Post","Fence","Sail","Cloth","House"] "numbers")<|Â 0)<|Ç 1)
 (Ā<|Ý au<|à (Ê Ş (Â 1)<|Ç 1)<|à (Ê Ş (Â 2)<|Ç 1)<|à (Ú<|ü ô (Â 1)<|Ç 1)<|à (Ú<|ü ô (Â 2)<|Ç 1)<|à (Ê æ (eR (ŏ ["Thing","Post","Fence","Sail","Cloth","House"] "numbers")<|Â 0)<|Ç 2) Ø)))
def Ż:MF:=ď 1 3 kt
def je:M Fl:=(è (ý 1<|Ļ<|eR (ŏ ["Thing","Post","Fence","Sail","Cloth","House"] "numbers")<|Â 0)
 (è (ý 2<|Ļ<|ŵ<|É (Ê æ (Â 1)<|Ç 0)<|É (Ê æ (Â 1)<|Ç 1) å)
 (è (ý 3<|Ļ<|ŵ<|É (Ê æ (Â 1)<|Ç 2)<|É (Ê æ (Â 1)<|Ç 3) å)
 (Ā<|bI<|É (Ú<|ü ô (Â 2)<|ŵ<|É (Ç 0) å)<|É (Ú<|ü ô (Â 3)<|ŵ<|É (Ç 0) å)<|É (Ú<|ü ô (Â 3)<|ŵ<|É (Ê æ (Â 1)<|Ç 4) å)<|É (Ú<|ü ô (Â 2)<|ŵ<|É (Ê æ (Â 1)<|Ç 4) å) å))))
def ũ:MF:=ď 1 4 je
def ku:M Fl:=(è (ý 1<|Ļ<|eR (ŏ ["Thing","Post","Fence","Sail","Cloth","House"] "numbers")<|Â 0)
 (Ā<|Ý ϔ<|à (Ê æ (Â 1)<|Ç 0)<|à (Ê æ (Â 1)<|Ç 1)<|à (Ê æ (Â 1)<|Ç 2)<|à (Ê æ (Â 1)<|Ç 3)<|à (Ê æ (Â 1)<|Ç 4) Ø))
def ż:MF:=ď 1 2 ku
def jg:M Fl:=(Ā<|Ī [0] 1 (Ϥ<|ŵ<|É (Ç 0)<|É (Ç 3)<|É (Ç 6) å) (gN 1) Ģ (aW qg<|É (Ú<|uY (eR (ŏ ["Thing","Post","Fence","Sail","Cloth","House"] "numbers")<|Â 0) (mP<|é 1)<|mP<|Ú<|ü ô (Â 1)<|Ç 3) å))
def Ū:MF:=ď 1 1 jg
def ji:M Fl:=(è (ý 1<|Ļ<|eR (ŏ ["Thing","Post","Fence","Sail","Cloth","House"] "numbers")<|Â 0)
 (Ā<|Ý au<|à (Ê æ (Â 1)<|Ç 0)<|à (Ê æ (Â 1)<|Ç 1)<|à (Ê æ (Â 1)<|Ç 2)<|à (Ê æ (Â 1)<|Ç 3)<|à (Ê æ (Â 1)<|Ç 4) Ø))
def ū:MF:=ď 1 2 ji
def kx:M Fl:=(Ā<|Ī [1] 1 (Ϥ<|Ú<|gq "corners" [("Post",Ż),("Fence",ũ),("Sail",ż),("Cloth",Ū),("House",ū)] (é 0) Ø) (gN 1) Ģ (Ú<|Ý nR<|Ì 1<|Ì 0 Ø))
def Ϲ:MF:=ď 2 2 kx
def kc:M Fl:=(è (a_ (ay<|Ê nI (Â 1)<|Â 0)
 (Ā<|Ļ<|Ç 0)
 cY)
 (Ā<|Ļ<|Ê Ş (Ê vH (Ç 1)<|Ú<|ü ô (Â 1)<|Ç 1)<|Ê vH (Ç 1)<|Â 0))
def cU:MF:=ď 2 2 kc
def Ϣ:M Fl:=(è (ý 9<|Ļ<|Ê ą (Â 6)<|Â 1)
 (è (ý 10<|Ļ<|Ê Ş (Â 8)<|Ê ą (Ê ą (Â 7)<|Â 1)<|Â 2)
 (a_ (ay<|Ê DX (Â 9)<|Ç 0)
 (ý 5<|Ļ<|aW CC<|É (Â 5)<|É (Ê bU (Â 10)<|Â 9) å)
 (a_ (ay<|Ê nI (Â 9)<|Ç 0)
 (ý 4<|Ļ<|aW CD<|É (Â 4)<|É (eR kL<|Ê bU (Â 10)<|eR kL<|Â 9) å)
 (a_ (ay<|Ê nI (Â 10)<|Ç 0)
 (Ā<|Ļ<|Ç 0)
 cY)))))
def kX:M Fl:=(è (ý 4<|Ļ<|Ç 0)
 (è (ý 5<|Ļ<|Ê Ş (Â 3)<|Ç 1)
 (è (cW (ī 0) (gT 3<|ð (gN 6)<|ð (gN 7)<|ð (gN 8) ű) Ϣ)
 (Ā<|Ý cU<|Ì 4<|Ì 5 Ø))))
def gy:MF:=ď 4 11 kX
def ke:M Fl:=(zJ 4<|Ê vH (Ú<|Ý gy<|Ì 3<|à (Ê ą (Ç 2)<|Ê æ (Â 2)<|Ç 2)<|Ì 5<|à (eR (ŏ ["Yard"] "width")<|Â 0) Ø)<|Ê ą (Â 5)<|eR (ŏ ["Yard"] "width")<|Â 0)
def uH:M Fl:=(è (ý 3<|Ý cn<|à (Ú<|Ý Ϲ<|Ì 1<|Ì 2 Ø) Ø)
 (è (ý 4<|Ļ<|Ç 0)
 (è (cW (ŷ Ϟ<|É (eR (ŏ ["Yard"] "height")<|Â 0) å) (gN 5) ke)
 (Ā<|ce 4))))
def gh:MF:=ď 3 6 uH
def gA:M Fl:=(Ā<|Ī [0,1] 1 (Ϥ<|eR (ŏ ["Yard"] "things")<|Â 0) (gN 2) Ģ (Ú<|Ý gh<|Ì 0<|Ì 2<|Ì 1 Ø))
def aV:MF:=ď 2 2 gA
def yM:M Fl:=(zJ 2<|é 3)
def yN:M Fl:=(è (a_ (ay<|Ê ue (Â 1)<|mC .non)
 (Ā<|Ý cU<|à (Ç 0)<|à (Ê Ş (Ê ą (eR (ŏ ["Yard"] "width")<|Â 0)<|eR (ŏ ["Yard"] "height")<|Â 0)<|Ç 1) Ø)
 cY)
 (è (ý 2<|Ļ<|Ç 0)
 (è (cW (Ϥ<|Ú<|Ý aV<|Ì 0<|Ì 1 Ø) (gN 3) yM)
 (Ā<|ce 2))))
def kf:MF:=ď 2 4 yN
def kY:M Fl:=(è (vC<|Ú<|Ý f_<|Ì 0<|à (Ê æ (Â 1)<|Ç 0)<|à (Ê æ (Â 1)<|Ç 1) Ø)
 (è (ý 2<|Ý kf<|Ì 0<|à (Ê æ (Ú<|Ý bi<|Ì 0<|à (Ê æ (Â 1)<|Ç 0) Ø)<|Ê æ (Â 1)<|Ç 1) Ø)
 (è (ý 3<|Ļ<|eR (ŏ ["Yard"] "width")<|Â 0)
 (è (ý 4<|Ī [2] 1 (ŷ Ϟ<|É (Ê ą (Â 3)<|eR (ŏ ["Yard"] "height")<|Â 0) å) (gN 1) Ģ (a_ (cM<|Ê iH (Ê qJ (Â 0)<|Â 1)<|Ç 1) (mC<|.str "#")<|mC<|.str "."))
 (Ā<|Ļ<|FU eX (mC<|.str "/")<|É (Ú<|Ī [4,3] 1 (ŷ Ϟ<|É (eR (ŏ ["Yard"] "height")<|Â 0) å) (gN 2) Ģ (FU eX (mC<|.str "")<|É (Ú<|uY (Â 0) (mP<|Ê ą (Â 2)<|Â 1)<|mP<|Ú<|ü ô (Ê ą (Â 2)<|Â 1)<|Â 1) å)) å)))))
def cq:MF:=ď 2 5 kY
def pN:M Fl:=(Ā<|Ļ<|iF (nF fV nI (Ç 0) (Ê æ (Â 1)<|Ç 0)<|eR (ŏ ["Yard"] "width")<|Â 0)<|nF fV nI (Ç 0) (Ê æ (Â 1)<|Ç 1)<|eR (ŏ ["Yard"] "height")<|Â 0)
def iy:MF:=ď 2 2 pN
def kZ:M Fl:=(a_ (gm<|cM<|Ú<|Ý iy<|Ì 0<|Ì 1 Ø)
 cV
 cY)
def aA:MF:=ď 2 2 kZ
def pO:M Fl:=(a_ (gm<|cM<|Ú<|Ý dW<|Ì 0<|Ì 1 Ø)
 cV
 cY)
def iz:MF:=ď 2 2 pO
def cK:M Fl:=(a_ (gm<|cM<|Ú<|Ý kb<|Ì 2<|Ì 1 Ø)
 (Ā<|ce 2)
 cY)
def fh:M Fl:=(è (cW (Ϥ<|Ú<|Ý cn<|Ì 0 Ø) (gN 2) cK)
 (Ā<|Ļ<|mC .non))
def bj:MF:=ď 2 3 fh
def dH:M Fl:=(IE 1<|Ī [2] 1 (ŷ Ϟ<|É (é 2) å) (gN 1) Ģ (ŵ<|É (é 1)<|É (é 0) å))
def k_:M Fl:=(è (ý 1<|bI å)
 (è (cW (ŷ Ϟ<|É (é 0) å) (gN 2) dH)
 (Ā<|ce 1)))
def cr:MF:=ď 1 3 k_
def bM:M Fl:=(IE 1<|Ī [2] 1 (Ϥ<|Ú<|Ý cr<|Ì 2 Ø) (gN 1) Ģ (ŵ<|É (Ê æ (Â 1)<|Ç 0)<|É (Ê æ (Â 1)<|Ç 1)<|É (é 0) å))
def jj:M Fl:=(è (ý 1<|bI å)
 (è (cW (ŷ Ϟ<|É (é 0) å) (gN 2) bM)
 (Ā<|ce 1)))
def cL:MF:=ď 1 3 jj
def fw:M Fl:=(aE (ay<|Ê cO (Â 1)<|Ç 0)
 (è (ý 2<|Ļ<|Ê ĥ (Â 0)<|Â 1)
 (è (ý 0<|Ļ<|é 1)
 (ý 1<|Ļ<|é 2))))
def fA:M Fl:=(è fw
 (Ā<|Ļ<|aW A_<|É (Â 0) å))
def aj:MF:=ď 2 3 fA
def uI:M Fl:=(è (a_ (ay<|Ê Ĺ (Â 1)<|Ç 0)
 cV
 cY)
 (è (ý 2<|Ý aj<|Ì 0<|Ì 1 Ø)
 (è (a_ (ay<|Ê nI (Â 1)<|Ç 0)
 (ý 2<|Ļ<|eR kL<|Â 2)
 cY)
 (Ā<|Ļ<|ŵ<|É (Ê bU (Â 0)<|Â 2)<|É (Ê bU (Â 1)<|Â 2) å))))
def kg:MF:=ď 2 3 uI
def mL:M Fl:=(Fu 4 (é 6)<|Ú<|Ý kg<|Ì 5<|Ì 3 Ø)
def jk:M Fl:=(è (ý 3<|Ļ<|aW yo<|É (Â 0) å)
 (è (ý 4<|Ī [3] 1 (ŷ Ϟ<|É (é 2) å) (gN 1) Ģ (Ú<|Ý kg<|à (Ç 0)<|Ì 0 Ø))
 (è (cW (D6 (FX 0)<|FX 1) (gT 2<|ð (gN 5)<|ð (gN 6) ű) mL)
 (Ā<|ce 4))))
def cu:MF:=ď 3 7 jk
def wf:M Fl:=(è (ý 3<|Ļ<|Ê ą (Ê Ş (Ê æ (Â 1)<|Ç 0)<|Ê æ (Â 0)<|Ç 0)<|Ê Ş (Ê æ (Â 2)<|Ç 1)<|Ê æ (Â 0)<|Ç 1)
 (Ā<|Ļ<|Ê Ş (Â 3)<|Ê ą (Ê Ş (Ê æ (Â 1)<|Ç 1)<|Ê æ (Â 0)<|Ç 1)<|Ê Ş (Ê æ (Â 2)<|Ç 0)<|Ê æ (Â 0)<|Ç 0))
def jl:MF:=ď 3 4 wf
def gB:M Fl:=(è (ý 2<|Ļ<|Ê æ (Â 0)<|Ç 0)
 (è (ý 3<|Ļ<|Ê æ (Â 0)<|Ç 1)
 (è (ý 4<|Ļ<|Ê æ (Â 0)<|Ç 2)
 (Ā<|bI<|É (Ú<|Ý jl<|Ì 1<|Ì 3<|Ì 4 Ø)<|É (Ú<|Ý jl<|Ì 2<|Ì 1<|Ì 4 Ø)<|É (Ú<|Ý jl<|Ì 2<|Ì 3<|Ì 1 Ø) å))))
def ϣ:MF:=ď 2 5 gB
def gC:M Fl:=(è (ý 1<|Ļ<|aW yo<|É (Â 0) å)
 (Ā<|Ļ<|iF (Ê cO (Â 1)<|Ç 0)<|aW pb<|É (Ú<|Ī [1] 1 (ī 0) (gN 1) Ģ (Ê Il (Ê ą (Â 1)<|Â 0)<|Ç 0)) å))
def ϧ:MF:=ď 1 2 gC
def jm:M Fl:=(è (ý 2<|Ļ<|Ê Ş (Ê æ (Ê æ (Â 0)<|Ç 1)<|Ç 0)<|Ê æ (Ê æ (Â 0)<|Ç 0)<|Ç 0)
 (è (ý 3<|Ļ<|Ê Ş (Ê æ (Ê æ (Â 0)<|Ç 1)<|Ç 1)<|Ê æ (Ê æ (Â 0)<|Ç 0)<|Ç 1)
 (è (ý 4<|ü ô (Ê ą (Â 2)<|Ê Ş (Ê æ (Â 1)<|Ç 0)<|Ê æ (Ê æ (Â 0)<|Ç 0)<|Ç 0)<|Ê ą (Â 3)<|Ê Ş (Ê æ (Â 1)<|Ç 1)<|Ê æ (Ê æ (Â 0)<|Ç 0)<|Ç 1)
 (Ā<|bI<|É (Ê Ş (Ú<|ü ô (Ê ą (Â 2)<|Â 2)<|Ê ą (Â 3)<|Â 3)<|Â 4)<|É (é 4) å))))
def av:MF:=ď 2 5 jm
def iJ:M Fl:=(è (ý 4<|Ý av<|à (Ú<|Ī [0] 1 (ī 3) (gN 1) Ģ (Ê æ (Â 0)<|Â 1))<|Ì 1 Ø)
 (a_ (cM<|Ú<|Ý ϧ<|Ì 4 Ø)
 (Ā<|Ý cu<|Ì 4<|Ì 3<|Ì 2 Ø)
 cY))
def iK:M Fl:=(è (ý 4<|Ý ϣ<|à (Ú<|Ī [0] 1 (ī 3) (gN 1) Ģ (Ê æ (Â 0)<|Â 1))<|Ì 1 Ø)
 (a_ (cM<|Ú<|Ý ϧ<|Ì 4 Ø)
 (Ā<|Ý cu<|Ì 4<|Ì 3<|Ì 2 Ø)
 cY))
def eQ:M Fl:=(è (ý 2<|Ļ<|aW aX<|É (Â 0) å)
 (è (cW (Ϥ<|Ú<|Ý cL<|Ì 2 Ø) (gN 3) iK)
 (è (cW (Ϥ<|Ú<|Ý cr<|Ì 2 Ø) (gN 3) iJ)
 (Ā<|Ý cu<|à (Ú<|bI<|É (Ç 1) å)<|à (Ú<|bI<|É (Ç 0) å)<|Ì 2 Ø))))
def bN:MF:=ď 2 5 eQ
def yO:M Fl:=(è (ý 2<|Ý bj<|Ì 0<|Ì 1 Ø)
 (è (a_ (ay<|Ê ue (Â 2)<|mC .non)
 (Ā<|Ļ<|ŵ<|É (mC<|.str "in")<|É (Ú<|Ý bN<|Ì 0<|Ì 1 Ø) å)
 cY)
 (Ā<|Ļ<|ŵ<|É (mC<|.str "out")<|É (é 2) å)))
def uJ:MF:=ď 2 3 yO
def nj:M Fl:=(Ā<|Ý nR<|à (ŵ<|É (Ê ą (Ç 2)<|Ê æ (Â 0)<|Ç 0)<|É (Ê ą (Ç 2)<|Ê æ (Â 0)<|Ç 1)<|É (Ç 0) å)<|Ì 1 Ø)
def gb:MF:=ď 2 2 nj
def uK:M Fl:=(Ā<|Ý uJ<|à (Ú<|Ý Ϲ<|Ì 0<|Ì 2 Ø)<|à (Ú<|Ý gb<|Ì 1<|Ì 2 Ø) Ø)
def mM:MF:=ď 3 3 uK
def qu:M Fl:=(Ā<|Ļ<|Ê Ĺ (Ê æ (Ú<|Ý mM<|Ì 0<|Ì 1<|Ì 2 Ø)<|Ç 0)<|mC<|.str "in")
def jo:MF:=ď 3 3 qu
def kh:M Fl:=(a_ (cM<|Ú<|Ý jo<|Ì 3<|Ì 2<|Ì 1 Ø)
 (Ā<|Ļ<|mC<|.bl true)
 cY)
def ki:M Fl:=(è (a_ (ay<|Ê ue (Â 1)<|mC .non)
 (Ā<|Ļ<|mC<|.bl true)
 cY)
 (è (cW (Ϥ<|eR (ŏ ["Yard"] "things")<|Â 0) (gN 3) kh)
 (Ā<|Ļ<|mC<|.bl false)))
def aB:MF:=ď 3 4 ki
def pP:M Fl:=(è (vC<|Ú<|Ý aA<|Ì 0<|Ì 2 Ø)
 (è (vC<|Ú<|Ý iz<|Ì 0<|Ì 1 Ø)
 (Ā<|Ī [0,2] 2 (CL<|Nl<|Ú<|Ý bi<|Ì 0<|Ì 1 Ø) (gT 2<|ð (gN 2)<|ð (gN 3) ű) (gm<|cM<|Ú<|Ý aB<|Ì 0<|Ì 3<|Ì 1 Ø) (é 2))))
def iA:MF:=ď 3 3 pP
def iL:M Fl:=(è (ý 2<|Ý iA<|Ì 0<|à (Ê æ (Â 1)<|Ç 0)<|à (ŵ<|É (Ê æ (Â 1)<|Ç 1)<|É (Ê æ (Â 1)<|Ç 2) å) Ø)
 (Ā<|Ļ<|a_ (cM<|Â 2) (FU eX (mC<|.str " ")<|É (Ú<|Ī [] 1 (ī 2) (gN 0) Ģ (aW cS<|É (Â 0) å)) å)<|mC<|.str "-"))
def bO:MF:=ď 2 3 iL
def uL:M Fl:=(Ā<|Ļ<|Ê iH (Ú<|Ý kf<|Ì 0<|à (mC .non) Ø)<|eR CO<|Ú<|Ý kf<|Ì 0<|Ì 1 Ø)
def jp:MF:=ď 2 2 uL
def pQ:M Fl:=(è (ý 6<|Ý jp<|Ì 0<|Ì 5 Ø)
 (ý 1<|Ī [3,6] 2 (CL<|ID 1) (gT 2<|ð (gN 2)<|ð (gN 3) ű) Ģ (Ú<|ü ô (Â 3)<|Ê ą (Â 0)<|Ê iH (Ê qJ (Â 1)<|Â 2)<|Ç 1)))
def uM:M Fl:=(cW (ī 4) (gN 5) pQ)
def Ak:M Fl:=(è (ý 1<|Ī [] 1 (ŷ Ϟ<|É (Ê ą (eR (ŏ ["Yard"] "width")<|Â 0)<|eR (ŏ ["Yard"] "height")<|Â 0) å) (gN 0) Ģ (Ç 0))
 (è (cW (Ϥ<|eR (ŏ ["Yard"] "days")<|Â 0) (gT 3<|ð (gN 2)<|ð (gN 3)<|ð (gN 4) ű) uM)
 (Ā<|ce 1)))
def mN:MF:=ď 1 7 Ak
def pR:M Fl:=(Ā<|ü ô (Ê ą (Ê æ (Â 0)<|Ç 1)<|Â 1)<|Ê æ (Â 0)<|Ç 0)
def iB:MF:=ď 2 2 pR
def ky:M Fl:=(è (ý 2<|Ļ<|ŵ<|É (Ê æ (Â 1)<|Ç 0)<|É (Ê æ (Â 1)<|Ç 1) å)
 (è (vC<|Ú<|Ý aA<|Ì 0<|Ì 2 Ø)
 (Ā<|Ļ<|aW cS<|É (Ê æ (Ú<|Ý mN<|Ì 0 Ø)<|Ú<|Ý iB<|Ì 2<|à (eR (ŏ ["Yard"] "width")<|Â 0) Ø) å)))
def bo:MF:=ď 2 3 ky
def gc:M Fl:=(a_ (gm<|cM<|Ú<|Ý aB<|Ì 0<|Ì 4<|Ì 1 Ø)
 (Ā<|Ļ<|ŵ<|É (é 2)<|É (é 3) å)
 cY)
def ge:M Fl:=(cW (CL<|Nl<|Ú<|Ý bi<|Ì 0<|Ì 2 Ø) (gT 2<|ð (gN 3)<|ð (gN 4) ű) gc)
def kj:M Fl:=(è (vC<|Ú<|Ý aA<|Ì 0<|Ì 1 Ø)
 (è (cW (ŷ Ϟ<|É (aW aX<|É (eR (ŏ ["Yard"] "days")<|Â 0) å) å) (gN 2) ge)
 (Ā<|Ļ<|mC .non)))
def e_:MF:=ď 2 5 kj
def nS:M Fl:=(Ā<|Ļ<|Ê æ (Ê æ (eR (ŏ ["Yard"] "days")<|Â 0)<|Â 1)<|Ç 0)
def dX:MF:=ď 2 2 nS
def pS:M Fl:=(è (ý 3<|Ý dX<|Ì 0<|Ì 1 Ø)
 (Ā<|Ļ<|IS [(Ec<|é 3),(mC<|.str " "),(Ec<|é 2)] fQ))
def iC:MF:=ď 3 4 pS
def fj:M Fl:=(è (ý 2<|Ý e_<|Ì 0<|à (ŵ<|É (Ê æ (Â 1)<|Ç 0)<|É (Ê æ (Â 1)<|Ç 1) å) Ø)
 (Ā<|a_ (ay<|Ê ue (Â 2)<|mC .non) (Ļ<|mC<|.str "-")<|Ý iC<|Ì 0<|à (Ê æ (Â 2)<|Ç 0)<|à (Ê æ (Â 2)<|Ç 1) Ø))
def Ϻ:MF:=ď 2 3 fj
def aC:M Fl:=(a_ (ay<|Ê Ĺ (Ú<|Ý dX<|Ì 0<|Ì 2 Ø)<|Â 1)
 (Ā<|ce 2)
 cY)
def nk:M Fl:=(è (cW (ŷ Ϟ<|É (aW aX<|É (eR (ŏ ["Yard"] "days")<|Â 0) å) å) (gN 2) aC)
 cV)
def bP:MF:=ď 2 3 nk
def qv:M Fl:=(è (a_ (ay<|Ê (Go "ROWS" ZD) (Ê æ (Â 1)<|Ç 0)<|mC<|.cls "ROWS")
 cV
 cY)
 (è (ý 2<|Ļ<|Ê (Gp "ROWS" ZD) (mC<|.cls "ROWS")<|Ê æ (Â 1)<|Ç 0)
 (è (ý 3<|uY (Â 1) (mP<|Ç 1)<|mP<|Ú<|ü ô (Ç 1)<|Ê æ (Â 2)<|Ç 0)
 (è (a_ (ay<|Ê cO (aW aX<|É (Â 1) å)<|Ú<|ü ô (Ú<|ü ô (Ç 1)<|Ê æ (Â 2)<|Ç 0)<|Ê æ (Â 2)<|Ç 1)
 cV
 cY)
 (è (ý 4<|Ý Ł<|Ì 1<|à (Ú<|ü ô (Ç 1)<|Ê æ (Â 2)<|Ç 0) Ø)
 (Ā<|IW [("answer_dark",cq),("answer_lit",bO),("answer_hours",bo),("answer_first",Ϻ)] (Ê æ (Â 2)<|Ç 2) (Ì 0<|à (Ú<|ü ô (Ú<|Ī [0] 1 (ī 3) (gN 1) Ģ (Ú<|Ý bP<|Ì 0<|Ì 1 Ø))<|Â 4) Ø)))))))
def gE:MF:=ď 2 5 qv
def ve:M Fl:=(è (a_ (ay<|Ê nI (aW aX<|É (Â 1) å)<|Ç 2)
 cV
 cY)
 (è (ý 2<|Ý Ł<|Ì 1<|à (Ç 2) Ø)
 (è (a_ (ay<|Ê Ĺ (aW aX<|É (eR (ŏ ["Yard"] "things")<|Â 0) å)<|mC<|.int<|40)
 cV
 cY)
 (Ā<|Ļ<|eW "Yard" jY (à (eR (ŏ ["Yard"] "width")<|Â 0)<|à (eR (ŏ ["Yard"] "height")<|Â 0)<|à (Ú<|ü ô (eR (ŏ ["Yard"] "things")<|Â 0)<|Ú<|bI<|É (Ú<|Ý Ϧ<|à (Ê æ (Â 1)<|Ç 1)<|Ì 2 Ø) å)<|à (eR (ŏ ["Yard"] "days")<|Â 0) Ø)))))
def yP:MF:=ď 2 3 ve
def qw:M Fl:=(è (a_ (ay<|Ê cO (aW aX<|É (Â 1) å)<|Ç 2)
 cV
 cY)
 (è (ý 2<|Ļ<|Ê æ (Ú<|Ý Ł<|Ì 1<|à (Ç 1) Ø)<|Ç 0)
 (è (a_ (gm<|ay<|nF fV nI (Ç 0) (Â 2)<|aW aX<|É (eR (ŏ ["Yard"] "things")<|Â 0) å)
 cV
 cY)
 (Ā<|Ļ<|eW "Yard" jY (à (eR (ŏ ["Yard"] "width")<|Â 0)<|à (eR (ŏ ["Yard"] "height")<|Â 0)<|à (Ú<|ü ô (Ú<|uY (eR (ŏ ["Yard"] "things")<|Â 0) qf<|mP<|é 2)<|Ú<|uY (eR (ŏ ["Yard"] "things")<|Â 0) (mP<|Ú<|ü ô (Â 2)<|Ç 1) qf)<|à (eR (ŏ ["Yard"] "days")<|Â 0) Ø)))))
def rk:MF:=ď 2 3 qw
def qW:M Fl:=(è (ý 2<|yD dU (Â 1)<|É (mC<|.str " ") å)
 (è (a_ (ay<|Ê Ĺ (Ê æ (Â 2)<|Ç 0)<|mC<|.str "put")
 (è cV
 (Ā<|Ļ<|mC<|.str "ok"))
 cY)
 (è (a_ (ay<|Ê Ĺ (Ê æ (Â 2)<|Ç 0)<|mC<|.str "take")
 (è cV
 (Ā<|Ļ<|mC<|.str "ok"))
 cY)
 (Ā<|Ý gE<|à (eR (ŏ ["Desk"] "yard")<|Â 0)<|Ì 2 Ø))))
def ľ:MF:=ď 2 3 qW
def Ϩ:M Fl:=(è (ý 11<|gq "say" [("Desk",ľ)] (é 0) (à (Ú<|Ý Ď<|à (Ú<|bI<|É (mC<|.str "lit")<|É (é 8)<|É (é 6)<|É (é 7) å) Ø) Ø))
 (è (ý 12<|Ī [6,7,2,8] 1 (ŷ Ϟ<|É (aW aX<|É (Â 10) å) å) (gN 4) (ay<|Ê Ĺ (Ê æ (Ê æ (Ê æ (Ai (é 2)<|é 3)<|Â 4)<|Â 1)<|Â 0)<|mC<|.str ".") (aW cS<|É (Â 4) å))
 (è (a_ (ay<|Ê cO (Â 11)<|FU eX (mC<|.str " ")<|É (Ú<|ü ô (Â 12)<|Ú<|zt (É (mC<|.str "-") å)<|aW iZ<|É (Ê Ĺ (Â 12)<|Ú<|bI å) å) å)
 (Ā<|Ļ<|mC .non)
 cY)
 (è (a_ (qG (ay<|Ê uo (Â 12)<|Ú<|bI å)<|ay<|Ê Ĺ (Â 5)<|mC<|.str "-")
 (ý 5<|ü ô (Ú<|ü ô (Â 8)<|mC<|.str " ")<|Ê æ (Â 12)<|Ç 0)
 cY)
 (ý 4<|ü ô (Â 4)<|Ê ą (Â 9)<|aW aX<|É (Â 12) å)))))
def nn:M Fl:=(è (H0 (gS 2<|ð (gN 6)<|ð (gN 7) ű)<|é 3)
 (è (ý 4<|Ļ<|Ç 0)
 (è (ý 5<|Ļ<|mC<|.str "-")
 (è (cW (ī 1) (gT 3<|ð (gN 8)<|ð (gN 9)<|ð (gN 10) ű) Ϩ)
 (è (a_ (ay<|Ê cO (Ú<|gq "say" [("Desk",ľ)] (é 0) (à (Ú<|Ý Ď<|à (Ú<|bI<|É (mC<|.str "first")<|É (é 6)<|É (é 7) å) Ø) Ø))<|Â 5)
 (Ā<|Ļ<|mC .non)
 cY)
 (Ā<|ce 4))))))
def bQ:MF:=ď 4 13 nn
def lc:M Fl:=(zJ 1<|Ú<|Ý jp<|Ì 0<|Ì 3 Ø)
def le:M Fl:=(cW (Ϥ<|Ú<|Ý bi<|Ì 0<|Ì 2 Ø) (gN 3) lc)
def qX:M Fl:=(è (ý 1<|Ļ<|Ç 0)
 (è (cW (ŷ Ϟ<|É (aW aX<|É (eR (ŏ ["Yard"] "days")<|Â 0) å) å) (gN 2) le)
 (Ā<|ce 1)))
def gF:MF:=ď 1 4 qX
def nU:M Fl:=(a_ (ay<|Ê DX (Ê æ (Â 10)<|Â 12)<|Ç 0)
 (ý 11<|Ļ<|Ê FC (Â 11)<|Ê vH (Ç 1)<|Â 12)
 cY)
def Bo:M Fl:=(è (ý 1<|ü ô (Ç 1)<|Ê ĥ (Ú<|Ý ō<|Ì 0<|à (Ç 0) Ø)<|Ç 4)
 (è (ý 2<|ü ô (Ç 1)<|Ê ĥ (Ê bU (Ú<|Ý ō<|Ì 0<|à (Ç 0) Ø)<|Ç 4)<|Ç 3)
 (è (ý 3<|Ý ō<|Ì 0<|à (Ç 1) Ø)
 (è (ý 4<|Ī [1,2,3,0] 1 (ŷ Ϟ<|É (Ê ĥ (Â 3)<|Ç 4) å) (gN 4) Ģ (Ú<|Ý ϓ<|à (Ú<|ü ô (Ú<|Ý ō<|Ì 3<|à (Ú<|ü ô (Ç 2)<|Â 4) Ø)<|Â 2)<|Ì 0<|Ì 1 Ø))
 (è (ý 5<|Ý dA<|Ì 0 Ø)
 (è (ý 6<|Ý bK<|Ì 1<|Ì 2<|Ì 4<|Ì 5 Ø)
 (è (ý 7<|Ļ<|eW "Desk" tu (Ì 6 Ø))
 (C2 8 (ý 9<|Ļ<|Ç 0)
 (jW 8 (ī 5) (gT 3<|ð (gN 15)<|ð (gN 16)<|ð (gN 17) ű)
 (nO (wb 15)
 (jW 8 (ŷ Ϟ<|É (aW aX<|É (Â 17) å) å) (gN 12)
 (nO (il 8<|ý 18<|gq "say" [("Desk",ľ)] (é 7) (à (Ú<|ü ô (Ú<|ü ô (Ú<|ü ô (mC<|.str "dark ")<|Â 15)<|mC<|.str " ")<|aW cS<|É (Â 12) å) Ø))
 (nO (Eh 8 15<|Ú<|yD dU (Â 18)<|É (mC<|.str "/") å)
 (il 8<|ý 9<|ü ô (Â 9)<|Ê ą (Â 16)<|aW aX<|É (Ú<|Ī [] 1 (ī 18) (gN 0) (ay<|Ê Ĺ (Â 0)<|mC<|.str ".") (é 0)) å))))))
 (è (ý 10<|Ī [7,5,8,1] 1 (ŷ Ϟ<|É (Ê ą (Â 1)<|Â 2) å) (gN 4) Ģ (Ú<|Ý bQ<|Ì 0<|Ì 1<|Ì 2<|à (ŵ<|É (Ê ĥ (Â 4)<|Â 3)<|É (Ê bU (Â 4)<|Â 3) å) Ø))
 (è (a_ (xY (ay<|Ê Ev (mC .non)<|Â 10)<|ay<|Ê cO (aW yo<|É (Â 10) å)<|Â 9)
 (Ā<|Ļ<|mC<|.bl false)
 cY)
 (è (ý 11<|Ļ<|Ç 0)
 (è (cW (ŷ Ϟ<|É (aW aX<|É (Â 10) å) å) (gN 12) nU)
 (è (ý 13<|Ý cT<|Ì 6 Ø)
 (è (ý 14<|Ļ<|Ê ĥ (Â 3)<|aW aX<|É (Â 10) å)
 (è (a_ (ay<|Ê cO (Ú<|gq "say" [("Desk",ľ)] (é 7) (à (Ú<|Ý Ď<|à (Ú<|bI<|É (mC<|.str "hours")<|É (Ê ĥ (Â 14)<|Â 1)<|É (Ê bU (Â 14)<|Â 1) å) Ø) Ø))<|aW cS<|É (Ê æ (Â 10)<|Â 14) å)
 (Ā<|Ļ<|mC<|.bl false)
 cY)
 (Ā<|Ļ<|iF (Ê Ĺ (Ú<|Ý gF<|Ì 13 Ø)<|Â 11)<|Ê Ĺ (Ú<|Ý mN<|Ì 13 Ø)<|Â 10))))))))))))))))
def wg:MF:=ď 1 19 Bo
abbrev Df(V:VE)(i:Nat)(x:String)(mf:MF)(k:Nat):Prop:=Dn V x (top i) (Qj<|top i) mf k
abbrev Dv(V:VE)(i:Nat)(x:String)(mf:MW)(k:Nat):Prop:=Dw V x (top i) (Qj<|top i) mf k
section
seal PE PT PW PA PS ca PG Ap PI Cm
def okL{V:VE}{fa:À}(_:Gz V.mg "abs")(_:Gz V.mg "all")(_:Gz V.mg "divmod")(_:Gz V.mg "enumerate")(_:Gz V.mg "int")(_:Gz V.mg "len")(_:Gz V.mg "list")(_:Gz V.mg "max")(_:Gz V.mg "min")(_:Gz V.mg "range")(_:Gz V.mg "str")(_:Gz V.mg "sum")(_:Gz V.mg "tuple")(_:Gz V.mg "zip")(_:Gc V "Yard")(_:Gc V "Thing")(_:Gc V "Post")(_:Gc V "Fence")(_:Gc V "Sail")(_:Gc V "Cloth")(_:Gc V "House")(_:Gc V "Desk")(_:Gc V "ROWS")(_:Gc V "answer_show")(_:Gc V "answer_who")(_:Gc V "answer_walk")(_:Gc V "answer_dial")(_:Gs V.mg "FIGURES" "0123456789")(_:Gs V.mg "LETTERS" "abcdefghijklmnopqrstuvwxyz")(_:Gi V.mg "MOST_DAYS" (12))(_:Gi V.mg "MOST_FIGURES" (10))(_:Gi V.mg "MOST_HEIGHT" (1000000000))(_:Gi V.mg "MOST_LETTERS" (8))(_:Gi V.mg "MOST_PLACE" (1000000000))(_:Gi V.mg "MOST_RAY" (1000000))(_:Gi V.mg "MOST_SIDE" (20))(_:Gi V.mg "MOST_THINGS" (40))(_:Gi V.mg "MOST_TIMES" (1000000000))(_:Gi V.mg "MOST_TURNS" (24))(_:Gc V "answer_dark")(_:Gc V "answer_lit")(_:Gc V "answer_hours")(_:Gc V "answer_first")(_:Kc V "Yard")(_:Na V "Yard" "width")(_:Na V "Yard" "height")(_:Na V "Yard" "things")(_:Na V "Yard" "days")(_:Kc V "Thing")(_:Na V "Thing" "word")(_:Na V "Thing" "numbers")(_:Kc V "Post")(_:Na V "Post" "word")(_:Na V "Post" "numbers")(_:Kc V "Fence")(_:Na V "Fence" "word")(_:Na V "Fence" "numbers")(_:Kc V "Sail")(_:Na V "Sail" "word")(_:Na V "Sail" "numbers")(_:Kc V "Cloth")(_:Na V "Cloth" "word")(_:Na V "Cloth" "numbers")(_:Kc V "House")(_:Na V "House" "word")(_:Na V "House" "numbers")(_:Kc V "Desk")(_:Na V "Desk" "yard")(_:yH V.K V.cm V.w.params (V.cm "ROWS") ZD)(_:V.mg "law"=some (.ref fa))(d0:Df V 149 "_law_part" ō 0)
 (d1:Dn V "_law_spread" (top 150) ["_law_number","_law_many","_law_found","_law_rest","_law_k","_law_turn","_law_digits","_law_upper","_law_lower"] Ų 0)
 (d2:Df V 152 "_law_ray_by" ϥ 1)
 (d3:Df V 155 "_law_days_by" dA 2)
 (d4:Df V 153 "_law_joined" Ď 0)
 (d5:Df V 154 "_law_yard_text" bK 1)
 (d6:Df V 110 "is_made_of" ag 0)
 (d7:Df V 111 "is_number" ϡ 1)
 (d8:Df V 113 "numbers_of" dB 2)
 (d9:Df V 115 "numbers_in" ah 3)
 (d10:Df V 116 "read_size" io 4)
 (d11:Df V 120 "lacks_turns" ų 0)
 (VD:Di V "Yard" "Yard.__init__" (ak (top 55) 0) jY 0)
 (VF:Df V 33 "is_ray" pH 0)
 (VG:Df V 119 "read_turn" eY 4)
 (VH:Dv V 123 "take_turn" ip 5)
 (d16:Df V 112 "is_name" mK 1)
 (d17:Df V 118 "read_day" j_ 4)
 (d18:Dv V 122 "take_day" ka 5)
 (d19:Df V 71 "is_place" bg 0)
 (d20:Df V 72 "is_height" eZ 0)
 (X7:Df V 74 "makes_post" dE 1)
 (d22:Di V "Thing" "Thing.__init__" (ak (top 81) 0) GH 0)
 (VI:Di V "Post" "Thing.__init__" (ak (top 81) 0) yK 0)
 (VJ:Di V "Fence" "Thing.__init__" (ak (top 81) 0) uE 0)
 (VL:Di V "Sail" "Thing.__init__" (ak (top 81) 0) yL 0)
 (d26:Di V "Cloth" "Thing.__init__" (ak (top 81) 0) uF 0)
 (d27:Di V "House" "Thing.__init__" (ak (top 81) 0) uG 0)
 (d28:Df V 75 "has_two_ends" ϸ 1)
 (d29:Df V 76 "makes_fence" cj 2)
 (d30:Df V 77 "makes_sail_or_house" Ķ 2)
 (Vd:Df V 73 "is_cloth_corner" aU 1)
 (X8:Df V 78 "makes_cloth" ck 2)
 (d33:Df V 87 "thing_of" Ϧ 3)
 (VM:Df V 117 "read_thing" fZ 4)
 (VN:Dv V 121 "take_thing" dF 5)
 (d36:Dv V 124 "take_row" ħ 6)
 (d37:Df V 125 "read_yard" cT 7)
 (d38:Di V "Desk" "Desk.__init__" (ak (top 147) 0) tu 8)
 (d39:Dn V "_law_thing_by" (top 151) ["_law_number","_law_width","_law_height","_law_xs","_law_x","_law_y","_law_u","_law_v","_law_h","_law_high","_law_end"] ϓ 1)
 (d40:Df V 143 "numbers_behind" Ł 3)
 (X9:Df V 58 "has_day" dW 0)
 (Ya:Df V 57 "turns_of" bi 0)
 (Yb:Df V 61 "check_turn" f_ 1)
 (d44:Df V 14 "box_lines" iu 0)
 (VO:Df V 16 "each_once" iw 0)
 (d46:Df V 15 "line_through" dG 0)
 (d47:Df V 13 "holds" kb 0)
 (d48:Df V 17 "edge_lines" ga 1)
 (d49:Df V 18 "lines_about" cn 2)
 (d50:Df V 34 "cast" nR 0)
 (Yc:Df V 79 "level_corners" ϔ 0)
 (Yd:Df V 80 "block_corners" au 1)
 (Ye:Dh V "Post" "corners" "Post.corners" (ak (top 82) 0) Ż 2)
 (Yf:Dh V "Fence" "corners" "Fence.corners" (ak (top 83) 0) ũ 0)
 (d55:Dh V "Sail" "corners" "Sail.corners" (ak (top 84) 0) ż 1)
 (d56:Dh V "Cloth" "corners" "Cloth.corners" (ak (top 85) 0) Ū 0)
 (d57:Dh V "House" "corners" "House.corners" (ak (top 86) 0) ū 2)
 (d58:Df V 37 "corner_casts" Ϲ 3)
 (d59:Df V 41 "span_bits" cU 0)
 (d60:Df V 42 "row_bits" gy 1)
 (d61:Df V 43 "dark_of" gh 4)
 (d62:Df V 44 "darks_of_things" aV 5)
 (d63:Df V 45 "dark" kf 6)
 (d64:Df V 133 "answer_dark" cq 7)
 (d65:Df V 56 "has_stone" iy 0)
 (d66:Df V 59 "check_stone" aA 1)
 (d67:Df V 60 "check_day" iz 1)
 (d68:Df V 19 "parting_line" bj 3)
 (d69:Df V 25 "pairs_below" cr 0)
 (d70:Df V 26 "triples_below" cL 1)
 (d71:Df V 10 "greatest_divisor" aj 0)
 (d72:Df V 11 "ratio" kg 1)
 (d73:Dn V "spread" (top 24) ["shares","places","many","whole","weights","share","place"] cu 2)
 (d74:Df V 20 "turned" jl 0)
 (d75:Df V 21 "shares_of_three" ϣ 1)
 (d76:Df V 23 "are_weights" ϧ 0)
 (d77:Df V 22 "shares_of_two" av 0)
 (d78:Df V 27 "weights_of" bN 3)
 (d79:Df V 28 "held" uJ 4)
 (d80:Df V 35 "stone_cast" gb 1)
 (d81:Df V 38 "shading" mM 5)
 (d82:Df V 39 "shades" jo 6)
 (d83:Df V 46 "is_dark" aB 7)
 (d84:Df V 63 "lit_turns" iA 8)
 (d85:Df V 135 "answer_lit" bO 9)
 (d86:Df V 65 "lit_set" jp 7)
 (d87:Df V 67 "hours" mN 8)
 (d88:Df V 31 "number_of" iB 0)
 (d89:Df V 136 "answer_hours" bo 9)
 (d90:Df V 64 "first_lit" e_ 8)
 (d91:Df V 129 "name_of" dX 0)
 (d92:Df V 138 "turn_text" iC 1)
 (d93:Df V 137 "answer_first" Ϻ 9)
 (d94:Df V 130 "day_called" bP 1)
 (d95:Df V 144 "answer" gE 10)
 (d96:Df V 145 "with_thing" yP 4)
 (d97:Df V 146 "without_thing" rk 4)
 (d98:Dh V "Desk" "say" "Desk.say" (ak (top 147) 1) ľ 11)
 (d99:Dn V "_law_stone" (top 156) ["_law_desk","_law_days","_law_pictures","_law_place","_law_total","_law_first_told","_law_p","_law_q","_law_name","_law_often","_law_turns","_law_told","_law_due"] bQ 12)
 (VP:Df V 66 "ever_lit" gF 8)
 (VQ:Dn V "law" (top 157) ["_law_script","_law_width","_law_height","_law_number","_law_things","_law_days","_law_text","_law_desk","_law_pictures","_law_whole","_law_totals","_law_bits","_law_k","_law_yard","_law_at","_law_name","_law_often","_law_turns","_law_told"] wg 13):
 Qp V fa "_law_script" 14 wg:=by
 refine Ϸ d0 rfl (λS _ hr hu=>Û (ϩ ĝ rfl (fu<|ñ<|ϟ (Ä 0) (Ÿ<|v_var 1)<|Ÿ<|v_add (Ä 1) Ë) (Ŷ S)<|ķ<|Ű xQ yk gz su<|á (Ä 2) ï)<|ķ ğ) λ_=>?_;refine Ϸ d1 rfl (λS _ hr hu=>ĕ S (Ŭ ó)<|ĕ S (Ŕ<|uq (Ä 0) Ë)<|Û (ϩ ĝ rfl (ŀ rfl gz<|Í (v_mul (Ä 1)<|pq Ë<|Ŧ (Ä 0) Ë) ó) (Ŷ S)<|Û (Ft (Ű vJ vK gz BO<|á (Ä 3)<|á (ë<|dN yb xP Ë Ë) ï)<|F9 rfl<|Ġ (Ŷ S)<|Ġ (Ŷ S) dS)<|ò<|PS.wk (ϝ<|fk aN bB cG Ŵ (pv 2)<|Í (v_var 6) ó) λ_ _ _ h=>ii h)<|ĕ S (fv (Ŧ (Ä 3) Ë) Ë)<|Û (Cy ĝ (aR iU iQ (ë<|Ű ŉ ŕ gz ĩ<|á (Ä 2) ï) (Ä 1)<|ň _)<|Û (ϩ ĝ rfl (ŀ rfl gz<|Í ğ ó) (Ŷ S)<|Û (Ft (Ű vJ vK gz BO<|á (Ä 3)<|á Ë ï)<|F9 rfl<|Ġ (Ŷ S)<|Ġ (Ŷ S) dS)<|ò<|qm S<|Ŕ<|v_mod (ci (ci (ci (Ϡ (Ä 8) Ë)<|Ϡ (Ä 7) Ë)<|Ϡ Ë<|ë<|Ű ŉ ŕ gz ĩ<|á (Ä 2) ï) Ë) Ë)<|ò<|PS.wk (ϝ<|fk aN bB cG Ŵ (pv 2)<|Í (uq (Ä 3) Ë) ó) λ_ _ _ h=>ii h)<|ģ<|dM 2) λ_=>?_;refine Ϸ d2 rfl (λS _ hr hu=>ĕ S (ù hr<|Õ 0<|Ü ğ Ô)<|Û (ŋ (fc hu (Ŧ (ć (Ä 1) Ë) Ë) Ë) (ķ oW) Ą)<|Û (ŋ (fc hu (Ŧ (ć (Ä 1) Ë) Ë) Ë) (ķ<|Ŋ<|Í (v_sub (Ŧ (ć (Ä 1) Ë) Ë) Ë)<|Í (v_sub (Ŧ (ć (Ä 1) Ë) Ë) Ë)<|Í (v_add Ë<|Ŧ (ć (Ä 1) Ë) Ë) ó) Ą)<|ķ<|Ŋ<|Í (v_sub (Ŧ (ć (Ä 1) Ë) Ë) Ë)<|Í (v_sub (Ŧ (ć (Ä 1) Ë) Ë) Ë)<|Í (v_add Ë<|Ŧ (ć (Ä 1) Ë) Ë) ó) λ_=>?_;refine Ϸ d3 rfl (λS _ hr hu=>ĕ S (ù hr<|Õ 0<|Ü ğ Ô)<|ĕ S (Ŭ ó)<|Û (ϩ ĝ rfl (ŀ rfl gz<|Í (v_add Ë<|Ŧ (qN (Ä 1) Ë) Ë) ó) (Ŷ S)<|ĕ S (fv Ë<|Ŧ (ci (qN (Ä 1) Ë)<|Ä 3) Ë)<|Û (vd S (ŀ rfl gz<|Í (v_var 4) ó) aq Ĳ<|ñ<|ù hr<|Ü (v_add (ë<|ñ<|ù hr<|Õ 0<|Ü (v_add (ci Ë<|Ϡ Ë<|Ä 2)<|Ä 3) Ô)<|qN (Ä 1) Ë) Ô)<|ĕ S (Ŕ<|Ľ (ë<|ñ<|Ŭ<|Í ğ<|Í (dN yb xP Ë Ë)<|Í (dN yb xP Ë Ë)<|Í (v_add Ë<|Ŧ (Ä 1) Ë) ó)<|Ŧ (ci (qN (Ä 1) Ë)<|qN (Ä 3) Ë) Ë)<|ò<|PS.wk (ϝ<|fk aN bB cG Ŵ (pv 2)<|Í (Ŋ<|Í (Ľ (ë<|ñ<|Ŭ<|Í ϐ<|Í ϐ<|Í ϐ ó)<|Ä 3)<|Í (v_var 6)<|Í (v_var 5) ó) ó) λ_ _ _ h=>ii h)<|ģ<|dM 2) λ_=>?_;refine Ϸ d4 rfl (λS _ hr hu=>ķ<|zH cH lW lX mE mz ϑ<|á (ë<|ñ<|fW (Ũ 0) aq Ĳ<|vb mG mH gz lF<|á (Ä 0) ï) ï) λ_=>?_;refine Ϸ d5 rfl (λS _ hr hu=>ĕ S (fv (ë<|ñ<|Ŭ<|Í (ñ<|ù hr<|Ü (ñ<|Ŭ<|Í ϐ<|Í (v_var 0)<|Í (v_var 1) ó) Ô) ó)<|ë<|ñ<|fW (Ũ 2) aq Ĳ<|ñ<|ù hr<|Õ 0 Ô)<|Û (ϩ ĝ rfl (Ũ 3) (mW rfl<|Ġ (Ŷ S)<|Ġ (Ŷ S)<|Ġ (Ŷ S) dS)<|Û (PS.wk (ϝ<|fk aN bB cG Ŵ (pv 4)<|Í (ñ<|ù hr<|Ü (ñ<|Ŭ<|Í ϐ<|Í (v_var 5)<|Í (v_var 6) ó) Ô) ó) λ_ _ _ h=>ii h)<|ò<|ϩ ĝ rfl (Ũ 7) (Ŷ S)<|ò<|ŋ (aR uf nv (Ä 8) qM<|ň _) (ò<|PS.wk (ϝ<|fk aN bB cG Ŵ (pv 4)<|Í ϐ ó) λ_ _ _ h=>ii h)<|ò<|PS.wk (ϝ<|fk aN bB cG Ŵ (pv 4)<|Í (ñ<|ù hr<|Ü (v_add (ë<|ñ<|Ŭ<|Í ϐ ó)<|ë<|ñ<|vc eM eN gz eC<|á (Ä 8) ï) Ô) ó) λ_ _ _ h=>ii h)<|ķ<|zH cH lW lX mE mz ϑ<|á (Ä 4) ï) λ_=>?_;refine Ϸ d6 rfl (λS _ hr hu=>ķ<|v_and (oX bV bV bT bT Ë (ë<|Ű ŉ ŕ gz ĩ<|á (Ä 0) ï)<|Ä 2)<|iS<|Ű (nC rfl) nJ gz jB<|á (ë<|ñ<|fW (Ũ 0) aq Ĳ<|kH yG (yF hu) (Ä 1) (Ä 0)<|by with_unfolding_all rfl) ï) λ_=>?_;refine Ϸ d7 rfl (λS _ hr hu=>ĕ S (HX (ao<|ë<|zH cH BX BY vP vB (Ä 0)<|á ϑ ï) (ϟ (Ä 0) (Ÿ ğ) gp)<|Ŕ<|v_var 0)<|Û (ŋ (iR<|ao<|ë<|ñ<|ù hr<|Õ 1<|Ü Qn<|Ü nP Ô) (ķ DU) Ą)<|ķ<|v_or (v_eq hu (Ä 0) ϑ)<|iS<|v_not<|zH cH BX BY vP vB (Ä 1)<|á ϑ ï) λ_=>?_;refine Ϸ d8 rfl (λS _ hr hu=>Û (ŋ (ao<|ë<|Ű (nC rfl) nJ gz jB<|á (ë<|ñ<|fW (Ũ 0) aq Ĳ<|ñ<|ù hr<|Õ 0 Ô) ï) (ģ<|fW (Ũ 0) aq Ĳ<|vb CW CY gz BP<|á (Ä 0) ï) Ą)<|ķ oW) λ_=>?_;refine Ϸ d9 rfl (λS _ hr hu=>ĕ S (ù hr<|Õ 0 Ô)<|Û (ŋ (aR uf nv (Ä 2) qM<|ň _) (ò İ) Ą)<|ģ<|dM 2) λ_=>?_;refine Ϸ d10 rfl (λS _ hr hu=>Û (ŋ (PW.pt<|w_or (ql hu (ć (Ä 0) Ë) ϑ)<|qH<|ql hu (ë<|Ű ŉ ŕ gz ĩ<|á (Ä 0) ï) Ë) (ò İ) Ą)<|ĕ S (ù hr<|Ü (ñ<|ϟ (Ä 0) (Ÿ ğ) gp)<|Õ 1 Ô)<|Û (ŋ (iR<|ao<|ë<|Ű (nC rfl) nJ gz jB<|á (ë<|ñ<|fW (Ũ 2) aq Ĳ<|oX bV bV bT bT Ë (Ä 0)<|ë nP) ï) (ò İ) Ą)<|ģ<|dM 2) λ_=>?_;refine Ϸ d11 rfl (λS _ hr hu=>ķ<|v_and (kH Cz Cj (ë<|yA 0 gz<|pv 0) Ë<|ň _)<|iS<|v_eq hu (ë<|Gf 0 gz<|Md<|pv 0) Ë) λ_=>?_;refine stI VD rfl (λS _ hr hu=>Û (kT (pv 0)<|v_var 1)<|Û (kT (pv 0)<|v_var 2)<|Û (kT (pv 0)<|ñ<|vc eM eN gz eC<|á (Ä 3) ï)<|ò<|kT (pv 0)<|ñ<|Ve (L8 4) (CS ["name","times","turns"] [] 3 (ÿ<|ak (top 55) 0) rfl rfl (PF 4) (λ_ _ _ _ _=>PH (i:=0) (j:=1) (k:=2) rfl (show(["name","times","turns"]:List Str).Nodup by decide+kernel) rfl rfl rfl (ϭ rfl) (ϭ rfl) (ϭ rfl) (fx:=gP rfl) (fy:=gP rfl) (fz:=gP rfl)) (λ_ _ _ _ _=>Ĳ) (λ_ _ _ _ _=>Ŋ<|Í (v_var 0)<|Í (v_var 1)<|Í (ñ<|vc eM eN gz eC<|á (Ä 2) ï) ó) trivial)<|fW (Ũ 4) (mW rfl<|Ġ aq<|Ġ aq<|Ġ aq dS) Ĳ<|Ŋ<|Í (v_var 0)<|Í (v_var 1)<|Í (ñ<|vc eM eN gz eC<|á (Ä 2) ï) ó) λ_=>?_;refine Ϸ VF rfl (λS _ hr hu=>ķ<|v_and (kH bV bT (ë<|Ű xQ yk gz su<|á (ć (Ä 0) Ë) ï) (ë nP)<|ň _)<|v_and (kH bV bT (ë<|Ű xQ yk gz su<|á (ć (Ä 0) Ë) ï) (ë nP)<|ň _)<|iS<|oX bV bV bT bT Ë (ć (Ä 0) Ë)<|ë nP) λ_=>?_;refine Ϸ VG rfl (λS _ hr hu=>Û (ŋ (fc hu (Ä 0)<|ë<|ñ<|Ŭ<|Í ϐ ó) (ķ oW) Ą)<|Û (ŋ (PW.pt<|w_or (ql hu (ć (Ä 0) Ë) ϑ)<|qH<|ql hu (ë<|Ű ŉ ŕ gz ĩ<|á (Ä 0) ï) Ë) (ò İ) Ą)<|ĕ S (Ŕ<|vb zx zy gz BQ<|á (ë<|ñ<|ù hr<|Ü (ñ<|ϟ (Ä 0) (Ÿ ğ) gp)<|Õ 1 Ô) ï)<|Û (ŋ (iR<|ao<|ë<|ñ<|ù hr<|Õ 2 Ô) (ò İ) Ą)<|ģ<|dM 2) λ_=>?_;refine Sj VH rfl (λS _ hr hu=>tj (PW.pt<|w_or (fc hu (ë<|yA 2 gz<|pv 2) Ë)<|qH<|fc hu (ë<|Gf 2 gz<|Md<|pv 2)<|ë nP) (ò İ)<|Mc (Md<|pv 2)<|ñ<|ù hr<|Õ 0<|Õ 1 Ô) λ_=>?_;refine Ϸ d16 rfl (λS _ hr hu=>ģ<|ù hr<|Õ 0<|Ü Qn<|Ü nP Ô) λ_=>?_;refine Ϸ d17 rfl (λS _ hr hu=>Û (ŋ (PW.pt<|w_or (ql hu (ë<|Ű ŉ ŕ gz ĩ<|á (Ä 0) ï) Ë)<|qH<|iR<|ao<|ë<|ñ<|ù hr<|Ü (Ľ (Ä 0) Ë) Ô) (ò İ) Ą)<|ĕ S (Ŕ<|Ľ (ë<|ñ<|ù hr<|Ü (ñ<|ϟ (Ä 0) (Ÿ ğ) gp)<|Õ 1 Ô) Ë)<|Û (ŋ (iR<|Fp bV bV bT bT Ë (Ä 2)<|ë nP) (ò İ) Ą)<|ģ<|L4<|CQ (Ľ (Ä 0) Ë)<|CQ (v_var 2)<|L1<|Ŭ ó) λ_=>?_;refine Sj d18 rfl (λS _ hr hu=>tj (PW.pt<|w_or (ao<|ë<|ñ<|ù hr<|Õ 2 Ô)<|qH<|fc hu (ë<|yA 2 gz<|pv 2)<|ë nP) (ò İ)<|PM (i:=3) S.nd rfl (ϭ rfl) (ù hr<|Õ 0<|Õ 1 Ô)<|tj (L_ 3<|aR yG (yF hu) (ć (Ä 3) Ë) (ë<|ñ<|CS ["name","times","turns"] [] 3 (ÿ<|top 122) rfl rfl (PF 2) (λ_ _ _ _ _=>PH (i:=0) (j:=1) (k:=2) rfl (show(["name","times","turns"]:List Str).Nodup by decide+kernel) rfl rfl rfl (ϭ rfl) (ϭ rfl) (ϭ rfl) (fx:=gP rfl) (fy:=gP rfl) (fz:=gP rfl)) (λ_ _ _ _ _=>Ĳ) (λ_ _ _ _ _=>v_var 0) trivial)<|by with_unfolding_all rfl) (ò İ)<|Mb (pv 2)<|pv 3) λ_=>?_;refine Ϸ d19 rfl (λS _ hr hu=>ķ<|oX bV bV bT bT (ë<|xX kM kE<|ë nP) (Ä 0)<|ë nP) λ_=>?_;refine Ϸ d20 rfl (λS _ hr hu=>ķ<|oX bV bV bT bT Ë (Ä 0)<|ë nP) λ_=>?_;refine Ϸ X7 rfl (λS _ hr hu=>ķ<|v_and (v_eq hu (ë<|Ű ŉ ŕ gz ĩ<|á (Ä 0) ï) Ë)<|v_and (ñ<|ù hr<|Ü (Ľ (Ä 0) Ë) Ô)<|v_and (ñ<|ù hr<|Ü (Ľ (Ä 0) Ë) Ô)<|iS<|ñ<|ù hr<|Ü (Ľ (Ä 0) Ë) Ô) λ_=>?_;refine stI d22 rfl (λS _ hr hu=>Û (kT (pv 0)<|v_var 1)<|ò<|kT (pv 0)<|ñ<|vc eM eN gz eC<|á (Ä 2) ï) λ_=>?_;refine stI VI rfl (λS _ hr hu=>Û (kT (pv 0)<|v_var 1)<|ò<|kT (pv 0)<|ñ<|vc eM eN gz eC<|á (Ä 2) ï) λ_=>?_;refine stI VJ rfl (λS _ hr hu=>Û (kT (pv 0)<|v_var 1)<|ò<|kT (pv 0)<|ñ<|vc eM eN gz eC<|á (Ä 2) ï) λ_=>?_;refine stI VL rfl (λS _ hr hu=>Û (kT (pv 0)<|v_var 1)<|ò<|kT (pv 0)<|ñ<|vc eM eN gz eC<|á (Ä 2) ï) λ_=>?_;refine stI d26 rfl (λS _ hr hu=>Û (kT (pv 0)<|v_var 1)<|ò<|kT (pv 0)<|ñ<|vc eM eN gz eC<|á (Ä 2) ï) λ_=>?_;refine stI d27 rfl (λS _ hr hu=>Û (kT (pv 0)<|v_var 1)<|ò<|kT (pv 0)<|ñ<|vc eM eN gz eC<|á (Ä 2) ï) λ_=>?_;refine Ϸ d28 rfl (λS _ hr hu=>ķ<|v_and (v_eq hu (ë<|Ű ŉ ŕ gz ĩ<|á (Ä 0) ï) Ë)<|v_and (Ű (nC rfl) nJ gz jB<|á (ë<|ñ<|fW (fu<|ñ<|ϟ (Ä 0) gp<|Ÿ ğ) aq Ĳ<|ñ<|ù hr<|Õ 0 Ô) ï)<|iS<|ñ<|ù hr<|Ü (Ľ (Ä 0) Ë) Ô) λ_=>?_;refine Ϸ d29 rfl (λS _ hr hu=>ķ<|v_and (ñ<|ù hr<|Õ 0 Ô)<|iS<|kH FG (AS hu) (ë<|ñ<|ϟ (Ä 0) gp<|Ÿ ğ) (ë<|ñ<|ϟ (Ä 0) (Ÿ ğ)<|Ÿ ğ)<|ň _) λ_=>?_;refine Ϸ d30 rfl (λS _ hr hu=>ķ<|v_and (ñ<|ù hr<|Õ 0 Ô)<|v_and (kH iU iQ (ć (Ä 0) Ë) (ć (Ä 0) Ë)<|ň _)<|iS<|kH iU iQ (ć (Ä 0) Ë) (ć (Ä 0) Ë)<|ň _) λ_=>?_;refine Ϸ Vd rfl (λS _ hr hu=>ķ<|v_and (ñ<|ù hr<|Ü (Ľ (Ä 0) Ë) Ô)<|v_and (ñ<|ù hr<|Ü (Ľ (Ä 0) Ë) Ô)<|iS<|oX bV bV bT bT Ë (ć (Ä 0) Ë)<|ë nP) λ_=>?_;refine Ϸ X8 rfl (λS _ hr hu=>ķ<|v_and (v_eq hu (ë<|Ű ŉ ŕ gz ĩ<|á (Ä 0) ï) Ë)<|iS<|Ű (nC rfl) nJ gz jB<|á (ë<|ñ<|fW (fu<|Ŋ<|Í ğ<|Í ğ<|Í ğ ó) aq Ĳ<|ñ<|ù hr<|Ü (ñ<|ϟ (Ä 0) (Ÿ<|v_var 1)<|Ÿ<|v_add (Ä 1) Ë) Ô) ï) λ_=>?_;refine Ϸ d33 rfl (λS _ hr hu=>Û (ŋ (PW.pt<|w_and (fc hu (Ä 0) ϑ)<|nG<|ao<|ë<|ñ<|ù hr<|Õ 1 Ô) (ķ<|yJ hr<|Õ 0<|Õ 1 Ô) Ą)<|Û (ŋ (PW.pt<|w_and (fc hu (Ä 0) ϑ)<|nG<|ao<|ë<|ñ<|ù hr<|Õ 1 Ô) (ķ<|yJ hr<|Õ 0<|Õ 1 Ô) Ą)<|Û (ŋ (PW.pt<|w_and (fc hu (Ä 0) ϑ)<|nG<|ao<|ë<|ñ<|ù hr<|Õ 1 Ô) (ķ<|yJ hr<|Õ 0<|Õ 1 Ô) Ą)<|Û (ŋ (PW.pt<|w_and (fc hu (Ä 0) ϑ)<|nG<|ao<|ë<|ñ<|ù hr<|Õ 1 Ô) (ķ<|yJ hr<|Õ 0<|Õ 1 Ô) Ą)<|Û (ŋ (PW.pt<|w_and (fc hu (Ä 0) ϑ)<|nG<|ao<|ë<|ñ<|ù hr<|Õ 1 Ô) (ķ<|yJ hr<|Õ 0<|Õ 1 Ô) Ą)<|ò İ) λ_=>?_;refine Ϸ VM rfl (λS _ hr hu=>ĕ S (ù hr<|Ü (ñ<|ϟ (Ä 0) (Ÿ ğ) gp)<|Õ 1 Ô)<|ò<|Mo<|λ_ _ _=>ģ<|ù hr<|Ü (Ľ (Ä 0) Ë)<|Õ 2 Ô) λ_=>?_;refine Sj VN rfl (λS _ hr hu=>tj (PW.pt<|w_or (aR Cz Cj (ë<|yA 3 gz<|pv 3) Ë<|ň _)<|qH<|fc hu (ë<|Ű ŉ ŕ gz ĩ<|á (Ä 2) ï)<|ë nP) (ò İ)<|Ma (pv 2)<|ñ<|ù hr<|Õ 0<|Õ 1 Ô) λ_=>?_;refine Sj d36 rfl (λS _ hr hu=>PK (aR yG (yF hu) (ć (Ä 0) Ë) (ë<|Ŋ<|Í ϐ<|Í ϐ ó)<|by with_unfolding_all rfl) (Mz hr<|aS 0 (pv 0)<|aS 1 (pv 1)<|aS 3 (pv 3) yz)<|PK (fc hu (ć (Ä 0) Ë) ϑ) (Mz hr<|aS 0 (pv 0)<|aS 1 (pv 1)<|aS 3 (pv 3) yz)<|Mz hr<|aS 0 (pv 0)<|aS 1 (pv 1)<|aS 2 (pv 2)<|aS 3 (pv 3) yz) λ_=>?_;refine Ϸ d37 rfl (λS _ hr hu=>Û (vd S (fu<|ñ<|IQ cH jH sN pC pB (Ä 0)<|á ϑ ï) aq Ĳ<|ñ<|IQ cH jH sN pC pB (Ä 0)<|á ϑ ï)<|ĕ S (ù hr<|Ü (Ľ (Ä 1) Ë)<|Ü ğ Ô)<|Vg (tE S.nd (i:=3) rfl (ϭ rfl)<|tK bZ) (tE S.nd (i:=4) rfl (ϭ rfl)<|tK bZ) ĝ rfl (IM rfl gz<|LQ<|ñ<|ϟ (Ä 1) (Ÿ ğ) gp) (xI rfl (iP (mj S.nd (i:=5) rfl<|ϭ rfl) (iP (mj S.nd (i:=6) rfl<|ϭ rfl) xH rfl) rfl) rfl rfl) (fT<|ϝ<|Qk hr<|aS 6 (pv 6)<|aS 5 (pv 5)<|aS 3 (pv 3)<|aS 4 (pv 4) yz) (Û (ŋ (ao<|ë<|ñ<|ù hr<|Õ 4 Ô) (ò İ) Ą)<|ķ<|yJ hr<|Ü (Ľ (Ä 2) Ë)<|Ü (Ľ (Ä 2) Ë)<|Õ 3<|Õ 4 Ô)<|λ_ _=>rfl) λ_=>?_;refine stI d38 rfl (λS _ hr hu=>ò<|kT (pv 0)<|ñ<|ù hr<|Õ 1 Ô) λ_=>?_;refine Ϸ d39 rfl (λS _ hr hu=>ĕ S (ù hr<|Õ 0<|Ü ğ Ô)<|ĕ S (Ŕ<|v_sub (Ŧ (ć (Ä 3) Ë)<|ci (Ϡ Ë<|Ä 1) Ë) Ë)<|ĕ S (Ŕ<|v_sub (Ŧ (ć (Ä 3) Ë)<|ci (Ϡ Ë<|Ä 2) Ë) Ë)<|ĕ S (fv (ci (Ä 4) Ë)<|Ŧ (ć (Ä 3) Ë) Ë)<|ĕ S (fv (ci (Ä 5) Ë)<|Ŧ (ć (Ä 3) Ë) Ë)<|ĕ S (fv Ë<|Ŧ (ć (Ä 3) Ë) Ë)<|Û (ŋ (fc hu (Ŧ (ć (Ä 3) Ë) Ë) Ë) (ò<|qm S<|Ŕ<|v_sub (ë<|dN yb xP Ë Ë)<|Ŧ (ć (Ä 3) Ë) Ë) Ą)<|Û (ŋ (fc hu (Ŧ (ć (Ä 3) Ë) Ë) Ë) (ģ<|Ŭ<|Í ϐ<|Í (v_sub (Ŧ (ć (Ä 3) Ë)<|ci (Ä 1) Ë) Ë)<|Í (v_sub (Ŧ (ć (Ä 3) Ë)<|ci (Ä 2) Ë) Ë)<|Í (v_var 8) ó) Ą)<|Û (ŋ (fc hu (Ŧ (ć (Ä 3) Ë) Ë) Ë) (ĕ S (Ŕ<|Ľ (ë<|ñ<|Ŭ<|Í (Ŋ<|Í (v_var 6)<|Í (v_var 5) ó)<|Í (Ŋ<|Í (v_var 6)<|Í (v_var 7) ó)<|Í (Ŋ<|Í (v_var 4)<|Í (v_var 7) ó)<|Í (Ŋ<|Í (v_sub (Ä 4) Ë)<|Í (v_var 7) ó) ó)<|Ŧ (ć (Ä 3) Ë) Ë)<|ģ<|Ŭ<|Í ϐ<|Í (v_var 4)<|Í (v_var 5)<|Í (Ľ (Ä 10) Ë)<|Í (Ľ (Ä 10) Ë)<|Í (v_var 8) ó) Ą)<|Û (ŋ (fc hu (Ŧ (ć (Ä 3) Ë) Ë) Ë) (ģ<|Ŭ<|Í ϐ<|Í (v_var 4)<|Í (v_var 5)<|Í (v_var 6)<|Í (v_var 7)<|Í (v_var 8) ó) Ą)<|Û (ŋ (fc hu (Ŧ (ć (Ä 3) Ë) Ë) Ë) (ģ<|Ŭ<|Í ϐ<|Í (v_var 4)<|Í (v_var 5)<|Í (v_var 6)<|Í (v_var 7)<|Í (v_var 8) ó) Ą)<|ĕ S (Ŕ<|v_mul (Ŧ (ć (Ä 3) Ë) Ë)<|Ŧ (ć (Ä 3) Ë) Ë)<|ģ<|Ŭ<|Í ϐ<|Í (v_var 4)<|Í (v_var 5)<|Í (v_mod (ć (Ä 3) Ë) Ë)<|Í (v_var 6)<|Í (v_add (pq (Ä 5) Ë)<|Ŧ (ć (Ä 3) Ë) Ë)<|Í (v_mod (ć (Ä 3) Ë) Ë)<|Í (v_add (pq (Ä 4) Ë)<|Ŧ (ć (Ä 3) Ë) Ë)<|Í (v_var 7)<|Í (v_var 9) ó) λ_=>?_;refine Ϸ d40 rfl (λS _ hr hu=>ĕ S (ù hr<|Ü (ñ<|ϟ (Ä 0) (Ÿ<|v_var 1) gp) Ô)<|Û (ŋ (aR uf nv (Ä 2) qM<|ň _) (ò İ) Ą)<|ģ<|dM 2) λ_=>?_;refine Ϸ X9 rfl (λS _ hr hu=>ķ<|oX bV iU bT iQ Ë (Ä 1)<|ë<|Ű ŉ ŕ gz ĩ<|á (ë<|϶<|Ä 0) ï) λ_=>?_;refine Ϸ Ya rfl (λS _ hr hu=>ķ<|Ľ (ć (ë<|϶<|Ä 0)<|Ä 1) Ë) λ_=>?_;refine Ϸ Yb rfl (λS _ hr hu=>ò<|ŋ (PW.pt<|w_or (iR<|ao<|ë<|ñ<|ù hr<|Õ 0<|Õ 1 Ô)<|qH<|iR<|Fp bV iU bT iQ Ë (Ä 2)<|ë<|Ű ŉ ŕ gz ĩ<|á (ë<|ñ<|ù hr<|Õ 0<|Õ 1 Ô) ï) (ò İ) Ą) λ_=>?_;refine Ϸ d44 rfl (λS _ hr hu=>Û (vd S (Ũ 0) aq Ĳ<|Ľ (Ä 0) Ë)<|Û (vd S (Ũ 0) aq Ĳ<|Ľ (Ä 0) Ë)<|ģ<|Ŭ<|Í (Ŋ<|Í ğ<|Í ğ<|Í (Ű (FO rfl) FQ gz wV<|á (Ä 1) ï) ó)<|Í (Ŋ<|Í (xX kM kE Ë)<|Í ğ<|Í (xX kM kE<|ë<|Ű (FP rfl) FS gz wW<|á (Ä 1) ï) ó)<|Í (Ŋ<|Í ğ<|Í ğ<|Í (Ű (FO rfl) FQ gz wV<|á (Ä 2) ï) ó)<|Í (Ŋ<|Í ğ<|Í (xX kM kE Ë)<|Í (xX kM kE<|ë<|Ű (FP rfl) FS gz wW<|á (Ä 2) ï) ó) ó) λ_=>?_;refine Ϸ VO rfl (λS _ hr hu=>ĕ S (Ŭ ó)<|Û (ϩ ĝ rfl (Ũ 0) (Ŷ S)<|ò<|ŋ (aR F0 (D7 hu) (Ä 2) (Ä 1)<|by with_unfolding_all rfl) (ò<|PS.wk (ϝ<|fk aN bB cG Ŵ (pv 1)<|Í (v_var 2) ó) λ_ _ _ h=>ii h) Ą)<|ģ<|dM 1) λ_=>?_;refine Ϸ d46 rfl (λS _ hr hu=>ĕ S (Ŕ<|v_sub (ć (Ä 1) Ë)<|ć (Ä 0) Ë)<|ĕ S (Ŕ<|v_sub (ć (Ä 0) Ë)<|ć (Ä 1) Ë)<|ķ<|Ŋ<|Í (v_var 2)<|Í (v_var 3)<|Í (v_add (Ϡ (Ä 2)<|ć (Ä 0) Ë)<|Ϡ (Ä 3)<|ć (Ä 0) Ë) ó) λ_=>?_;refine Ϸ d47 rfl (λS _ hr hu=>ķ<|kH bV bT (ci (Ϡ (ć (Ä 0) Ë)<|ć (Ä 1) Ë)<|Ϡ (ć (Ä 0) Ë)<|ć (Ä 1) Ë) (ć (Ä 0) Ë)<|ň _) λ_=>?_;refine Ϸ d48 rfl (λS _ hr hu=>ĕ S (Ŭ ó)<|ĕ S (ù hr<|Õ 0 Ô)<|Û (ϩ ĝ rfl (Ũ 2) (Ŷ S)<|ò<|ϩ ĝ rfl (Ũ 2) (Ŷ S)<|ĕ S (ù hr<|Õ 3<|Õ 4 Ô)<|ò<|ŋ (PW.pt<|w_and (ql hu (Ä 3)<|Ä 4)<|nG<|ao<|ë<|Ű (nC rfl) nJ gz jB<|á (ë<|ñ<|fW (Ũ 2) aq Ĳ<|ñ<|ù hr<|Õ 0<|Õ 1 Ô) ï) (ò<|PS.wk (ϝ<|fk aN bB cG Ŵ (pv 1)<|Í (v_var 5) ó) λ_ _ _ h=>ii h) Ą)<|ģ<|dM 1) λ_=>?_;refine Ϸ d49 rfl (λS _ hr hu=>ģ<|fv (ë<|ñ<|ù hr<|Õ 0 Ô)<|ë<|ñ<|ù hr<|Õ 0 Ô) λ_=>?_;refine Ϸ d50 rfl (λS _ hr hu=>ķ<|Ŋ<|Í (v_add (Ϡ (ć (Ä 1) Ë)<|ć (Ä 0) Ë)<|Ϡ (ć (Ä 1) Ë)<|ć (Ä 0) Ë)<|Í (v_add (Ϡ (ć (Ä 1) Ë)<|ć (Ä 0) Ë)<|Ϡ (ć (Ä 1) Ë)<|ć (Ä 0) Ë) ó) λ_=>?_;refine Ϸ Yc rfl (λS _ hr hu=>ģ<|Ŭ<|Í (Ŋ<|Í (v_var 0)<|Í (v_var 1)<|Í (v_var 4) ó)<|Í (Ŋ<|Í (v_var 2)<|Í (v_var 1)<|Í (v_var 4) ó)<|Í (Ŋ<|Í (v_var 2)<|Í (v_var 3)<|Í (v_var 4) ó)<|Í (Ŋ<|Í (v_var 0)<|Í (v_var 3)<|Í (v_var 4) ó) ó) λ_=>?_;refine Ϸ Yd rfl (λS _ hr hu=>ģ<|fv (ë<|ñ<|ù hr<|Õ 0<|Õ 1<|Õ 2<|Õ 3<|Ü ğ Ô)<|ë<|ñ<|ù hr<|Õ 0<|Õ 1<|Õ 2<|Õ 3<|Õ 4 Ô) λ_=>?_;refine stH Ye rfl (λS _ hr hu=>ĕ S (Ŕ<|v_mul Ë<|ć (ë<|϶<|Ä 0) Ë)<|ĕ S (Ŕ<|v_mul Ë<|ć (ë<|϶<|Ä 0) Ë)<|ģ<|ù hr<|Ü (v_sub (Ä 1) Ë)<|Ü (v_sub (Ä 2) Ë)<|Ü (v_add (Ä 1) Ë)<|Ü (v_add (Ä 2) Ë)<|Ü (Ľ (ë<|϶<|Ä 0) Ë) Ô) λ_=>?_;refine stH Yf rfl (λS _ hr hu=>ĕ S (Ŕ<|϶<|Ä 0)<|ĕ S (Ŕ<|Ŋ<|Í (Ľ (Ä 1) Ë)<|Í (Ľ (Ä 1) Ë) ó)<|ĕ S (Ŕ<|Ŋ<|Í (Ľ (Ä 1) Ë)<|Í (Ľ (Ä 1) Ë) ó)<|ģ<|Ŭ<|Í (v_add (Ä 2)<|ë<|Ŋ<|Í ğ ó)<|Í (v_add (Ä 3)<|ë<|Ŋ<|Í ğ ó)<|Í (v_add (Ä 3)<|ë<|Ŋ<|Í (Ľ (Ä 1) Ë) ó)<|Í (v_add (Ä 2)<|ë<|Ŋ<|Í (Ľ (Ä 1) Ë) ó) ó) λ_=>?_;refine stH d55 rfl (λS _ hr hu=>ĕ S (Ŕ<|϶<|Ä 0)<|ģ<|ù hr<|Ü (Ľ (Ä 1) Ë)<|Ü (Ľ (Ä 1) Ë)<|Ü (Ľ (Ä 1) Ë)<|Ü (Ľ (Ä 1) Ë)<|Ü (Ľ (Ä 1) Ë) Ô) λ_=>?_;refine stH d56 rfl (λS _ hr hu=>ģ<|fW (fu<|Ŋ<|Í ğ<|Í ğ<|Í ğ ó) aq Ĳ<|vb zx zy gz BQ<|á (ë<|ñ<|ϟ (ë<|϶<|Ä 0) (Ÿ<|v_var 1)<|Ÿ<|v_add (Ä 1) Ë) ï) λ_=>?_;refine stH d57 rfl (λS _ hr hu=>ĕ S (Ŕ<|϶<|Ä 0)<|ģ<|ù hr<|Ü (Ľ (Ä 1) Ë)<|Ü (Ľ (Ä 1) Ë)<|Ü (Ľ (Ä 1) Ë)<|Ü (Ľ (Ä 1) Ë)<|Ü (Ľ (Ä 1) Ë) Ô) λ_=>?_;refine Ϸ d58 rfl (λS _ hr hu=>ģ<|fW (fu<|ñ<|Qm hr<|v_var 0) aq Ĳ<|ñ<|ù hr<|Õ 1<|Õ 0 Ô) λ_=>?_;refine Ϸ d59 rfl (λS _ hr hu=>Û (ŋ (aR iU iQ (Ä 1) (Ä 0)<|ň _) (ķ ğ) Ą)<|ķ<|v_sub (ë<|dN yc yf Ë<|ci (Ä 1) Ë)<|ë<|dN yc yf Ë<|Ä 0) λ_=>?_;refine Ϸ d60 rfl (λS _ hr hu=>ĕ S (Ŕ ğ)<|ĕ S (Ŕ<|v_sub (Ä 3) Ë)<|Û (ϩ ĝ rfl (Ũ 0) (mW rfl<|Ġ (Ŷ S)<|Ġ (Ŷ S)<|Ġ (Ŷ S) dS)<|ĕ S (Ŕ<|v_mul (Ä 6)<|Ä 1)<|ĕ S (Ŕ<|v_sub (Ä 8)<|Ϡ (Ϡ (Ä 7)<|Ä 1)<|Ä 2)<|ò<|ŋ (aR Cz Cj (Ä 9) Ë<|ň _) (ò<|qm S<|Ŕ<|Ű (HJ rfl) Io gz wW<|á (Ä 5)<|á (qN (Ä 10)<|Ä 9) ï)<|ò<|ŋ (aR iU iQ (Ä 9) Ë<|ň _) (ò<|qm S<|Ŕ<|Ű (HK rfl) Ip gz wV<|á (Ä 4)<|á (ë<|xX kM kE<|qN (Ä 10)<|ë<|xX kM kE<|Ä 9) ï)<|ò<|ŋ (aR iU iQ (Ä 10) Ë<|ň _) (ķ ğ) Ą)<|ģ<|ù hr<|Õ 4<|Õ 5 Ô) λ_=>?_;refine Ϸ d61 rfl (λS _ hr hu=>ĕ S (ù hr<|Ü (ñ<|ù hr<|Õ 1<|Õ 2 Ô) Ô)<|ĕ S (Ŕ ğ)<|Û (ϩ ĝ rfl (ŀ rfl gz<|Í (϶<|Ä 0) ó) (Ŷ S)<|ò<|Ba (i:=4) S.nd rfl (ϭ rfl)<|dN yc yf (ë<|ñ<|ù hr<|Õ 3<|Ü (v_mul Ë<|ć (Ä 2) Ë)<|Õ 5<|Ü (϶<|Ä 0) Ô)<|Ϡ (Ä 5)<|ë<|϶<|Ä 0)<|ģ<|dM 4) λ_=>?_;refine Ϸ d62 rfl (λS _ hr hu=>ģ<|fW (fu<|϶<|Ä 0) aq Ĳ<|ñ<|ù hr<|Õ 0<|Õ 2<|Õ 1 Ô) λ_=>?_;refine Ϸ d63 rfl (λS _ hr hu=>Û (ŋ (aR uf nv (Ä 1) qM<|ň _) (ģ<|ù hr<|Ü ğ<|Ü (v_sub (Ϡ (ë<|϶<|Ä 0)<|ë<|϶<|Ä 0) Ë) Ô) Ą)<|ĕ S (Ŕ ğ)<|Û (ϩ ĝ rfl (fu<|ñ<|ù hr<|Õ 0<|Õ 1 Ô) (Ŷ S)<|ò<|Ba (i:=2) S.nd rfl (ϭ rfl)<|v_var 3)<|ģ<|dM 2) λ_=>?_;refine Ϸ d64 rfl (λS _ hr hu=>Û (tZ<|ñ<|ù hr<|Õ 0<|Ü (Ľ (Ä 1) Ë)<|Ü (Ľ (Ä 1) Ë) Ô)<|ĕ S (ù hr<|Õ 0<|Ü (Ľ (ë<|ñ<|ù hr<|Õ 0<|Ü (Ľ (Ä 1) Ë) Ô)<|ć (Ä 1) Ë) Ô)<|ĕ S (Ŕ<|϶<|Ä 0)<|ĕ S (fW (ŀ rfl gz<|Í (v_mul (Ä 3)<|ë<|϶<|Ä 0) ó) aq Ĳ<|HX (ao<|ë<|dN ye yg (ë<|dN FA FD (Ä 0)<|Ä 1) Ë) ϐ ϐ)<|ķ<|zH cH lW lX mE mz ϑ<|á (ë<|ñ<|fW (ŀ rfl gz<|Í (϶<|Ä 0) ó) aq Ĳ<|zH cH lW lX mE mz ϑ<|á (ë<|ñ<|ϟ (Ä 0) (Ÿ<|v_mul (Ä 2)<|Ä 1)<|Ÿ<|v_add (Ϡ (Ä 2)<|Ä 1)<|Ä 1) ï) ï) λ_=>?_;refine Ϸ d65 rfl (λS _ hr hu=>ķ<|v_and (oX bV iU bT iQ Ë (ć (Ä 1) Ë)<|ë<|϶<|Ä 0)<|iS<|oX bV iU bT iQ Ë (ć (Ä 1) Ë)<|ë<|϶<|Ä 0) λ_=>?_;refine Ϸ d66 rfl (λS _ hr hu=>ò<|ŋ (iR<|ao<|ë<|ñ<|ù hr<|Õ 0<|Õ 1 Ô) (ò İ) Ą) λ_=>?_;refine Ϸ d67 rfl (λS _ hr hu=>ò<|ŋ (iR<|ao<|ë<|ñ<|ù hr<|Õ 0<|Õ 1 Ô) (ò İ) Ą) λ_=>?_;refine Ϸ d68 rfl (λS _ hr hu=>Û (ϩ ĝ rfl (fu<|ñ<|ù hr<|Õ 0 Ô) (Ŷ S)<|ò<|ŋ (iR<|ao<|ë<|ñ<|ù hr<|Õ 2<|Õ 1 Ô) (ģ<|dM 2) Ą)<|ķ oW) λ_=>?_;refine Ϸ d69 rfl (λS _ hr hu=>ĕ S (Ŭ ó)<|Û (ϩ ĝ rfl (ŀ rfl gz<|Í (v_var 0) ó) (Ŷ S)<|ò<|PS.wk (ϝ<|fk aN xl BZ vt (pv 1)<|ϳ (fW (ŀ rfl gz<|Í (v_var 2) ó) aq Ĳ<|Ŋ<|Í (v_var 1)<|Í (v_var 0) ó) bZ) λ_ _ _ h=>CN h)<|ģ<|dM 1) λ_=>?_;refine Ϸ d70 rfl (λS _ hr hu=>ĕ S (Ŭ ó)<|Û (ϩ ĝ rfl (ŀ rfl gz<|Í (v_var 0) ó) (Ŷ S)<|ò<|PS.wk (ϝ<|fk aN xl BZ vt (pv 1)<|ϳ (fW (fu<|ñ<|ù hr<|Õ 2 Ô) aq Ĳ<|Ŋ<|Í (Ľ (Ä 1) Ë)<|Í (Ľ (Ä 1) Ë)<|Í (v_var 0) ó) bZ) λ_ _ _ h=>CN h)<|ģ<|dM 1) λ_=>?_;refine Ϸ d71 rfl (λS _ hr hu=>Û (Cy ĝ (ql hu (Ä 1) Ë)<|ĕ S (Ŕ<|v_mod (Ä 0)<|Ä 1)<|ĕ S (Ŕ<|v_var 1)<|ò<|qm S<|Ŕ<|v_var 2)<|ķ<|Ű xQ yk gz su<|á (Ä 0) ï) λ_=>?_;refine Ϸ d72 rfl (λS _ hr hu=>Û (ŋ (fc hu (Ä 1) Ë) (ò İ) Ą)<|ĕ S (ù hr<|Õ 0<|Õ 1 Ô)<|Û (ŋ (aR iU iQ (Ä 1) Ë<|ň _) (ò<|qm S<|Ŕ<|xX kM kE<|Ä 2) Ą)<|ķ<|Ŋ<|Í (uq (Ä 0)<|Ä 2)<|Í (uq (Ä 1)<|Ä 2) ó) λ_=>?_;refine Ϸ d73 rfl (λS _ hr hu=>ĕ S (Ŕ<|Ű (A5 rfl) A7 gz wX<|á (Ä 0) ï)<|Û (vd S (ŀ rfl gz<|Í (v_var 2) ó) aq Ĳ<|ñ<|ù hr<|Ü ğ<|Õ 0 Ô)<|Û (ϩ ĝ rfl (Po rfl gz (JG 0)<|JG 1) (mW rfl<|Ġ (Ŷ S)<|Ġ (Ŷ S) dS)<|ò<|Ia (i:=4) (ñ<|ù hr<|Õ 5<|Õ 3 Ô) (v_var 6)<|pv 4)<|ģ<|dM 4) λ_=>?_;refine Ϸ d74 rfl (λS _ hr hu=>ĕ S (Ŕ<|v_mul (pq (ć (Ä 1) Ë)<|ć (Ä 0) Ë)<|pq (ć (Ä 2) Ë)<|ć (Ä 0) Ë)<|ķ<|v_sub (Ä 3)<|Ϡ (pq (ć (Ä 1) Ë)<|ć (Ä 0) Ë)<|pq (ć (Ä 2) Ë)<|ć (Ä 0) Ë) λ_=>?_;refine Ϸ d75 rfl (λS _ hr hu=>ĕ S (Ŕ<|Ľ (Ä 0) Ë)<|ĕ S (Ŕ<|Ľ (Ä 0) Ë)<|ĕ S (Ŕ<|Ľ (Ä 0) Ë)<|ģ<|Ŭ<|Í (ñ<|ù hr<|Õ 1<|Õ 3<|Õ 4 Ô)<|Í (ñ<|ù hr<|Õ 2<|Õ 1<|Õ 4 Ô)<|Í (ñ<|ù hr<|Õ 2<|Õ 3<|Õ 1 Ô) ó) λ_=>?_;refine Ϸ d76 rfl (λS _ hr hu=>ĕ S (Ŕ<|Ű (A5 rfl) A7 gz wX<|á (Ä 0) ï)<|ķ<|v_and (kH FG (AS hu) (Ä 1) Ë<|ň _)<|iS<|Ű (nC rfl) nJ gz jB<|á (ë<|ñ<|fW (Ũ 0) aq Ĳ<|kH ON Ow (Ϡ (Ä 1)<|Ä 0) Ë<|ň _) ï) λ_=>?_;refine Ϸ d77 rfl (λS _ hr hu=>ĕ S (Ŕ<|v_sub (ć (ć (Ä 0) Ë) Ë)<|ć (ć (Ä 0) Ë) Ë)<|ĕ S (Ŕ<|v_sub (ć (ć (Ä 0) Ë) Ë)<|ć (ć (Ä 0) Ë) Ë)<|ĕ S (fv (Ϡ (Ä 2)<|pq (ć (Ä 1) Ë)<|ć (ć (Ä 0) Ë) Ë)<|Ϡ (Ä 3)<|pq (ć (Ä 1) Ë)<|ć (ć (Ä 0) Ë) Ë)<|ģ<|Ŭ<|Í (v_sub (ci (Ϡ (Ä 2)<|Ä 2)<|Ϡ (Ä 3)<|Ä 3)<|Ä 4)<|Í (v_var 4) ó) λ_=>?_;refine Ϸ d78 rfl (λS _ hr hu=>ĕ S (Ŕ<|Ű ŉ ŕ gz ĩ<|á (Ä 0) ï)<|Û (ϩ ĝ rfl (fu<|ñ<|ù hr<|Õ 2 Ô) (Ŷ S)<|ĕ S (ù hr<|Ü (ñ<|fW (Ũ 3) aq Ĳ<|Ľ (Ä 0)<|Ä 1)<|Õ 1 Ô)<|ò<|ŋ (ao<|ë<|ñ<|ù hr<|Õ 4 Ô) (ģ<|ù hr<|Õ 4<|Õ 3<|Õ 2 Ô) Ą)<|Û (ϩ ĝ rfl (fu<|ñ<|ù hr<|Õ 2 Ô) (Ŷ S)<|ĕ S (ù hr<|Ü (ñ<|fW (Ũ 3) aq Ĳ<|Ľ (Ä 0)<|Ä 1)<|Õ 1 Ô)<|ò<|ŋ (ao<|ë<|ñ<|ù hr<|Õ 4 Ô) (ģ<|ù hr<|Õ 4<|Õ 3<|Õ 2 Ô) Ą)<|ģ<|ù hr<|Ü (ñ<|Ŭ<|Í ğ ó)<|Ü (ñ<|Ŭ<|Í ğ ó)<|Õ 2 Ô) λ_=>?_;refine Ϸ d79 rfl (λS _ hr hu=>ĕ S (ù hr<|Õ 0<|Õ 1 Ô)<|Û (ŋ (aR uf nv (Ä 2) qM<|ň _) (ķ<|Ŋ<|Í ϐ<|Í (ñ<|ù hr<|Õ 0<|Õ 1 Ô) ó) Ą)<|ķ<|Ŋ<|Í ϐ<|Í (v_var 2) ó) λ_=>?_;refine Ϸ d80 rfl (λS _ hr hu=>ģ<|ù hr<|Ü (Ŋ<|Í (v_mul Ë<|ć (Ä 0) Ë)<|Í (v_mul Ë<|ć (Ä 0) Ë)<|Í ğ ó)<|Õ 1 Ô) λ_=>?_;refine Ϸ d81 rfl (λS _ hr hu=>ģ<|ù hr<|Ü (ñ<|ù hr<|Õ 0<|Õ 2 Ô)<|Ü (ñ<|ù hr<|Õ 1<|Õ 2 Ô) Ô) λ_=>?_;refine Ϸ d82 rfl (λS _ hr hu=>ķ<|v_eq hu (ć (ë<|ñ<|ù hr<|Õ 0<|Õ 1<|Õ 2 Ô) Ë) ϑ) λ_=>?_;refine Ϸ d83 rfl (λS _ hr hu=>Û (ŋ (aR uf nv (Ä 1) qM<|ň _) (ķ DU) Ą)<|Û (ϩ ĝ rfl (fu<|϶<|Ä 0) (Ŷ S)<|ò<|ŋ (ao<|ë<|ñ<|ù hr<|Õ 3<|Õ 2<|Õ 1 Ô) (ķ DU) Ą)<|ķ DU) λ_=>?_;refine Ϸ d84 rfl (λS _ hr hu=>Û (tZ<|ñ<|ù hr<|Õ 0<|Õ 2 Ô)<|Û (tZ<|ñ<|ù hr<|Õ 0<|Õ 1 Ô)<|ģ<|fW (A9 rfl gz<|LQ<|ñ<|ù hr<|Õ 0<|Õ 1 Ô) (mW rfl<|Ġ aq<|Ġ aq dS) (AY<|iR<|ao<|ë<|ñ<|ù hr<|Õ 0<|Õ 3<|Õ 1 Ô)<|v_var 2) λ_=>?_;refine Ϸ d85 rfl (λS _ hr hu=>ĕ S (ù hr<|Õ 0<|Ü (Ľ (Ä 1) Ë)<|Ü (Ŋ<|Í (Ľ (Ä 1) Ë)<|Í (Ľ (Ä 1) Ë) ó) Ô)<|ķ<|HX (ao<|Ä 2) (zH cH lW lX mE mz ϑ<|á (ë<|ñ<|fW (Ũ 2) aq Ĳ<|vb mG mH gz lF<|á (Ä 0) ï) ï) ϐ) λ_=>?_;refine Ϸ d86 rfl (λS _ hr hu=>ķ<|dN ye yg (ë<|ñ<|ù hr<|Õ 0<|Ü oW Ô)<|ë<|xX LS LR<|ë<|ñ<|ù hr<|Õ 0<|Õ 1 Ô) λ_=>?_;refine Ϸ d87 rfl (λS _ hr hu=>Û (vd S (ŀ rfl gz<|Í (v_mul (ë<|϶<|Ä 0)<|ë<|϶<|Ä 0) ó) aq Ĳ ğ)<|Û (ϩ ĝ rfl (fu<|϶<|Ä 0) (mW rfl<|Ġ (Ŷ S)<|Ġ (Ŷ S)<|Ġ (Ŷ S) dS)<|ò<|ϩ ĝ rfl (Ũ 4) (Ŷ S)<|ĕ S (ù hr<|Õ 0<|Õ 5 Ô)<|ò<|vd S (A9 rfl gz<|Pj 1) (mW rfl<|Ġ aq<|Ġ aq dS) Ĳ<|v_add (Ä 3)<|Ϡ (Ä 0)<|ë<|dN ye yg (ë<|dN FA FD (Ä 1)<|Ä 2) Ë)<|ģ<|dM 1) λ_=>?_;refine Ϸ d88 rfl (λS _ hr hu=>ģ<|fv (Ϡ (ć (Ä 0) Ë)<|Ä 1)<|ć (Ä 0) Ë) λ_=>?_;refine Ϸ d89 rfl (λS _ hr hu=>ĕ S (Ŕ<|Ŋ<|Í (Ľ (Ä 1) Ë)<|Í (Ľ (Ä 1) Ë) ó)<|Û (tZ<|ñ<|ù hr<|Õ 0<|Õ 2 Ô)<|ķ<|vb mG mH gz lF<|á (ć (ë<|ñ<|ù hr<|Õ 0 Ô)<|ë<|ñ<|ù hr<|Õ 2<|Ü (϶<|Ä 0) Ô) ï) λ_=>?_;refine Ϸ d90 rfl (λS _ hr hu=>Û (tZ<|ñ<|ù hr<|Õ 0<|Õ 1 Ô)<|Û (ϩ ĝ rfl (ŀ rfl gz<|Í (Ű ŉ ŕ gz ĩ<|á (ë<|϶<|Ä 0) ï) ó) (Ŷ S)<|ò<|ϩ ĝ rfl (A9 rfl gz<|LQ<|ñ<|ù hr<|Õ 0<|Õ 2 Ô) (mW rfl<|Ġ (Ŷ S)<|Ġ (Ŷ S) dS)<|ò<|ŋ (iR<|ao<|ë<|ñ<|ù hr<|Õ 0<|Õ 4<|Õ 1 Ô) (ķ<|Ŋ<|Í (v_var 2)<|Í (v_var 3) ó) Ą)<|ķ oW) λ_=>?_;refine Ϸ d91 rfl (λS _ hr hu=>ķ<|Ľ (ć (ë<|϶<|Ä 0)<|Ä 1) Ë) λ_=>?_;refine Ϸ d92 rfl (λS _ hr hu=>ĕ S (ù hr<|Õ 0<|Õ 1 Ô)<|ķ<|Vo<|yE (JO<|v_var 3)<|yE ϐ<|yE (JO<|v_var 2) Mm) λ_=>?_;refine Ϸ d93 rfl (λS _ hr hu=>ĕ S (ù hr<|Õ 0<|Ü (Ŋ<|Í (Ľ (Ä 1) Ë)<|Í (Ľ (Ä 1) Ë) ó) Ô)<|ģ<|HX (aR uf nv (Ä 2) qM<|ň _) (Ŕ ϐ)<|ù hr<|Õ 0<|Ü (Ľ (Ä 2) Ë)<|Ü (Ľ (Ä 2) Ë) Ô) λ_=>?_;refine Ϸ d94 rfl (λS _ hr hu=>Û (ϩ ĝ rfl (ŀ rfl gz<|Í (Ű ŉ ŕ gz ĩ<|á (ë<|϶<|Ä 0) ï) ó) (Ŷ S)<|ò<|ŋ (fc hu (ë<|ñ<|ù hr<|Õ 0<|Õ 2 Ô)<|Ä 1) (ģ<|dM 2) Ą)<|ò İ) λ_=>?_;refine Ϸ d95 rfl (λS _ hr hu=>Û (ŋ (aR (IU (nm:="ROWS") rfl) (IT<|by assumption) (ć (Ä 1) Ë) (ë Qo)<|by with_unfolding_all rfl) (ò İ) Ą)<|ĕ S (Ŕ<|OF (IV (nm:="ROWS") rfl) (Mp<|by assumption) (ë Qo) (ć (Ä 1) Ë)<|λ_ _=>rfl)<|ĕ S (ϟ (Ä 1) (Ÿ ğ)<|Ÿ<|v_add Ë<|ć (Ä 2) Ë)<|Û (ŋ (ql hu (ë<|Ű ŉ ŕ gz ĩ<|á (Ä 1) ï)<|ci (ci Ë<|ć (Ä 2) Ë)<|ć (Ä 2) Ë) (ò İ) Ą)<|ĕ S (ù hr<|Õ 1<|Ü (v_add Ë<|ć (Ä 2) Ë) Ô)<|ģ<|Vt hr (Ľ (Ä 2) Ë)<|Õ 0<|Ü (v_add (ë<|ñ<|fW (Ũ 3) aq Ĳ<|ñ<|ù hr<|Õ 0<|Õ 1 Ô)<|Ä 4) Ô) λ_=>?_;refine Ϸ d96 rfl (λS _ hr hu=>Û (ŋ (aR iU iQ (ë<|Ű ŉ ŕ gz ĩ<|á (Ä 1) ï) Ë<|ň _) (ò İ) Ą)<|ĕ S (ù hr<|Õ 1<|Ü ğ Ô)<|Û (ŋ (fc hu (ë<|Ű ŉ ŕ gz ĩ<|á (ë<|϶<|Ä 0) ï)<|ë nP) (ò İ) Ą)<|ķ<|yJ hr<|Ü (϶<|Ä 0)<|Ü (϶<|Ä 0)<|Ü (v_add (ë<|϶<|Ä 0)<|ë<|ñ<|Ŭ<|Í (ñ<|ù hr<|Ü (Ľ (Ä 1) Ë)<|Õ 2 Ô) ó)<|Ü (϶<|Ä 0) Ô) λ_=>?_;refine Ϸ d97 rfl (λS _ hr hu=>Û (ŋ (ql hu (ë<|Ű ŉ ŕ gz ĩ<|á (Ä 1) ï) Ë) (ò İ) Ą)<|ĕ S (Ŕ<|Ľ (ë<|ñ<|ù hr<|Õ 1<|Ü ğ Ô) Ë)<|Û (ŋ (iR<|Fp bV iU bT iQ Ë (Ä 2)<|ë<|Ű ŉ ŕ gz ĩ<|á (ë<|϶<|Ä 0) ï) (ò İ) Ą)<|ķ<|yJ hr<|Ü (϶<|Ä 0)<|Ü (϶<|Ä 0)<|Ü (v_add (ë<|ñ<|ϟ (ë<|϶<|Ä 0) gp<|Ÿ<|v_var 2)<|ë<|ñ<|ϟ (ë<|϶<|Ä 0) (Ÿ<|v_add (Ä 2) Ë) gp)<|Ü (϶<|Ä 0) Ô) λ_=>?_;refine stH d98 rfl (λS _ hr hu=>ĕ S (IQ cH jH sN pC pB (Ä 1)<|á ϑ ï)<|Û (ŋ (fc hu (ć (Ä 2) Ë) ϑ) (Û İ<|ķ ϐ) Ą)<|Û (ŋ (fc hu (ć (Ä 2) Ë) ϑ) (Û İ<|ķ ϐ) Ą)<|ģ<|ù hr<|Ü (϶<|Ä 0)<|Õ 2 Ô) λ_=>?_;refine Ϸ d99 rfl (λS _ hr hu=>Û (Ft (v_var 3)<|F9 rfl<|Ġ (Ŷ S)<|Ġ (Ŷ S) dS)<|ĕ S (Ŕ ğ)<|ĕ S (Ŕ ϐ)<|Û (ϩ ĝ rfl (Ũ 1) (mW rfl<|Ġ (Ŷ S)<|Ġ (Ŷ S)<|Ġ (Ŷ S) dS)<|ĕ S (I0 hr (v_var 0)<|Ü (ñ<|ù hr<|Ü (ñ<|Ŭ<|Í ϐ<|Í (v_var 8)<|Í (v_var 6)<|Í (v_var 7) ó) Ô) Ô)<|Û (vd S (ŀ rfl gz<|Í (Ű ŉ ŕ gz ĩ<|á (Ä 10) ï) ó) aq (AY<|fc hu (ć (ć (ć (ë<|Mx hu (v_var 2)<|v_var 3)<|Ä 4)<|Ä 1)<|Ä 0) ϑ)<|vb mG mH gz lF<|á (Ä 4) ï)<|Û (ŋ (ql hu (Ä 11)<|ë<|zH cH lW lX mE mz ϑ<|á (ci (Ä 12)<|ë<|ñ<|OP (Í ϐ ó)<|ë<|vb CW CY gz BP<|á (ë<|v_eq hu (Ä 12)<|ë<|ñ<|Ŭ ó) ï) ï) (ķ oW) Ą)<|Û (ŋ (PW.pt<|w_and (aR L6 (L5 hu) (Ä 12) (ë<|ñ<|Ŭ ó)<|ň _)<|nG<|fc hu (Ä 5) ϑ) (ò<|qm S<|fv (ci (Ä 8) ϑ)<|ć (Ä 12) Ë) Ą)<|ò<|qm S<|fv (Ä 4)<|Ϡ (Ä 9)<|ë<|Ű ŉ ŕ gz ĩ<|á (Ä 12) ï)<|Û (ŋ (ql hu (ë<|ñ<|I0 hr (v_var 0)<|Ü (ñ<|ù hr<|Ü (ñ<|Ŭ<|Í ϐ<|Í (v_var 6)<|Í (v_var 7) ó) Ô) Ô)<|Ä 5) (ķ oW) Ą)<|ģ<|dM 4) λ_=>?_;refine Ϸ VP rfl (λS _ hr hu=>ĕ S (Ŕ ğ)<|Û (ϩ ĝ rfl (ŀ rfl gz<|Í (Ű ŉ ŕ gz ĩ<|á (ë<|϶<|Ä 0) ï) ó) (Ŷ S)<|ò<|ϩ ĝ rfl (fu<|ñ<|ù hr<|Õ 0<|Õ 2 Ô) (Ŷ S)<|ò<|Ba (i:=1) S.nd rfl (ϭ rfl)<|ñ<|ù hr<|Õ 0<|Õ 3 Ô)<|ģ<|dM 1) λ_=>?_;refine stL VQ rfl (λS _ hr hu=>ĕ S (fv Ë<|Ŧ (ë<|ñ<|ù hr<|Õ 0<|Ü ğ Ô) Ë)<|ĕ S (fv Ë<|Ŧ (qN (ë<|ñ<|ù hr<|Õ 0<|Ü ğ Ô) Ë) Ë)<|ĕ S (ù hr<|Õ 0<|Ü ğ Ô)<|Û (vd S (ŀ rfl gz<|Í (v_mod (Ä 3) Ë) ó) aq Ĳ<|ñ<|ù hr<|Ü (v_add (ë<|ñ<|ù hr<|Õ 3<|Ü (v_add Ë<|Ä 4) Ô)<|Ä 2)<|Õ 0<|Õ 1 Ô)<|ĕ S (ù hr<|Õ 0 Ô)<|ĕ S (ù hr<|Õ 1<|Õ 2<|Õ 4<|Õ 5 Ô)<|ĕ S (Ŕ<|yJ hr<|Õ 6 Ô)<|Mw (i:=8) (qm S<|Ŕ ğ) (JX ĝ rfl (Ũ 5) (mW rfl<|Ġ (Ŷ S)<|Ġ (Ŷ S)<|Ġ (Ŷ S) dS)<|GC (Qh hu (pv 8)<|pv 15)<|fT<|JX ĝ rfl (ŀ rfl gz<|Í (Ű ŉ ŕ gz ĩ<|á (Ä 17) ï) ó) (Ŷ S)<|GC (Bl<|qm S<|I0 hr (v_var 7)<|Ü (v_add (ci (ci ϑ<|Ä 15) ϑ)<|ë<|vb mG mH gz lF<|á (Ä 12) ï) Ô)<|GC (Qi hu (pv 8) (pv 15)<|ñ<|IQ cH jH sN pC pB (Ä 18)<|á ϑ ï)<|fT<|Bl<|qm S<|fv (Ä 9)<|Ϡ (Ä 16)<|ë<|Ű ŉ ŕ gz ĩ<|á (ë<|ñ<|fW (Ũ 18) aq (AY<|fc hu (Ä 0) ϑ)<|v_var 0) ï) (Û (vd S (ŀ rfl gz<|Í (v_mul (Ä 1)<|Ä 2) ó) aq Ĳ<|ñ<|ù hr<|Õ 0<|Õ 1<|Õ 2<|Ü (Ŋ<|Í (v_mod (Ä 4)<|Ä 3)<|Í (uq (Ä 4)<|Ä 3) ó) Ô)<|Û (ŋ (PW.pt<|w_or (aR yG (yF hu) qM (Ä 10)<|by with_unfolding_all rfl)<|qH<|ql hu (ë<|Ű (A5 rfl) A7 gz wX<|á (Ä 10) ï)<|Ä 9) (ķ DU) Ą)<|ĕ S (Ŕ ğ)<|Û (ϩ ĝ rfl (ŀ rfl gz<|Í (Ű ŉ ŕ gz ĩ<|á (Ä 10) ï) ó) (Ŷ S)<|ò<|ŋ (aR Cz Cj (ć (Ä 10)<|Ä 12) Ë<|ň _) (ò<|qm S<|Ŕ<|dN Lw Lx (Ä 11)<|ë<|dN yc yf Ë<|Ä 12) Ą)<|ĕ S (ù hr<|Õ 6 Ô)<|ĕ S (Ŕ<|v_mod (Ä 3)<|ë<|Ű ŉ ŕ gz ĩ<|á (Ä 10) ï)<|Û (ŋ (ql hu (ë<|ñ<|I0 hr (v_var 7)<|Ü (ñ<|ù hr<|Ü (ñ<|Ŭ<|Í ϐ<|Í (v_mod (Ä 14)<|Ä 1)<|Í (uq (Ä 14)<|Ä 1) ó) Ô) Ô)<|ë<|vb mG mH gz lF<|á (ć (Ä 10)<|Ä 14) ï) (ķ DU) Ą)<|ķ<|v_and (v_eq hu (ë<|ñ<|ù hr<|Õ 13 Ô)<|Ä 11)<|iS<|v_eq hu (ë<|ñ<|ù hr<|Õ 13 Ô)<|Ä 10) S.nd rfl<|by first|exact ϭ rfl|exact gP rfl)
end
@[simp high]theorem Z6a{a b:PV}:nY [a,b] 0=some a:=rfl
@[simp high]theorem Z6b{a b:PV}:nY [a,b] 1=some b:=rfl
@[simp high]theorem Z6c{a b c:PV}:nY [a,b,c] 0=some a:=rfl
@[simp high]theorem Z6d{a b c:PV}:nY [a,b,c] 1=some b:=rfl
@[simp high]theorem Z6e{a b c:PV}:nY [a,b,c] 2=some c:=rfl
def pt(p:Hu.Pt):PV:=.tup [.int p.1,.int p.2]
def iE(l:Hu.Ln):PV:=.tup [.int l.1,.int l.2.1,.int l.2.2]
def Sm(p:Hu.Pt):Prop:=-100000000000000000<=p.1/\p.1<=100000000000000000/\ -100000000000000000<=p.2/\p.2<=100000000000000000
def Ja(l:Hu.Ln):Prop:=-1000000000000000000<=l.1/\l.1<=1000000000000000000/\ -1000000000000000000<=l.2.1/\l.2.1<=1000000000000000000
def Yg{x y:Hu.Pt}:cx (pt y) (pt x)=decide (y=x):=by obtain⟨a,b⟩:=x;obtain⟨c,d⟩:=y;unfold pt;rw[LX,dZ];simp
def Sk(x:Hu.Pt):Ϗ (pt x)=true:=by simp[pt,Ϗ,aF]
def VR(x:Hu.Pt):rn (pt x)=1:=by simp[pt,rn,jR]
def Z4T(S:List Hu.Pt):aF (S.map pt)=true:=by
 induction S with
 |nil=>simp[aF]|cons p S ih=>simp[aF,Sk,ih]
theorem Yh(x:Hu.Pt):∀k:List Hu.Pt,(k.map pt).any (λy=>cx y<|pt x)=decide (x∈k)
 |[]=>by simp|y::k=>by
  rw[Ó,bt,Yh x k,Yg,dZ];simp;constructor
  ·rintro (e|e)
   ·exact .inl e.symm
   ·exact .inr e
  ·rintro (e|e)
   ·exact .inl e.symm
   ·exact .inr e
def Yi(x:Hu.Pt)(k:List Hu.Pt):Dg true (pt x) (.lst<|k.map pt)=some (.bl<|!decide (x∈k)):=by unfold Dg;simp only[Sk,Z4T,VR,Yh];rfl
def VS(x y:Hu.Pt):cO (pt x) (pt y)=some (.bl<|!decide (x=y)):=by unfold cO o_;rw[Sk,Sk,VR,VR,Yg];rfl
def Z4b{a b:Hu.Pt}(ha:Sm a)(hb:Sm b):dG [.sh<|pt a,.sh<|pt b]=.ret (.sh<|iE<|Hu.Z8 a b):=by obtain⟨a1,a2,a3,a4⟩:=ha;obtain⟨b1,b2,b3,b4⟩:=hb;have m1:Ĭ (b.2-a.2) a.1=true:=ş (by lia) (by lia);have m2:Ĭ (a.1-b.1) a.2=true:=ş (by lia) (by lia);simp[dG,kr,ç,pt,iE,Hu.Z8,m1,m2]
def Yj{l:Hu.Ln}(hl:Ja l)(p:Hu.Pt):kb [.sh<|iE l,.sh<|pt p]=.ret (.sh<|.bl<|Hu.hd l p):=by obtain⟨a1,a2,a3,a4⟩:=hl;have m1:Ĭ l.1 p.1=true:=ş (by lia) (by lia);have m2:Ĭ l.2.1 p.2=true:=ş (by lia) (by lia);simp[kb,Aj,pt,iE,Hu.hd,m1,m2]
def Yk{a b:Hu.Pt}(ha:Sm a)(hb:Sm b):Ja (Hu.Z8 a b):=by obtain⟨a1,a2,a3,a4⟩:=ha;obtain⟨b1,b2,b3,b4⟩:=hb;simp only[Ja,Hu.Z8];lia
def Sl(s:ŗ)(ps:List PV):Prop:=s=.sh (.lst ps)\/s=.bw ps
def Sl.lend{s:ŗ}{ps:List PV}(h:Sl s ps):eS s=some s:=by rcases h with rfl|rfl<;>rfl
def Sl.it{s:ŗ}{ps:List PV}(h:Sl s ps){i:Nat}{ρ:Ć}(e:ρ[i]?=some s):ī i ρ=.ok ps ρ:=by
 rcases h with rfl|rfl<;>simp[e]
def Z4c{S:List Hu.Pt}{sl:ŗ}(hs:Sl sl (S.map pt))(hl:S.length<=1000):iw [sl]=.ret (.ow<|(Hu.Z6 S).map pt):=by
 have hlen:∀(xs k:List Hu.Pt),(xs.foldl (λk x=>if x∈k then k else k++[x]) k).length<=k.length+xs.length:=by
  intro xs
  induction xs with
  |nil=>intro k;simp|cons x xs ih=>
   intro k;rw[br];refine ř (ih _) ?_;split
   ·simp
   ·simp;lia
 have key:∀(xs:List Hu.Pt) (k:List Hu.Pt) (s2:ŗ),k.length+xs.length<=1000->∃Q4,ĺ (gN 2) bL (xs.map pt) [sl,.ow<|k.map pt,s2]=.ok .nx [sl,.ow<|(xs.foldl (λk x=>if x∈k then k else k++[x]) k).map pt,Q4]:=by
  intro xs
  induction xs with
  |nil=>intro k s2 _;exact⟨s2,rfl⟩|cons x xs ih=>
   intro k s2 hk;rw[Ĕ]at hk;by_cases hx:x∈k
   ·obtain⟨Q4,e⟩:=ih k (.sh<|pt x) (by lia);refine⟨Q4,?_⟩;have hb:bL [sl,.ow<|k.map pt,.sh<|pt x]=.ok .nx [sl,.ow<|k.map pt,.sh<|pt x]:=by simp[bL,Yi,hx]
    rw[Ó,br,if_pos hx,ĺ];simp[hb,e]
   ·obtain⟨Q4,e⟩:=ih (k++[x]) (.sh<|pt x) (by simp;lia);refine⟨Q4,?_⟩;have h3:k.length<16777216:=by lia
    have hb:bL [sl,.ow<|k.map pt,.sh<|pt x]=.ok .nx [sl,.ow<|(k++[x]).map pt,.sh<|pt x]:=by simp[bL,Yi,hx,h3]
    rw[Ó,br,if_neg hx,ĺ];simp only[FJ,eh,en,hb,ĵ.aQ];exact e
 obtain⟨s2,e⟩:=key S [] .no (by simpa using hl);have pY:=hs.it (i:=0) (ρ:=[sl,.ow [],.no]) rfl;simp only[ž]at e;simp[iw,pM,ç,-yl,pY,e];rfl
def Yl(x:Int)(l:List Int):vN [.lst<|(x::l).map .int]=some (.int<|Hu.mx (x::l)):=by show((bp<|(x::l).map .int).bind (yS max)).map PV.int=_;rw[nL];rfl
def Ym(x:Int)(l:List Int):vO [.lst<|(x::l).map .int]=some (.int<|Hu.mn (x::l)):=by show((bp<|(x::l).map .int).bind (yS min)).map PV.int=_;rw[nL];rfl
def Z4U{S:List Hu.Pt}{sl:ŗ}(hs:Sl sl (S.map pt))(h0:S≠[])(hl:S.length<=1000):iu [sl]=.ret (.ow<|(Hu.box S).map iE):=by
 have c1:ġ (gN 0) Ģ (Ê æ (Â 0)<|Ç 0) (S.map pt) [.no] []=some ((S.map (·.1)).map .int):=by
  have:=Ğ (g:=gN 0) (mt:=Ģ) (me:=Ê æ (Â 0)<|Ç 0) pt (λp=>.int p.1) (λa=>∃s,a=[s]) S [.no] [] ⟨_,rfl⟩ (by simp;lia) (by
   rintro x hx a ⟨s,rfl⟩;exact⟨[.sh<|pt x],[.sh<|pt x],[.sh<|pt x],by simp,by simp,by simp[pt],_,rfl⟩)
  rw[this];simp
 have c2:ġ (gN 0) Ģ (Ê æ (Â 0)<|Ç 1) (S.map pt) [.no] []=some ((S.map (·.2)).map .int):=by
  have:=Ğ (g:=gN 0) (mt:=Ģ) (me:=Ê æ (Â 0)<|Ç 1) pt (λp=>.int p.2) (λa=>∃s,a=[s]) S [.no] [] ⟨_,rfl⟩ (by simp;lia) (by
   rintro x hx a ⟨s,rfl⟩;exact⟨[.sh<|pt x],[.sh<|pt x],[.sh<|pt x],by simp,by simp,by simp[pt],_,rfl⟩)
  rw[this];simp
 obtain⟨p,R,rfl⟩:=List.exists_cons_of_ne_nil h0;have x1:=Yl p.1<|R.map (·.1);have x2:=Ym p.1<|R.map (·.1);have x3:=Yl p.2<|R.map (·.2);have x4:=Ym p.2<|R.map (·.2);have pY:∀s1 s2,ī 0 [sl,s1,s2]=.ok ((p::R).map pt) [sl,s1,s2]:=λs1 s2=>hs.it rfl;have b:(Hu.box (p::R)).map iE=[.tup [.int 1,.int 0,.int<|Hu.mx (p.1::R.map (·.1))],.tup [.int<|-1,.int 0,.int<|-Hu.mn (p.1::R.map (·.1))],.tup [.int 0,.int 1,.int<|Hu.mx (p.2::R.map (·.2))],.tup [.int 0,.int<|-1,.int<|-Hu.mn (p.2::R.map (·.2))]]:=rfl;rw[b];generalize (p::R).map pt=ps at pY c1 c2;rw[Ó]at c1 c2;generalize (p.1::R.map (·.1)).map PV.int=us at c1 x1 x2;generalize (p.2::R.map (·.2)).map PV.int=vs at c2 x3 x4;simp[iu,pL,ç,-yl,-Iw,-Ix,pY,c1,c2,x1,x2,x3,x4]
theorem Yn:∀l:List Bool,dJ (l.map .bl)=some l
 |[]=>rfl|x::l=>by rw[Ó,dJ,Yn l];rfl
def Sn(l:List Bool):pb [.lst<|l.map .bl]=some (.bl<|l.all id):=by show(dJ<|l.map .bl).map (λbs=>PV.bl<|bs.all id)=_;rw[Yn];rfl
def So(S:List Hu.Pt):(Hu.Z6 S).length<=S.length:=by
 have:∀(xs k:List Hu.Pt),(xs.foldl (λk x=>if x∈k then k else k++[x]) k).length<=k.length+xs.length:=by
  intro xs
  induction xs with
  |nil=>intro k;simp|cons x xs ih=>
   intro k;rw[br];refine ř (ih _) ?_;split
   ·simp
   ·simp;lia
 have h:=this S [];rw[fE,Nat.zero_add]at h;exact h
def Z2C{S:List Hu.Pt}(hS:∀p∈S,Sm p)(hl:S.length<=1000){a b:Hu.Pt}(ha:a∈S)(hb:b∈S)(s0 s5:ŗ)(L:List Hu.Ln)(hL:L.length<16777216):
 az [s0,.ow<|L.map iE,.sh<|.lst<|(Hu.Z6 S).map pt,.sh<|pt a,.sh<|pt b,s5]=.ok .nx [s0,.ow<|(L++(if a≠b/\(Hu.Z6 S).all (Hu.hd<|Hu.Z8 a b)then[Hu.Z8 a b]else[])).map iE,.sh<|.lst<|(Hu.Z6 S).map pt,.sh<|pt a,.sh<|pt b,.sh<|iE<|Hu.Z8 a b]:=by
 have hsm:=Yk (hS a ha)<|hS b hb;have c1:ġ (gN 1) Ģ (Ú<|Ý kb<|Ì 0<|Ì 1 Ø) ((Hu.Z6 S).map pt) [.sh<|iE<|Hu.Z8 a b,.no] []=some (((Hu.Z6 S).map (Hu.hd<|Hu.Z8 a b)).map .bl):=by
  have hlen:(Hu.Z6 S).length<=16777216:=by have:=So S;lia
  have:=Ğ (g:=gN 1) (mt:=Ģ) (me:=Ú<|Ý kb<|Ì 0<|Ì 1 Ø) pt (λp=>.bl<|Hu.hd (Hu.Z8 a b) p) (λc=>∃s,c=[.sh<|iE<|Hu.Z8 a b,s]) (Hu.Z6 S) [.sh<|iE<|Hu.Z8 a b,.no] [] ⟨_,rfl⟩ (by simpa using hlen) (by
   rintro x hx c ⟨s,rfl⟩;exact⟨[.sh<|iE<|Hu.Z8 a b,.sh<|pt x],[.sh<|iE<|Hu.Z8 a b,.sh<|pt x],[.sh<|iE<|Hu.Z8 a b,.sh<|pt x],by simp,by simp,by simp[Yj hsm],_,rfl⟩)
  rw[this];simp
 have c2:=Sn<|(Hu.Z6 S).map (Hu.hd<|Hu.Z8 a b);have e1:=Z4b (hS a ha)<|hS b hb;have e3:((Hu.Z6 S).map (Hu.hd<|Hu.Z8 a b)).all id=(Hu.Z6 S).all (Hu.hd<|Hu.Z8 a b):=by simp
 rw[e3]at c2;generalize ((Hu.Z6 S).map (Hu.hd<|Hu.Z8 a b)).map PV.bl=bs at c1 c2;by_cases h1:a=b
 ·subst h1;simp[az,e1,VS]
 ·by_cases h2:(Hu.Z6 S).all (Hu.hd<|Hu.Z8 a b)=true
  ·rw[h2]at c2;simp[az,e1,VS,h1,c1,c2,h2,hL,-cy]
  ·rw[Bool.not_eq_true]at h2;rw[h2]at c2;simp[az,e1,VS,h1,c1,c2,h2,-cy,-List.all_eq_false]
def Z3f{S:List Hu.Pt}(hS:∀p∈S,Sm p)(hl:S.length<=1000){a:Hu.Pt}(ha:a∈S)(s0:ŗ):∀(xs:List Hu.Pt) (L:List Hu.Ln) (s4 s5:ŗ),(∀x∈xs,x∈S)->L.length+xs.length<16777216->
 ∃C5 Ie,ĺ (gN 4) az (xs.map pt) [s0,.ow<|L.map iE,.sh<|.lst<|(Hu.Z6 S).map pt,.sh<|pt a,s4,s5]=.ok .nx [s0,.ow<|(L++xs.filterMap λb=>if a≠b/\(Hu.Z6 S).all (Hu.hd<|Hu.Z8 a b)then some (Hu.Z8 a b)else none).map iE,.sh<|.lst<|(Hu.Z6 S).map pt,.sh<|pt a,C5,Ie]:=by
 intro xs
 induction xs with
 |nil=>intro L s4 s5 _ _;exact⟨s4,s5,by simp[ĺ]⟩|cons b xs ih=>
  intro L s4 s5 hx hL;rw[Ĕ]at hL;have hb:=Z2C hS hl ha (hx b<|by simp) s0 s5 L (by lia);obtain⟨C5,Ie,e⟩:=ih (L++(if a≠b/\(Hu.Z6 S).all (Hu.hd<|Hu.Z8 a b)then[Hu.Z8 a b]else[])) (.sh<|pt b) (.sh<|iE<|Hu.Z8 a b) (λx h=>hx x<|õ _ h) (by
   rw[ő];split
   ·simp;lia
   ·simp;lia)
  refine⟨C5,Ie,?_⟩;rw[Ó,ĺ];simp only[FJ,eh,en,hb,ĵ.aQ];rw[e,rK];by_cases hc:a≠b/\(Hu.Z6 S).all (Hu.hd<|Hu.Z8 a b)=true
  ·rw[if_pos hc,if_pos hc];simp only[ly,c_,ϕ]
  ·rw[if_neg hc,if_neg hc];simp only[jw]
def Yo{α β:Type}(f:α->Option β)(l:List α):(l.filterMap f).length<=l.length:=List.length_filterMap_le ..
def Z3g{S:List Hu.Pt}(hS:∀p∈S,Sm p)(hl:S.length<=1000)(s0:ŗ):∀(xs:List Hu.Pt) (L:List Hu.Ln) (s3 s4 s5:ŗ),(∀x∈xs,x∈S)->L.length+xs.length*1000<10000000->
 ∃EC C5 Ie,ĺ (gN 3) eP (xs.map pt) [s0,.ow<|L.map iE,.sh<|.lst<|(Hu.Z6 S).map pt,s3,s4,s5]=.ok .nx [s0,.ow<|(L++xs.flatMap λa=>(Hu.Z6 S).filterMap λb=>if a≠b/\(Hu.Z6 S).all (Hu.hd<|Hu.Z8 a b)then some (Hu.Z8 a b)else none).map iE,.sh<|.lst<|(Hu.Z6 S).map pt,EC,C5,Ie]:=by
 intro xs
 induction xs with
 |nil=>intro L s3 s4 s5 _ _;exact⟨s3,s4,s5,by simp[ĺ]⟩|cons a xs ih=>
  intro L s3 s4 s5 hx hL;rw[Ĕ]at hL;have ho:=So S;obtain⟨a4,a5,e1⟩:=Z3f hS hl (hx a<|by simp) s0 (Hu.Z6 S) L s4 s5 (λx h=>Hu.Zu.mp h) (by lia);have hf:=Yo (λb=>if a≠b/\(Hu.Z6 S).all (Hu.hd<|Hu.Z8 a b)=true then some (Hu.Z8 a b)else none)<|Hu.Z6 S;obtain⟨EC,C5,Ie,e2⟩:=ih (L++(Hu.Z6 S).filterMap λb=>if a≠b/\(Hu.Z6 S).all (Hu.hd<|Hu.Z8 a b)=true then some (Hu.Z8 a b)else none) (.sh<|pt a) a4 a5 (λx h=>hx x<|õ _ h) (by rw[ő];lia);refine⟨EC,C5,Ie,?_⟩;have hb:eP [s0,.ow<|L.map iE,.sh<|.lst<|(Hu.Z6 S).map pt,.sh<|pt a,s4,s5]=.ok .nx [s0,.ow<|(L++(Hu.Z6 S).filterMap λb=>if a≠b/\(Hu.Z6 S).all (Hu.hd<|Hu.Z8 a b)=true then some (Hu.Z8 a b)else none).map iE,.sh<|.lst<|(Hu.Z6 S).map pt,.sh<|pt a,a4,a5]:=by unfold eP;simp only[LA,yl,oh,BD,ĵ.aQ];exact e1
  rw[Ó,ĺ];simp only[FJ,eh,en,hb,ĵ.aQ];rw[e2,oj,ly]
def Z3h{S:List Hu.Pt}{sl:ŗ}(hs:Sl sl (S.map pt))(hS:∀p∈S,Sm p)(hl:S.length<=1000):ga [sl]=.ret (.ow<|(Hu.ZO S).map iE):=by have h1:=Z4c hs hl;have ho:=So S;obtain⟨s3,s4,s5,e⟩:=Z3g hS hl sl (Hu.Z6 S) [] .no .no .no (λx h=>Hu.Zu.mp h) (by simp;lia);have he:[]++((Hu.Z6 S).flatMap λa=>(Hu.Z6 S).filterMap λb=>if a≠b/\(Hu.Z6 S).all (Hu.hd<|Hu.Z8 a b)=true then some (Hu.Z8 a b)else none)=Hu.ZO S:=rfl;rw[he]at e;generalize Hu.ZO S=ed at e;generalize (Hu.Z6 S).map pt=os at e h1;simp only[ž]at e;simp[ga,nh,ç,hs.lend,h1,e]
def Z2D(S:List Hu.Pt)(hl:S.length<=1000):(Hu.ZO S).length<=1000000:=by
 have ho:=So S;have:∀(xs:List Hu.Pt) (f:Hu.Pt->List Hu.Ln),(∀x,(f x).length<=1000)->(xs.flatMap f).length<=xs.length*1000:=by
  intro xs f hf
  induction xs with
  |nil=>simp|cons x xs ih=>rw[oj,ő,Ĕ];have:=hf x;lia
 refine ř (this (Hu.Z6 S) _ λx=>ř (Yo _ _)<|by lia) (by lia)
def Yp{S:List Hu.Pt}{sl:ŗ}(hs:Sl sl (S.map pt))(hS:∀p∈S,Sm p)(h0:S≠[])(hl:S.length<=1000):cn [sl]=.ret (.ow<|(Hu.ZF S).map iE):=by
 have h1:=Z4U hs h0 hl;have h2:=Z3h hs hS hl;have h3:ô (.lst<|(Hu.box S).map iE) (.lst<|(Hu.ZO S).map iE)=some (.ow<|(Hu.ZF S).map iE):=by rw[qY (by have:=Z2D S hl;simp[Hu.box];lia),<-Ĝ];rfl
 simp[cn,kW,hs.lend,h1,h2,h3]
def Yq{S:List Hu.Pt}{l:Hu.Ln}(h:l∈Hu.ZF S)(hS:∀p∈S,Sm p):Ja l:=by
 rcases Ů.mp h with h|h
 ·unfold Hu.box at h;simp only[þ,aK,or_false]at h;rcases h with e|e|e|e<;>subst e<;>simp only[Ja]<;>lia
 ·obtain⟨a,ha,b,hb,_,_,rfl⟩:=Hu.Z2x.mp h;exact Yk (hS a ha)<|hS b hb
def Z2c(n:Nat):kJ 0 n 1=(ß n).map λ(i:Nat)=>PV.int (i:Int):=by unfold kJ;refine lA λi _=>?_;simp
def Zr{n:Nat}(h:n<=1000):Ϟ [.int (n:Int)]=some ((ß n).map λ(i:Nat)=>PV.int (i:Int)):=by
 have hs:ua (n:Int)=true:=by unfold ua;simp;lia
 unfold Ϟ;simp[hs,Z2c]
def JZ(s:ŗ)(ps:List PV):Prop:=s=.sh (.lst ps)\/s=.bw ps
def dP(x:Int):Bool:=decide<|-1000000000<=x/\x<=1000000000
def As(x:Int):Bool:=decide<|1<=x/\x<=1000000000
def Au(x:Int):Bool:=decide<|0<=x/\x<=1000000000
def VT(x:Int):bg [.sh<|.int x]=.ret (.sh<|.bl<|dP x):=by unfold dP;by_cases h1: -1000000000<=x<;>by_cases h2:x<=1000000000<;>simp[bg,qU,h1,h2]
def Yr(x:Int):eZ [.sh<|.int x]=.ret (.sh<|.bl<|As x):=by unfold As;by_cases h1:1<=x<;>by_cases h2:x<=1000000000<;>simp[eZ,pJ,h1,h2]
def Zk:List Int->Bool
 |[p,q,h]=>dP p&&dP q&&As h|_=>false
def Zi:List Int->Bool
 |[x,y,u,v,h]=>dP x&&dP y&&dP u&&dP v&&As h|_=>false
def Zc:List Int->Bool
 |[x,y,u,v,h]=>Zi [x,y,u,v,h]&&!(decide (x=u)&&decide (y=v))|_=>false
def Zf:List Int->Bool
 |[x,y,u,v,h]=>Zi [x,y,u,v,h]&&decide (x<u)&&decide (y<v)|_=>false
def Zd:List Int->Bool
 |[a,b,c,d,e,f,g,h,i]=>dP a&&dP b&&Au c&&(dP d&&dP e&&Au f)&&(dP g&&dP h&&Au i)|_=>false
def ln{n:Nat}{xs:List Int}(h:xs.length=n+1):∃a ys,xs=a::ys/\ys.length=n:=by
 cases xs with
 |nil=>cases h|cons a ys=>exact⟨a,ys,rfl,Nat.succ.inj h⟩
def VU{xs:List Int}(h:xs.length=3):∃a b c,xs=[a,b,c]:=by obtain⟨a,x,rfl,h1⟩:=ln h;obtain⟨b,y,rfl,h2⟩:=ln h1;obtain⟨c,z,rfl,h3⟩:=ln h2;exact⟨a,b,c,by rw[wE h3]⟩
def MB{xs:List Int}(h:xs.length=5):∃a b c d e,xs=[a,b,c,d,e]:=by obtain⟨a,x,rfl,h1⟩:=ln h;obtain⟨b,y,rfl,h2⟩:=ln h1;obtain⟨c,d,e,rfl⟩:=VU h2;exact⟨a,b,c,d,e,rfl⟩
def VW{xs:List Int}(h:xs.length=9):∃a b c d e f g i j,xs=[a,b,c,d,e,f,g,i,j]:=by obtain⟨a,x,rfl,h1⟩:=ln h;obtain⟨b,y,rfl,h2⟩:=ln h1;obtain⟨c,z,rfl,h3⟩:=ln h2;obtain⟨d,w,rfl,h4⟩:=ln h3;obtain⟨e,f,g,i,j,rfl⟩:=MB h4;exact⟨a,b,c,d,e,f,g,i,j,rfl⟩
def VX{xs:List Int}(h:Zk xs=true):∃a b c,xs=[a,b,c]:=VU (by unfold Zk at h;split at h;rfl;cases h)
def Z4V{xs:List Int}(h:Zi xs=true):∃a b c d e,xs=[a,b,c,d,e]:=MB (by unfold Zi at h;split at h;rfl;cases h)
def VY{xs:List Int}(h:Zc xs=true):∃a b c d e,xs=[a,b,c,d,e]:=MB (by unfold Zc at h;split at h;rfl;cases h)
def Sq{xs:List Int}(h:Zf xs=true):∃a b c d e,xs=[a,b,c,d,e]:=MB (by unfold Zf at h;split at h;rfl;cases h)
def VZ{xs:List Int}(h:Zd xs=true):∃a b c d e f g i j,xs=[a,b,c,d,e,f,g,i,j]:=VW (by unfold Zd at h;split at h;rfl;cases h)
def Z4W(a b c:Bool):pb [.lst [.bl a,.bl b,.bl c]]=some (.bl<|a&&b&&c):=by cases a<;>cases b<;>cases c<;>rfl
def Z4X(a b c d:Bool):pb [.lst [.bl a,.bl b,.bl c,.bl d]]=some (.bl<|a&&b&&c&&d):=by cases a<;>cases b<;>cases c<;>cases d<;>rfl
def Z13{xs:List Int}{sl:ŗ}(hs:JZ sl (xs.map .int)):dE [sl]=.ret (.sh<|.bl<|Zk xs):=by
 by_cases hl:xs.length=3
 ·obtain⟨a,b,c,rfl⟩:=VU hl;have h:Zk [a,b,c]=(dP a&&dP b&&As c):=rfl;rw[h];rcases hs with rfl|rfl<;>cases ea:dP a<;>cases eb:dP b<;>cases ec:As c<;>simp[dE,iI,VT,Yr,ea,eb,ec]
 ·have h:Zk xs=false:=by
   unfold Zk;split
   ·simp at hl
   ·rfl
  rw[h];have M6:¬((xs.length:Nat):Int)=3:=by lia
  rcases hs with rfl|rfl<;>simp[dE,iI,M6]
def Ys{xs:List Int}{sl:ŗ}(hs:JZ sl (xs.map .int)):ϸ [sl]=.ret (.sh<|.bl<|Zi xs):=by
 by_cases hl:xs.length=5
 ·obtain⟨a,b,c,d,e,rfl⟩:=MB hl;have h:Zi [a,b,c,d,e]=(dP a&&dP b&&dP c&&dP d&&As e):=rfl;rw[h];have hc:eV ([.int a,.int b,.int c,.int d,.int e]:List PV) none (some 4)=[.int a,.int b,.int c,.int d]:=rfl;have hb:=Z4X (dP a) (dP b) (dP c)<|dP d;rcases hs with rfl|rfl<;>cases ea:(dP a&&dP b&&dP c&&dP d)<;>cases ec:As e<;>rw[ea]at hb<;>simp[ϸ,fg,ç,VT,Yr,hc,ġ,hb,ec]
 ·have h:Zi xs=false:=by
   unfold Zi;split
   ·simp at hl
   ·rfl
  rw[h];have M6:¬((xs.length:Nat):Int)=5:=by lia
  rcases hs with rfl|rfl<;>simp[ϸ,fg,ç,M6]
def Z4Y(a b c d:Int):cO (.lst [.int a,.int b]) (.lst [.int c,.int d])=some (.bl<|!(decide (a=c)&&decide (b=d))):=by
 have h:cx (.lst [.int a,.int b]) (.lst [.int c,.int d])=(decide (a=c)&&decide (b=d)):=by simp[cx,iV];rw[dZ];simp
 unfold cO o_;rw[h];simp[Ϗ,aF,rn,jR]
def Yt{xs:List Int}(hl:¬xs.length=5):Zi xs=false:=by
 unfold Zi;split
 ·simp at hl
 ·rfl
def V_{s:ŗ}{ps:List PV}(h:JZ s ps):eS s=some s:=by rcases h with rfl|rfl<;>rfl
def Z3i{xs:List Int}{sl:ŗ}(hs:JZ sl (xs.map .int)):cj [sl]=.ret (.sh<|.bl<|Zc xs):=by
 have he:=Ys hs;by_cases hl:xs.length=5
 ·obtain⟨a,b,c,d,e,rfl⟩:=MB hl;have h:Zc [a,b,c,d,e]=(Zi [a,b,c,d,e]&&!(decide (a=c)&&decide (b=d))):=rfl;rw[h];have h1:eV ([.int a,.int b,.int c,.int d,.int e]:List PV) none (some 2)=[.int a,.int b]:=rfl;have h2:eV ([.int a,.int b,.int c,.int d,.int e]:List PV) (some 2) (some 4)=[.int c,.int d]:=rfl;have h3:=Z4Y a b c d;generalize Zi [a,b,c,d,e]=q at*;rcases hs with rfl|rfl<;>cases q<;>simp_all [cj,gv]
 ·have h:Zc xs=false:=by
   unfold Zc;split
   ·simp at hl
   ·rfl
  rw[h];rw[Yt hl]at he;simp[cj,gv,V_ hs,he]
def Z4d{xs:List Int}{sl:ŗ}(hs:JZ sl (xs.map .int)):Ķ [sl]=.ret (.sh<|.bl<|Zf xs):=by
 have he:=Ys hs;by_cases hl:xs.length=5
 ·obtain⟨a,b,c,d,e,rfl⟩:=MB hl;have h:Zf [a,b,c,d,e]=(Zi [a,b,c,d,e]&&decide (a<c)&&decide (b<d)):=rfl;rw[h];generalize Zi [a,b,c,d,e]=q at*;rcases hs with rfl|rfl<;>simp only[Ó,ž]at he<;>cases q<;>by_cases h1:a<c<;>by_cases h2:b<d<;>simp[Ķ,ai,he,h1,h2]
 ·have h:Zf xs=false:=by
   unfold Zf;split
   ·simp at hl
   ·rfl
  rw[h];rw[Yt hl]at he;simp[Ķ,ai,V_ hs,he]
def V0(a b c:Int):aU [.sh<|.lst [.int a,.int b,.int c]]=.ret (.sh<|.bl<|dP a&&dP b&&Au c):=by unfold Au;cases ea:dP a<;>cases eb:dP b<;>by_cases h1:0<=c<;>by_cases h2:c<=1000000000<;>simp[aU,gw,VT,ea,eb,h1,h2]
def Z3j{xs:List Int}{sl:ŗ}(hs:JZ sl (xs.map .int)):ck [sl]=.ret (.sh<|.bl<|Zd xs):=by
 by_cases hl:xs.length=9
 ·obtain⟨a,b,c,d,e,f,g,h,i,rfl⟩:=VW hl;have hc:Zd [a,b,c,d,e,f,g,h,i]=((dP a&&dP b&&Au c)&&(dP d&&dP e&&Au f)&&(dP g&&dP h&&Au i)):=rfl;rw[hc];have h1:eV ([.int a,.int b,.int c,.int d,.int e,.int f,.int g,.int h,.int i]:List PV) (some 0) (some 3)=[.int a,.int b,.int c]:=rfl;have h2:eV ([.int a,.int b,.int c,.int d,.int e,.int f,.int g,.int h,.int i]:List PV) (some 3) (some 6)=[.int d,.int e,.int f]:=rfl;have h3:eV ([.int a,.int b,.int c,.int d,.int e,.int f,.int g,.int h,.int i]:List PV) (some 6) (some 9)=[.int g,.int h,.int i]:=rfl;have hb:=Z4W (dP a&&dP b&&Au c) (dP d&&dP e&&Au f)<|dP g&&dP h&&Au i;have k1:=V0 a b c;have k2:=V0 d e f;have k3:=V0 g h i;rcases hs with rfl|rfl<;>simp[ck,gx,ç,ġ,h1,h2,h3,k1,k2,k3,hb]
 ·have h:Zd xs=false:=by
   unfold Zd;split
   ·simp at hl
   ·rfl
  rw[h];have M6:¬((xs.length:Nat):Int)=9:=by lia
  rcases hs with rfl|rfl<;>simp[ck,gx,ç,M6]
def Zl(w:Str):String:=if w="post"then "Post"else if w="fence"then "Fence"else if w="sail"then "Sail"else if w="cloth"then "Cloth"else "House"
def Ze(C:String)(w:Str)(xs:List Int):PV:=.ins C ["word","numbers"] [.str w,.lst<|xs.map .int]
def Z3(w:Str)(xs:List Int):Bool:=if w="post"then Zk xs else if w="fence"then Zc xs else if w="sail"then Zf xs else if w="cloth"then Zd xs else if w="house"then Zf xs else false
def wn:((Å "word")=(Å "numbers"))=False:=eq_false (by decide+kernel)
def ZS{C:String}(hC:(["Thing","Post","Fence","Sail","Cloth","House"]:List String).contains C=true)(w:Str){xs:List Int}{sl:ŗ}(hs:JZ sl (xs.map .int)):dO 3 3 C Ĵ [.sh<|.str w,sl]=.ok ["word","numbers"] [.str w,.lst<|xs.map .int]:=by rcases hs with rfl|rfl<;>simp[dO,Ĵ,km,IR.of,putN,A4,hC,wn,-List.contains_eq_mem,-wG]
def s1:Ě (Å "post")=true:=by decide+kernel
def s2:Ě (Å "fence")=true:=by decide+kernel
def s3:Ě (Å "sail")=true:=by decide+kernel
def s4:Ě (Å "cloth")=true:=by decide+kernel
def s5:Ě (Å "house")=true:=by decide+kernel
def VD:(Å "post"=Å "fence")=False:=eq_false (by decide+kernel)
def VF:(Å "post"=Å "sail")=False:=eq_false (by decide+kernel)
def VG:(Å "post"=Å "cloth")=False:=eq_false (by decide+kernel)
def VH:(Å "post"=Å "house")=False:=eq_false (by decide+kernel)
def X7:(Å "fence"=Å "post")=False:=eq_false (by decide+kernel)
def VI:(Å "fence"=Å "sail")=False:=eq_false (by decide+kernel)
def VJ:(Å "fence"=Å "cloth")=False:=eq_false (by decide+kernel)
def VL:(Å "fence"=Å "house")=False:=eq_false (by decide+kernel)
def Vd:(Å "sail"=Å "post")=False:=eq_false (by decide+kernel)
def X8:(Å "sail"=Å "fence")=False:=eq_false (by decide+kernel)
def VM:(Å "sail"=Å "cloth")=False:=eq_false (by decide+kernel)
def VN:(Å "sail"=Å "house")=False:=eq_false (by decide+kernel)
def X9:(Å "cloth"=Å "post")=False:=eq_false (by decide+kernel)
def Ya:(Å "cloth"=Å "fence")=False:=eq_false (by decide+kernel)
def Yb:(Å "cloth"=Å "sail")=False:=eq_false (by decide+kernel)
def VO:(Å "cloth"=Å "house")=False:=eq_false (by decide+kernel)
def Yc:(Å "house"=Å "post")=False:=eq_false (by decide+kernel)
def Yd:(Å "house"=Å "fence")=False:=eq_false (by decide+kernel)
def Ye:(Å "house"=Å "sail")=False:=eq_false (by decide+kernel)
def Yf:(Å "house"=Å "cloth")=False:=eq_false (by decide+kernel)
def Z3k{w:Str}(hw:Ě w=true){xs:List Int}{sl:ŗ}(hs:JZ sl (xs.map .int)):Ϧ [.sh<|.str w,sl]=if Z3 w xs=true then .ret (.sh<|Ze (Zl w) w xs)else .bad:=by
 have e1:=Ź hw s1;have e2:=Ź hw s2;have e3:=Ź hw s3;have e4:=Ź hw s4;have e5:=Ź hw s5;have p1:=Z13 hs;have p2:=Z3i hs;have p3:=Z4d hs;have p4:=Z3j hs;have i1:yK [.sh<|.str w,sl]=_:=ZS (by decide) w hs;have i2:uE [.sh<|.str w,sl]=_:=ZS (by decide) w hs;have i3:yL [.sh<|.str w,sl]=_:=ZS (by decide) w hs;have i4:uF [.sh<|.str w,sl]=_:=ZS (by decide) w hs;have i5:uG [.sh<|.str w,sl]=_:=ZS (by decide) w hs;have hle:=V_ hs;unfold Z3 Zl Ze;by_cases h1:w=Å "post"
 ·have n2:¬w=Å "fence":=λz=>(VD▸(h1.symm.trans z):False);have n3:¬w=Å "sail":=λz=>(VF▸(h1.symm.trans z):False);have n4:¬w=Å "cloth":=λz=>(VG▸(h1.symm.trans z):False);have n5:¬w=Å "house":=λz=>(VH▸(h1.symm.trans z):False);rw[decide_eq_true h1]at e1;rw[decide_eq_false n2]at e2;rw[decide_eq_false n3]at e3;rw[decide_eq_false n4]at e4;rw[decide_eq_false n5]at e5;have hg:(if w=Å "post"then Zk xs else if w=Å "fence"then Zc xs else if w=Å "sail"then Zf xs else if w=Å "cloth"then Zd xs else if w=Å "house"then Zf xs else false)=Zk xs:=by rw[if_pos h1]
  have hc:(if w=Å "post"then "Post"else if w=Å "fence"then "Fence"else if w=Å "sail"then "Sail"else if w=Å "cloth"then "Cloth"else "House")="Post":=by rw[if_pos h1]
  rw[hg,hc];cases q:Zk xs<;>rw[q]at p1<;>simp[Ϧ,bh,eW,e1,e2,e3,e4,e5,hle,p1,i1]
 ·skip
  by_cases h2:w=Å "fence"
  ·have n1:=h1;have n3:¬w=Å "sail":=λz=>(VI▸(h2.symm.trans z):False);have n4:¬w=Å "cloth":=λz=>(VJ▸(h2.symm.trans z):False);have n5:¬w=Å "house":=λz=>(VL▸(h2.symm.trans z):False);rw[decide_eq_true h2]at e2;rw[decide_eq_false n1]at e1;rw[decide_eq_false n3]at e3;rw[decide_eq_false n4]at e4;rw[decide_eq_false n5]at e5;have hg:(if w=Å "post"then Zk xs else if w=Å "fence"then Zc xs else if w=Å "sail"then Zf xs else if w=Å "cloth"then Zd xs else if w=Å "house"then Zf xs else false)=Zc xs:=by rw[if_neg n1,if_pos h2]
   have hc:(if w=Å "post"then "Post"else if w=Å "fence"then "Fence"else if w=Å "sail"then "Sail"else if w=Å "cloth"then "Cloth"else "House")="Fence":=by rw[if_neg n1,if_pos h2]
   rw[hg,hc];cases q:Zc xs<;>rw[q]at p2<;>simp[Ϧ,bh,eW,e1,e2,e3,e4,e5,hle,p2,i2]
  ·skip
   by_cases h3:w=Å "sail"
   ·have n1:=h1;have n2:=h2;have n4:¬w=Å "cloth":=λz=>(VM▸(h3.symm.trans z):False);have n5:¬w=Å "house":=λz=>(VN▸(h3.symm.trans z):False);rw[decide_eq_true h3]at e3;rw[decide_eq_false n1]at e1;rw[decide_eq_false n2]at e2;rw[decide_eq_false n4]at e4;rw[decide_eq_false n5]at e5;have hg:(if w=Å "post"then Zk xs else if w=Å "fence"then Zc xs else if w=Å "sail"then Zf xs else if w=Å "cloth"then Zd xs else if w=Å "house"then Zf xs else false)=Zf xs:=by rw[if_neg n1,if_neg n2,if_pos h3]
    have hc:(if w=Å "post"then "Post"else if w=Å "fence"then "Fence"else if w=Å "sail"then "Sail"else if w=Å "cloth"then "Cloth"else "House")="Sail":=by rw[if_neg n1,if_neg n2,if_pos h3]
    rw[hg,hc];cases q:Zf xs<;>rw[q]at p3<;>simp[Ϧ,bh,eW,e1,e2,e3,e4,e5,hle,p3,i3]
   ·skip
    by_cases h4:w=Å "cloth"
    ·have n1:=h1;have n2:=h2;have n3:=h3;have n5:¬w=Å "house":=λz=>(VO▸(h4.symm.trans z):False);rw[decide_eq_true h4]at e4;rw[decide_eq_false n1]at e1;rw[decide_eq_false n2]at e2;rw[decide_eq_false n3]at e3;rw[decide_eq_false n5]at e5;have hg:(if w=Å "post"then Zk xs else if w=Å "fence"then Zc xs else if w=Å "sail"then Zf xs else if w=Å "cloth"then Zd xs else if w=Å "house"then Zf xs else false)=Zd xs:=by rw[if_neg n1,if_neg n2,if_neg n3,if_pos h4]
     have hc:(if w=Å "post"then "Post"else if w=Å "fence"then "Fence"else if w=Å "sail"then "Sail"else if w=Å "cloth"then "Cloth"else "House")="Cloth":=by rw[if_neg n1,if_neg n2,if_neg n3,if_pos h4]
     rw[hg,hc];cases q:Zd xs<;>rw[q]at p4<;>simp[Ϧ,bh,eW,e1,e2,e3,e4,e5,hle,p4,i4]
    ·skip
     by_cases h5:w=Å "house"
     ·have n1:=h1;have n2:=h2;have n3:=h3;have n4:=h4;rw[decide_eq_true h5]at e5;rw[decide_eq_false n1]at e1;rw[decide_eq_false n2]at e2;rw[decide_eq_false n3]at e3;rw[decide_eq_false n4]at e4;have hg:(if w=Å "post"then Zk xs else if w=Å "fence"then Zc xs else if w=Å "sail"then Zf xs else if w=Å "cloth"then Zd xs else if w=Å "house"then Zf xs else false)=Zf xs:=by rw[if_neg n1,if_neg n2,if_neg n3,if_neg n4,if_pos h5]
      have hc:(if w=Å "post"then "Post"else if w=Å "fence"then "Fence"else if w=Å "sail"then "Sail"else if w=Å "cloth"then "Cloth"else "House")="House":=by rw[if_neg n1,if_neg n2,if_neg n3,if_neg n4]
      rw[hg,hc];cases q:Zf xs<;>rw[q]at p3<;>simp[Ϧ,bh,eW,e1,e2,e3,e4,e5,hle,p3,i5]
     ·skip
      rw[decide_eq_false h1]at e1;rw[decide_eq_false h2]at e2;rw[decide_eq_false h3]at e3;rw[decide_eq_false h4]at e4;rw[decide_eq_false h5]at e5;rw[if_neg h1,if_neg h2,if_neg h3,if_neg h4,if_neg h5];simp[Ϧ,bh,e1,e2,e3,e4,e5]
abbrev P3:=Int×Int×Int
def c3(p:P3):PV:=.tup [.int p.1,.int p.2.1,.int p.2.2]
def Zt(x y u v z:Int):List P3:=[(x,y,z),(u,y,z),(u,v,z),(x,v,z)]
def ZH(x y u v h:Int):List P3:=Zt x y u v 0++Zt x y u v h
def Z5(C:String)(xs:List Int):List P3:=
 if C="Post"then(match xs with
  |[p,q,h]=>ZH (2*p-1) (2*q-1) (2*p+1) (2*q+1) h|_=>[])
 else if C="Fence"then(match xs with
  |[x,y,u,v,h]=>[(x,y,0),(u,v,0),(u,v,h),(x,y,h)]|_=>[])
 else if C="Sail"then(match xs with
  |[x,y,u,v,h]=>Zt x y u v h|_=>[])
 else if C="Cloth"then(match xs with
  |[a,b,c,d,e,f,g,h,i]=>[(a,b,c),(d,e,f),(g,h,i)]|_=>[])
 else(match xs with
  |[x,y,u,v,h]=>ZH x y u v h|_=>[])
def Zo(w:Str)(xs:List Int):List P3:=Z5 (Zl w) xs
def Qt{C:String}(hC:(["Thing","Post","Fence","Sail","Cloth","House"]:List String).contains C=true)(w:Str)(xs:List Int):ŏ ["Thing","Post","Fence","Sail","Cloth","House"] (Å "numbers") (Ze C w xs)=some (.lst<|xs.map .int):=by
 unfold ŏ Ze;dsimp only;rw[if_pos hC];have:(Å "numbers"==Å "word")=false:=by decide+kernel
 show fF _ [(_,_),(_,_)]=_;rw[Ř,this];simp
def Yu(x y u v z:Int):ϔ [.sh<|.int x,.sh<|.int y,.sh<|.int u,.sh<|.int v,.sh<|.int z]=.ret (.ow<|(Zt x y u v z).map c3):=by simp[ϔ,jb,Zt,c3]
def Yw(x y u v h:Int):au [.sh<|.int x,.sh<|.int y,.sh<|.int u,.sh<|.int v,.sh<|.int h]=.ret (.ow<|(ZH x y u v h).map c3):=by simp[au,jc,Yu,ZH,Zt,qY]
def Z4Z{xs:List Int}(h:Zk xs=true)(w:Str):Ż [.sh<|Ze "Post" w xs]=.ret (.ow<|(Z5 "Post" xs).map c3):=by have hh:=h;clear h;obtain⟨p,q,h,rfl⟩:=VX hh;simp[Zk,dP,As]at hh;have hf:=Qt (C:="Post") (by decide) w [p,q,h];have e:=Yw (2*p-1) (2*q-1) (2*p+1) (2*q+1) h;simp[Ż,kt,ç,hf,e,Z5]
def Z4e{xs:List Int}(h:Zc xs=true)(w:Str):ũ [.sh<|Ze "Fence" w xs]=.ret (.ow<|(Z5 "Fence" xs).map c3):=by have hh:=h;clear h;obtain⟨x,y,u,v,h,rfl⟩:=VY hh;have hf:=Qt (C:="Fence") (by decide) w [x,y,u,v,h];simp[ũ,je,ç,hf,Z5,c3,ô]
def Z50{xs:List Int}(h:Zf xs=true)(w:Str):ż [.sh<|Ze "Sail" w xs]=.ret (.ow<|(Z5 "Sail" xs).map c3):=by have hh:=h;clear h;obtain⟨x,y,u,v,h,rfl⟩:=Sq hh;have hf:=Qt (C:="Sail") (by decide) w [x,y,u,v,h];have e:=Yu x y u v h;simp[ż,ku,hf,e,Z5]
def Z4f{xs:List Int}(h:Zf xs=true)(w:Str):ū [.sh<|Ze "House" w xs]=.ret (.ow<|(Z5 "House" xs).map c3):=by have hh:=h;clear h;obtain⟨x,y,u,v,h,rfl⟩:=Sq hh;have hf:=Qt (C:="House") (by decide) w [x,y,u,v,h];have e:=Yw x y u v h;simp[ū,ji,hf,e,Z5]
def Z4g{xs:List Int}(h:Zd xs=true)(w:Str):Ū [.sh<|Ze "Cloth" w xs]=.ret (.ow<|(Z5 "Cloth" xs).map c3):=by have hh:=h;clear h;obtain⟨a,b,c,d,e,f,g,i,j,rfl⟩:=VZ hh;have hf:=Qt (C:="Cloth") (by decide) w [a,b,c,d,e,f,g,i,j];simp[Ū,jg,ç,hf,Z5,c3,ġ,OR,eV];exact⟨rfl,rfl,rfl⟩
def p_(r p:P3):Hu.Pt:=(r.2.2*p.1+r.1*p.2.2,r.2.2*p.2.1+r.2.1*p.2.2)
def RB(r:P3):Prop:=-1000000<=r.1/\r.1<=1000000/\ -1000000<=r.2.1/\r.2.1<=1000000/\ -1000000<=r.2.2/\r.2.2<=1000000
def PB(p:P3):Prop:=-10000000000<=p.1/\p.1<=10000000000/\ -10000000000<=p.2.1/\p.2.1<=10000000000/\ -10000000000<=p.2.2/\p.2.2<=10000000000
def Yx{r:P3}(hr:RB r)(p:P3):nR [.sh<|c3 p,.sh<|c3 r]=.ret (.sh<|pt<|p_ r p):=by obtain⟨a1,a2,a3,a4,a5,a6⟩:=hr;have m1:Ĭ r.2.2 p.1=true:=ş (by lia) (by lia);have m2:Ĭ r.2.2 p.2.1=true:=ş (by lia) (by lia);have m3:Ĭ r.1 p.2.2=true:=ş (by lia) (by lia);have m4:Ĭ r.2.1 p.2.2=true:=ş (by lia) (by lia);simp[nR,C4,pt,c3,p_,m1,m2,m3,m4]
def Qu{x y A B:Int}(h1: -A<=x)(h2:x<=A)(h3: -B<=y)(h4:y<=B): -(A*B)<=x*y/\x*y<=A*B:=by
 have hA:0<=A:=by lia
 have hB:0<=B:=by lia
 have e:(x*y).natAbs<=A.natAbs*B.natAbs:=by rw[rG];exact eA (by lia) (by lia)
 have e2:((A*B).natAbs)=A.natAbs*B.natAbs:=rG A B;have e3:0<=A*B:=wr hA hB;lia
def V1{r p:P3}(hr:RB r)(hp:PB p):Sm (p_ r p):=by obtain⟨a1,a2,a3,a4,a5,a6⟩:=hr;obtain⟨b1,b2,b3,b4,b5,b6⟩:=hp;have q1:=Qu a5 a6 b1 b2;have q2:=Qu a5 a6 b3 b4;have q3:=Qu a1 a2 b5 b6;have q4:=Qu a3 a4 b5 b6;simp only[Sm,p_];lia
def Z2F{w:Str}{xs:List Int}(hg:Z3 w xs=true){mo:M PV}{ρ ρ1:List ŗ}(ho:mo ρ=.ok (Ze (Zl w) w xs) ρ1):gq (Å "corners") [("Post",Ż),("Fence",ũ),("Sail",ż),("Cloth",Ū),("House",ū)] mo Ø ρ=.ok (.ow<|(Zo w xs).map c3) ρ1:=by
 have hn:(["word","numbers"]:List Str).contains (Å "corners")=false:=by decide+kernel
 have key:∀(C:String) (mf:MF),Zl w=C->fF C [("Post",Ż),("Fence",ũ),("Sail",ż),("Cloth",Ū),("House",ū)]=some mf->mf [.sh<|Ze C w xs]=.ret (.ow<|(Z5 C xs).map c3)->gq (Å "corners") [("Post",Ż),("Fence",ũ),("Sail",ż),("Cloth",Ū),("House",ū)] mo Ø ρ=.ok (.ow<|(Zo w xs).map c3) ρ1:=by intro C mf hC hl hf;unfold Zo;rw[hC]at ho⊢;unfold gq;rw[ho];unfold Ze at*;simp only[ĵ.bind];rw[hl];dsimp only;rw[if_neg (by rw[hn];decide)];simp only[Ø];rw[hf]
 unfold Z3 at hg;by_cases e1:w="post"
 ·rw[if_pos e1]at hg;exact key "Post" _ (by unfold Zl;rw[if_pos e1]) rfl (Z4Z hg w)
 rw[if_neg e1]at hg;by_cases e2:w="fence"
 ·rw[if_pos e2]at hg;exact key "Fence" _ (by unfold Zl;rw[if_neg e1,if_pos e2]) rfl (Z4e hg w)
 rw[if_neg e2]at hg;by_cases e3:w="sail"
 ·rw[if_pos e3]at hg;exact key "Sail" _ (by unfold Zl;rw[if_neg e1,if_neg e2,if_pos e3]) rfl (Z50 hg w)
 rw[if_neg e3]at hg;by_cases e4:w="cloth"
 ·rw[if_pos e4]at hg;exact key "Cloth" _ (by unfold Zl;rw[if_neg e1,if_neg e2,if_neg e3,if_pos e4]) rfl (Z4g hg w)
 rw[if_neg e4]at hg;by_cases e5:w="house"
 ·rw[if_pos e5]at hg;exact key "House" _ (by unfold Zl;rw[if_neg e1,if_neg e2,if_neg e3,if_neg e4]) rfl (Z4f hg w)
 ·rw[if_neg e5]at hg;cases hg
def Z2e{r:P3}(hr:RB r){L:List P3}(hl:L.length<=100)(s1:ŗ):ġ (gN 1) Ģ (Ú<|Ý nR<|Ì 1<|Ì 0 Ø) (L.map c3) [.sh<|c3 r,s1] []=some ((L.map<|p_ r).map pt):=by
 have:=Ğ (g:=gN 1) (mt:=Ģ) (me:=Ú<|Ý nR<|Ì 1<|Ì 0 Ø) c3 (λp=>pt<|p_ r p) (λa=>∃s,a=[.sh<|c3 r,s]) L [.sh<|c3 r,s1] [] ⟨_,rfl⟩ (by simp;lia) (by
  rintro p hp a ⟨s,rfl⟩;have e:=Yx hr p;generalize c3 r=R,c3 p=Q at*;exact⟨[R|> .sh,.sh Q],[.sh R,.sh Q],[.sh R,.sh Q],by simp,by simp,by simp[e],_,rfl⟩)
 rw[this];simp
def Yy{w:Str}{xs:List Int}(hg:Z3 w xs=true)(hl:(Zo w xs).length<=100){r:P3}(hr:RB r):Ϲ [.sh<|Ze (Zl w) w xs,.sh<|c3 r]=.ret (.ow<|((Zo w xs).map (p_ r)).map pt):=by have h1:=Z2F hg (mo:=é 0) (ρ:=[.sh<|Ze (Zl w) w xs,.sh<|c3 r]) (ρ1:=[.sh<|Ze (Zl w) w xs,.sh<|c3 r]) (by simp);have h2:=Z2e hr hl;simp[Ϲ,kx,ç,h1,h2,-Iz]
def Av(s:Hu.Pt):P3:=(2*s.1,2*s.2,0)
def bd(x:Int):Prop:=-10000000000<=x/\x<=10000000000
def Xl:bd 0:=⟨by decide,by decide⟩
def GI{x y z:Int}(a:bd x)(b:bd y)(c:bd z):PB (x,y,z):=⟨a.1,a.2,b.1,b.2,c.1,c.2⟩
def V2{x y u v z:Int}(a:bd x)(b:bd y)(c:bd u)(d:bd v)(e:bd z):∀p∈Zt x y u v z,PB p:=by simp only[Zt,om];exact⟨GI a b e,GI c b e,GI c d e,GI a d e,nofun⟩
def Yz{x y u v z:Int}(a:bd x)(b:bd y)(c:bd u)(d:bd v)(e:bd z):∀p∈ZH x y u v z,PB p:=λp h=>(Ů.mp h).elim (V2 a b c d Xl p) (V2 a b c d e p)
def YA{w:Str}{xs:List Int}(hg:Z3 w xs=true):(Zo w xs).length<=8/\Zo w xs≠[]/\∀p∈Zo w xs,PB p:=by
 have pl:∀{x},dP x=true->bd x:=λh=>by simp[dP]at h;exact⟨by lia,by lia⟩
 have gl:∀{x},Au x=true->bd x:=λh=>by simp[Au]at h;exact⟨by lia,by lia⟩
 have hl:∀{x},As x=true->bd x:=λh=>by simp[As]at h;exact⟨by lia,by lia⟩
 have hp:Zk xs=true->(Z5 "Post" xs).length<=8/\Z5 "Post" xs≠[]/\∀p∈Z5 "Post" xs,PB p:=λh=>by obtain⟨a,b,c,rfl⟩:=VX h;simp only[Zk,dP,ú,decide_eq_true_eq]at h;exact⟨by simp[Z5,ZH,Zt],by simp[Z5,ZH,Zt],by simp only[Z5,if_true];exact Yz ⟨by lia,by lia⟩ ⟨by lia,by lia⟩ ⟨by lia,by lia⟩ ⟨by lia,by lia⟩<|hl h.2⟩
 have hf:Zc xs=true->(Z5 "Fence" xs).length<=8/\Z5 "Fence" xs≠[]/\∀p∈Z5 "Fence" xs,PB p:=λh=>by obtain⟨a,b,c,d,e,rfl⟩:=VY h;simp only[Zc,Zi,ú]at h;obtain⟨⟨⟨⟨⟨h1,h2⟩,h3⟩,h4⟩,h5⟩,-⟩:=h;exact⟨by simp[Z5],by simp[Z5],by simp[Z5];exact⟨GI (pl h1) (pl h2) Xl,GI (pl h3) (pl h4) Xl,GI (pl h3) (pl h4)<|hl h5,GI (pl h1) (pl h2)<|hl h5⟩⟩
 have hs:Zf xs=true->(∀C,C="Sail" \/C="House" ->(Z5 C xs).length<=8/\Z5 C xs≠[]/\∀p∈Z5 C xs,PB p):=λh C hC=>by
  obtain⟨a,b,c,d,e,rfl⟩:=Sq h;simp only[Zf,Zi,ú]at h;obtain⟨⟨⟨⟨⟨⟨h1,h2⟩,h3⟩,h4⟩,h5⟩,-⟩,-⟩:=h;rcases hC with rfl|rfl
  ·exact⟨by simp[Z5,Zt],by simp[Z5,Zt],by simp[Z5];simpa using V2 (pl h1) (pl h2) (pl h3) (pl h4) (hl h5)⟩
  ·exact⟨by simp[Z5,ZH,Zt],by simp[Z5,ZH,Zt],by simp[Z5];simpa using Yz (pl h1) (pl h2) (pl h3) (pl h4) (hl h5)⟩
 have hc:Zd xs=true->(Z5 "Cloth" xs).length<=8/\Z5 "Cloth" xs≠[]/\∀p∈Z5 "Cloth" xs,PB p:=λh=>by obtain⟨a,b,c,d,e,f,g,i,j,rfl⟩:=VZ h;simp only[Zd,ú]at h;obtain⟨⟨⟨⟨h1,h2⟩,h3⟩,⟨h4,h5⟩,h6⟩,⟨h7,h8⟩,h9⟩:=h;exact⟨by simp[Z5],by simp[Z5],by simp[Z5];exact⟨GI (pl h1) (pl h2)<|gl h3,GI (pl h4) (pl h5)<|gl h6,GI (pl h7) (pl h8)<|gl h9⟩⟩
 unfold Z3 at hg;unfold Zo Zl;by_cases e1:w="post"
 ·rw[if_pos e1]at hg⊢;exact hp hg
 rw[if_neg e1]at hg⊢;by_cases e2:w="fence"
 ·rw[if_pos e2]at hg⊢;exact hf hg
 rw[if_neg e2]at hg⊢;by_cases e3:w="sail"
 ·rw[if_pos e3]at hg⊢;exact hs hg _<|.inl rfl
 rw[if_neg e3]at hg⊢;by_cases e4:w="cloth"
 ·rw[if_pos e4]at hg⊢;exact hc hg
 rw[if_neg e4]at hg⊢;by_cases e5:w="house"
 ·rw[if_pos e5]at hg;exact hs hg _<|.inr rfl
 ·rw[if_neg e5]at hg;cases hg
def Sr(w:Str)(xs:List Int)(s:Hu.Pt)(r:P3):Bool:=(Hu.ZL ((Zo w xs).map (p_ r))<|p_ r<|Av s).isNone
def V3(b:Nat):ac (b:Int)= -(b:Int)-1:=rfl
def Ss(a b:Nat):eG a b=((a|||b:Nat):Int):=by
 unfold eG eE;rw[V3,V3];have h1:decide (0<= -(a:Int)-1)=false:=by simp;lia
 have h2:decide (0<= -(b:Int)-1)=false:=by simp;lia
 rw[h1,h2];have e1:(ac<|-(a:Int)-1).toNat=a:=by unfold ac;lia
 have e2:(ac<|-(b:Int)-1).toNat=b:=by unfold ac;lia
 simp only[e1,e2];unfold ac;lia
def Z3l(a b:Nat):eE a (ac (b:Int))=((a-(a&&&b):Nat):Int):=by
 unfold eE;rw[V3];have h1:decide (0<=(a:Int))=true:=by simp
 have h2:decide (0<= -(b:Int)-1)=false:=by simp;lia
 rw[h1,h2];have e2:(ac<|-(b:Int)-1).toNat=b:=by unfold ac;lia
 simp only[e2,rE];have:=@Nat.and_le_left a b;lia
def Z3m:∀(a b:Nat),a-(a&&&b)=a^^^(a&&&b):=by
 intro a
 induction a using Nat.strongRecOn with
 |_ a ih=>
  intro b;by_cases h:a=0
  ·subst h;simp
  ·have hd:=ih (a/2) (by lia)<|b/2;have e1:(a&&&b)/2=a/2&&&b/2:=by rw[Nat.and_div_two]
   have e2:(a&&&b)%2=(a%2)&&&(b%2):=by have:=@Nat.and_mod_two_pow a b 1;simpa using this
   have e3:(a^^^(a&&&b))/2=a/2^^^(a/2&&&b/2):=by rw[Nat.xor_div_two,Nat.and_div_two]
   have e4:(a^^^(a&&&b))%2=(a%2)^^^((a%2)&&&(b%2)):=by have:=@Nat.xor_mod_two_pow a (a&&&b) 1;simp only[Nat.pow_one]at this;rw[this,e2]
   rw[<-e1]at hd e3;have hle:=@Nat.and_le_left a b;generalize (a&&&b)=m at*;generalize a^^^m=x at*;rw[<-hd]at e3;have ha:a%2=0\/a%2=1:=by lia
   have hb:b%2=0\/b%2=1:=by lia
   have Zai:m/2<=a/2:=by lia
   rcases ha with ha|ha<;>rcases hb with hb|hb<;>rw[ha,hb]at e2 e4<;>simp at e2 e4<;>lia
def Z1l(a b k:Nat):(a-(a&&&b)).testBit k=(a.testBit k&&!b.testBit k):=by rw[Z3m,Nat.testBit_xor,Nat.testBit_and];cases a.testBit k<;>cases b.testBit k<;>rfl
def Z4h(a k:Nat):(a:Int)/2^k=((a>>>k:Nat):Int):=by rw[Nat.shiftRight_eq_div_pow];simp
def Z4i(a k:Nat):(a:Int)/2^k%2=if a.testBit k then 1 else 0:=by
 rw[Z4h];have:(a>>>k)%2=if a.testBit k then 1 else 0:=by
  rw[Nat.testBit];have h:1&&&(a>>>k)=(a>>>k)%2:=by rw[Nat.and_comm];exact Nat.and_one_is_mod _
  rw[h];have:(a>>>k)%2=0\/(a>>>k)%2=1:=by lia
  rcases this with e|e<;>simp[e]
 by_cases q:a.testBit k=true
 ·rw[if_pos q]at this⊢;lia
 ·rw[if_neg q]at this⊢;lia
def Z5y(a:Int):eE a 1=a%2:=PyProof.Rows.bitAnd_m1 a
def Z3n(f l k:Nat)(h:f<=l):(2^(l+1)-2^f).testBit k=(decide (f<=k)&&decide (k<=l)):=by
 have e:2^(l+1)-2^f=(2^(l+1-f)-1)*2^f:=by rw[Nat.sub_mul,<-Nat.pow_add,wO];congr 2;lia
 rw[e,BJ,Nat.testBit_two_pow_sub_one];by_cases h1:f<=k
 ·simp[h1];by_cases h2:k<=l
  ·simp[h2];lia
  ·simp[h2];lia
 ·simp[h1]
def Z2f{a n:Nat}(h:∀k,n<=k->a.testBit k=false):a<2^n:=Nat.lt_pow_two_of_testBit a h
def V4{k:Nat}(h:k<=1000000):qI 1 (k:Int)=true:=by unfold qI;simp;lia
def YB{f l:Int}{w:Nat}(hf:0<=f)(hl:l<w)(hw:w<=1000):∃B:Nat,cU [.sh<|.int f,.sh<|.int l]=.ret (.sh<|.int B)/\∀k:Nat,B.testBit k=(decide (f<=k)&&decide ((k:Int)<=l)):=by
 by_cases h:l<f
 ·refine⟨0,by simp[cU,kc,h],λk=>?_⟩;by_cases h1:f<=k
  ·have h2:¬(k:Int)<=l:=by lia
   simp[h2]
  ·simp[h1]
 ·obtain⟨F,rfl⟩:=rH hf;obtain⟨L,rfl⟩:=rH (by lia:0<=l);have e1:=V4 (k:=L+1) (by lia);have e2:=V4 (k:=F) (by lia);have hp:2^F<=2^(L+1):=sk (by lia) (by lia);refine⟨2^(L+1)-2^F,?_,λk=>?_⟩
  ·have t1:((L:Int)+1).toNat=L+1:=by lia
   have t2:((L:Int)+1)=((L+1:Nat):Int):=by lia
   simp only[wt,Int.cast_ofNat_Int]at e1;have h':¬(L:Int)<F:=h;simp[cU,kc,h',e1,e2,t1];rw[Int.natCast_sub hp];simp
  ·rw[Z3n F L k<|by lia];simp
def inR(L:List Hu.Ln)(u q k:Int):Prop:=∀l∈L,l.1*(u*k)+l.2.1*(u*q)<=l.2.2
def YC{a b k:Int}(hb:0<b):k<=a.fdiv b↔k*b<=a:=by rw[nZ _<|Int.le_of_lt hb];exact Bx hb
def Ej(s0:ŗ)(u q:Int)(w:Nat)(f la:Int)(r:ŗ×ŗ×ŗ×ŗ×ŗ):Ć:=[s0,.sh<|.int u,.sh<|.int q,.sh<|.int w,.sh<|.int f,.sh<|.int la,r.1,r.2.1,r.2.2.1,r.2.2.2.1,r.2.2.2.2]
def G4(l:Hu.Ln)(s9 Ff:ŗ):ŗ×ŗ×ŗ×ŗ×ŗ:=(.sh<|.int l.1,.sh<|.int l.2.1,.sh<|.int l.2.2,s9,Ff)
def Z3p{u q:Int}{w:Nat}(hu:0<u)(Kd:u<=10000000)(hq:0<=q)(De:q<=1000)(s0:ŗ){l:Hu.Ln}(hl:Ja l){f la:Int}(h1:0<=f)(h2:la<w)(s9 Ff:ŗ):
 (∃f' GJ r,Ϣ (Ej s0 u q w f la<|G4 l s9 Ff)=.ok .nx (Ej s0 u q w f' GJ r)/\0<=f'/\GJ<w/\∀k:Int,(f'<=k/\k<=GJ)↔(f<=k/\k<=la/\l.1*(u*k)+l.2.1*(u*q)<=l.2.2))\/
 (∃c,Ϣ (Ej s0 u q w f la<|G4 l s9 Ff)=.ok (.rt<|.sh<|.int 0) c/\∀k:Int,¬l.1*(u*k)+l.2.1*(u*q)<=l.2.2):=by
 have m1:Ĭ l.1 u=true:=ş (by have:=hl.1;lia) (by have:=hl.2.1;lia);have m2:Ĭ l.2.1 u=true:=ş (by have:=hl.2.2.1;lia) (by have:=hl.2.2.2;lia);have m3:Ĭ (l.2.1*u) q=true:=J8 (by lia) (by lia);have bs:=Qu hl.1 hl.2.1 (show -10000000<=u by lia) Kd;have hin:∀k:Int,l.1*(u*k)+l.2.1*(u*q)<=l.2.2↔k*(l.1*u)<=l.2.2-l.2.1*u*q:=λk=>by rw[<-Int.mul_assoc,Int.mul_comm<|l.1*u,<-Int.mul_assoc l.2.1];lia
 generalize gi:l.1*u=st,Su:l.2.2-l.2.1*u*q=ro at*;simp only[hin];clear hin;have dv:∀z,st=z\/st= -z->0<z->kK ro z=true:=λz h1 h2=>zB (by lia) (ř (pj (n:=200) (by lia)<|by lia)<|by decide);by_cases c1:0<st
 ·refine .inl ⟨f,min la<|ro.fdiv st,G4 l (.sh<|.int st)<|.sh<|.int ro,?_,h1,by lia,λk=>?_⟩
  ·simp[Ej,G4,Ϣ,m1,m2,m3,gi,Su,c1,dv st (.inl rfl) c1];split<;>lia
  ·have:=YC (a:=ro) (k:=k) c1;lia
 ·by_cases c2:st<0
  ·refine .inl ⟨max f<|-(ro.fdiv<|-st),la,G4 l (.sh<|.int st)<|.sh<|.int ro,?_,by lia,h2,λk=>?_⟩
   ·simp[Ej,G4,Ϣ,m1,m2,m3,gi,Su,c1,c2,dv (-st) (.inr<|by lia)<|by lia];split<;>lia
   ·have:=YC (a:=ro) (b:=-st) (k:=-k) (by lia);rw[Int.neg_mul_neg]at this;lia
  ·have c0:st=0:=by omega
   subst c0;by_cases c3:ro<0
   ·exact .inr ⟨_,by simp[Ej,G4,Ϣ,m1,m2,m3,gi,Su,c3];rfl,λk=>by lia⟩
   ·exact .inl ⟨f,la,G4 l (.sh<|.int 0)<|.sh<|.int ro,by simp[Ej,G4,Ϣ,m1,m2,m3,gi,Su,c3],h1,h2,λk=>by lia⟩
def Z3q{u q:Int}{w:Nat}(hu:0<u)(Kd:u<=10000000)(hq:0<=q)(De:q<=1000)(s0:ŗ){L:List Hu.Ln}(hS:∀l∈L,Ja l){f la:Int}(r:ŗ×ŗ×ŗ×ŗ×ŗ)(h1:0<=f)(h2:la<w):
 (∃f' GJ r',ĺ (gT 3<|ð (gN 6)<|ð (gN 7)<|ð (gN 8) ű) Ϣ (L.map iE) (Ej s0 u q w f la r)=.ok .nx (Ej s0 u q w f' GJ r')/\0<=f'/\GJ<w/\∀k:Int,(f'<=k/\k<=GJ)↔(f<=k/\k<=la/\inR L u q k))\/
 (∃d,ĺ (gT 3<|ð (gN 6)<|ð (gN 7)<|ð (gN 8) ű) Ϣ (L.map iE) (Ej s0 u q w f la r)=.ok (.rt<|.sh<|.int 0) d/\∀k:Int,¬inR L u q k):=by
 induction L generalizing f la r with
 |nil=>exact .inl ⟨f,la,r,rfl,h1,h2,λk=>by simp[inR]⟩
 |cons l L ih=>
  have ic:∀k,inR (l::L) u q k↔l.1*(u*k)+l.2.1*(u*q)<=l.2.2/\inR L u q k:=λk=>om;have gg:gT 3 (ð (gN 6)<|ð (gN 7)<|ð (gN 8) ű) (iE l) (Ej s0 u q w f la r)=some (Ej s0 u q w f la<|G4 l r.2.2.2.1 r.2.2.2.2):=rfl;rw[Ó,ĺ,gg];dsimp only;simp only[ic];rcases Z3p hu Kd hq De s0 (hS l ł) h1 h2 r.2.2.2.1 r.2.2.2.2 with⟨f1,la1,r1,e,a,b,c⟩|⟨d,e,c⟩
  ·rw[e];rcases ih (λx hx=>hS x<|õ _ hx) r1 a b with⟨f',GJ,r',q1,q2,q3,q4⟩|⟨d,q1,q2⟩
   ·exact .inl ⟨f',GJ,r',q1,q2,q3,λk=>by rw[q4,<-and_assoc,c];simp only[and_assoc]⟩
   ·exact .inr ⟨d,q1,λk h=>q2 k h.2⟩
  ·rw[e];exact .inr ⟨d,rfl,λk h=>c k h.1⟩
def Z51{u q:Int}{w:Nat}(hu:0<u)(Kd:u<=10000000)(hq:0<=q)(De:q<=1000)(hw:w<=1000){L:List Hu.Ln}(hS:∀l∈L,Ja l){sl:ŗ}(hs:Sl sl (L.map iE)):
 ∃B:Nat,gy [sl,.sh<|.int u,.sh<|.int q,.sh<|.int w]=.ret (.sh<|.int B)/\∀k:Nat,B.testBit k=true↔(k<w/\inR L u q k):=by
 rcases Z3q (w:=w) (f:=0) (la:=w-1) hu Kd hq De sl hS (.no,.no,.no,.no,.no) (by lia) (by lia)with⟨f',GJ,r',q1,q2,q3,q4⟩|⟨d,q1,q2⟩<;>simp only[Ej]at q1
 ·obtain⟨B,b1,b2⟩:=YB (f:=f') (l:=GJ) q2 q3 hw;refine⟨B,by rcases hs with rfl|rfl<;>simp[gy,kX,ç,q1,b1],λk=>?_⟩;rw[b2,ú,decide_eq_true_eq,decide_eq_true_eq,q4 k];constructor
  ·rintro ⟨a,b,c⟩;exact⟨by lia,c⟩
  ·rintro ⟨a,b⟩;exact⟨by lia,by lia,b⟩
 ·refine⟨0,by rcases hs with rfl|rfl<;>simp[gy,kX,ç,q1],λk=>?_⟩;simp;exact λ_=>q2 k
abbrev Th:=Str×List Int
def rl(t:Th):PV:=Ze (Zl t.1) t.1 t.2
def ϒ:Option P3->PV
 |none=>.non|some r=>c3 r
abbrev Dy:=Str×Int×List (Option P3)
def bR(d:Dy):PV:=.tup [.str d.1,.int d.2.1,.lst<|d.2.2.map ϒ]
def Z0(w h:Int)(T:List Th)(D:List Dy):PV:=.ins "Yard" ["width","height","things","days"] [.int w,.int h,.lst<|T.map rl,.lst<|D.map bR]
def ywh:(Å "width"=Å "height")=False:=eq_false (by decide+kernel)
def ywt:(Å "width"=Å "things")=False:=eq_false (by decide+kernel)
def ywd:(Å "width"=Å "days")=False:=eq_false (by decide+kernel)
def yht:(Å "height"=Å "things")=False:=eq_false (by decide+kernel)
def yhd:(Å "height"=Å "days")=False:=eq_false (by decide+kernel)
def ytd:(Å "things"=Å "days")=False:=eq_false (by decide+kernel)
def Nv(w h:Int)(T:List Th)(D:List Dy):ŏ ["Yard"] (Å "width") (Z0 w h T D)=some (.int w):=by unfold ŏ Z0;simp
def Qv(w h:Int)(T:List Th)(D:List Dy):ŏ ["Yard"] (Å "height") (Z0 w h T D)=some (.int h):=by
 have:(Å "height"==Å "width")=false:=by decide+kernel
 unfold ŏ Z0;simp[Ř,this]
def YD(w h:Int)(T:List Th)(D:List Dy):ŏ ["Yard"] (Å "things") (Z0 w h T D)=some (.lst<|T.map rl):=by
 have e1:(Å "things"==Å "width")=false:=by decide+kernel
 have e2:(Å "things"==Å "height")=false:=by decide+kernel
 unfold ŏ Z0;simp[Ř,e1,e2]
def Jb(w h:Int)(T:List Th)(D:List Dy):ŏ ["Yard"] (Å "days") (Z0 w h T D)=some (.lst<|D.map bR):=by
 have e1:(Å "days"==Å "width")=false:=by decide+kernel
 have e2:(Å "days"==Å "height")=false:=by decide+kernel
 have e3:(Å "days"==Å "things")=false:=by decide+kernel
 unfold ŏ Z0;simp[Ř,e1,e2,e3]
def Z52{k q w:Nat}(hw:0<w):(q*w<=k/\k-q*w<w)↔k/w=q:=by
 constructor
 ·rintro ⟨a,b⟩;exact Nat.div_eq_of_lt_le a (by rw[sq];lia)
 ·rintro rfl;have h1:=Nat.div_mul_le_self k w;have h2:=cz k hw;have h3:=BK (x:=k) (k:=w);lia
def Z53{k q w:Nat}(h:k/w=q):k-q*w=k%w:=by subst h;exact(BK).symm
def ZG{k w h:Nat}(hw:0<w):k/w<h↔k<w*h:=by rw[Nat.div_lt_iff_lt_mul hw,lC]
def gG(w k:Nat):Hu.Pt:=(((k%w:Nat):Int),((k/w:Nat):Int))
def Z4j{S:List Hu.Pt}{r:P3}{p q:Int}:inR (Hu.ZF S) (2*r.2.2) q p↔(Hu.ZL S<|p_ r<|Av (p,q)).isNone=true:=by
 have e:p_ r (Av (p,q))=(2*r.2.2*p,2*r.2.2*q):=by unfold p_ Av;simp only[Int.mul_zero,Int.add_zero,Prod.mk.injEq];constructor<;>grind
 rw[e];unfold Hu.ZL inR Hu.hd;rw[Option.isNone_iff_eq_none,List.find?_eq_none];simp
theorem ZM{α:Type}(y:α):∀(xs b:List α),y∈xs.foldl (λb x=>x::b) b↔(y∈xs\/y∈b)
 |[],b=>by simp|x::xs,b=>by rw[br,ZM y xs (x::b)];simp;grind
def Al(t:Th)(s:Hu.Pt)(r:P3):Bool:=Sr t.1 t.2 s r
def Z2G{w h:Nat}(hw:0<w)(Kf:w<=60)(hh:h<=1000)(T:List Th)(Ds:List Dy){t:Th}(hg:Z3 t.1 t.2=true){r:P3}(hr:RB r)(hz:0<r.2.2):
 ∃D:Nat,gh [.sh<|Z0 w h T Ds,.sh<|rl t,.sh<|c3 r]=.ret (.sh<|.int D)/\∀k,D.testBit k=(decide (k<w*h)&&Al t (gG w k) r):=by
 obtain⟨g1,g2,g3⟩:=YA hg;have hc:=Yy hg (by lia) hr;have hS:∀p∈(Zo t.1 t.2).map (p_ r),Sm p:=by intro p hp;obtain⟨q,hq,rfl⟩:=Đ.mp hp;exact V1 hr<|g3 q hq
 have hl:=Yp (sl:=.sh<|.lst<|((Zo t.1 t.2).map (p_ r)).map pt) (.inl rfl) hS (by simpa using g2) (by simp;lia);have hls:∀l∈Hu.ZF ((Zo t.1 t.2).map (p_ r)),Ja l:=λl h=>Yq h hS;have yw:=Nv w h T Ds;have yh:=Qv w h T Ds;have hv:(2:Int)*r.2.2<=10000000:=by have:=hr.2.2.2.2.2;lia
 generalize hX:Hu.ZF ((Zo t.1 t.2).map (p_ r))=X,hY:Z0 w h T Ds=Y at*;have S0:æ (c3 r) (.int 2)=some (.int r.2.2):=by simp[c3]
 obtain⟨i,e1,D,s5,rfl,hD⟩:=cR (g:=gN 5) (mb:=ke) (λ(q:Nat)=>PV.int q) (λ(b:List Nat) (x:Nat)=>x::b) (λb f=>∃(D:Nat) (s5:ŗ),f=[.sh Y,.sh<|rl t,.sh<|c3 r,.ow<|X.map iE,.sh<|.int D,s5]/\∀k,D.testBit k=true↔(k/w∈b/\Al t (gG w k) r=true)) (ß h) (by
  rintro q hq b f ⟨D,s5,rfl,hD⟩;have hq:=Ţ.mp hq;obtain⟨B,b1,b2⟩:=Z51 (u:=2*r.2.2) (q:=q) (w:=w) (by lia) hv (by lia) (by lia) (by lia) hls (sl:=.bw<|X.map iE)<|.inr rfl;have hB:B<2^w:=Z2f λk hk=>by
   have:=b2 k;cases e:B.testBit k with
   |false=>rfl|true=>have:=(this.mp e).1;lia
  have S3:B<2^60:=Ť hB (sk (by lia) Kf);have hqw:q*w<=1000*60:=eA (by lia) Kf;have so:qI (B:Int) ((q:Int)*(w:Int))=true:=by
   have:((q:Int)*(w:Int))=((q*w:Nat):Int):=by simp
   rw[this];unfold qI;simp;lia
  have mo:Ĭ (q:Int) (w:Int)=true:=ş (by lia) (by lia);have tn:((q:Int)*(w:Int)).toNat=q*w:=by
   have:((q:Int)*(w:Int))=((q*w:Nat):Int):=by simp
   rw[this];rfl
  obtain⟨Z,hZ⟩:∃Z:Nat,Z=D|||B*2^(q*w):=⟨_,rfl⟩
  have oe:eG (D:Int) ((B:Int)*2^(q*w))=(Z:Int):=by
   have ee:(B:Int)*2^(q*w)=((B*2^(q*w):Nat):Int):=by simp
   rw[ee,Ss,hZ]
  have m2:Ĭ 2 r.2.2=true:=ş (by lia) (by lia);generalize c3 r=R at*;have st:ke [.sh Y,.sh<|rl t,.sh R,.ow<|X.map iE,.sh<|.int D,.sh<|.int q]=.ok .nx [.sh Y,.sh<|rl t,.sh R,.ow<|X.map iE,.sh<|.int Z,.sh<|.int q]:=by simp[ke,S0,yw,b1,mo,so,tn,oe]
  refine⟨_,_,rfl,st,_,_,rfl,λk=>?_⟩;rw[hZ,wP,gI,hD,BJ,ú,decide_eq_true_eq,b2,þ,<-hX,Z4j];have key:∀(_:k/w=q),((Hu.ZL ((Zo t.1 t.2).map (p_ r))<|p_ r<|Av (((k-q*w:Nat):Int),(q:Int))).isNone=true↔Al t (gG w k) r=true):=by intro hk;unfold Al Sr gG;rw[Z53 hk,hk]
  have d:=Z52 (k:=k) (q:=q) hw;constructor
  ·rintro (⟨a,b⟩|⟨a,b,c⟩)
   ·exact⟨.inr a,b⟩
   ·have:=d.mp ⟨a,b⟩;exact⟨.inl this,(key this).mp c⟩
  ·rintro ⟨a|a,b⟩
   ·have:=d.mpr a;exact .inr ⟨this.1,this.2,(key a).mpr b⟩
   ·exact .inl ⟨a,b⟩) [] [.sh Y,.sh<|rl t,.sh<|c3 r,.ow<|X.map iE,.sh<|.int ((0:Nat):Int),.no] ⟨0,.no,rfl,by simp⟩
 refine⟨D,?_,λk=>?_⟩
 ·have rr:=Zr hh;have J5:Ϲ [.sh<|rl t,.sh<|c3 r]=.ret (.ow<|((Zo t.1 t.2).map (p_ r)).map pt):=hc;simp[gh,uH,ç,J5,hl,yh,rr,-ę]at e1⊢;simp[e1]
 ·have:=hD k;rw[ZM,Ţ,ZG hw]at this;rw[dZ,this,ú,decide_eq_true_eq];simp
def Za:Nat->(Nat->Bool)->Nat
 |0,_=>0|n+1,p=>Za n p+if p n then 2^n else 0
theorem Sv(p:Nat->Bool):∀n,Za n p<2^n
 |0=>by simp[Za]|n+1=>by have:=Sv p n;unfold Za;rw[Nat.pow_succ];split<;>lia
theorem Zm(p:Nat->Bool):∀n k,(Za n p).testBit k=(decide (k<n)&&p k)
 |0,k=>by simp[Za]|n+1,k=>by
  have hl:=Sv p n;unfold Za;by_cases h:k<n
  ·have ih:=Zm p n k;have h1:k<n+1:=by lia
   split
   ·rw[oo,Nat.testBit_two_pow_add_gt h,ih];simp[h,h1]
   ·rw[Nat.add_zero,ih];simp[h,h1]
  ·by_cases h2:k=n
   ·subst h2;split
    ·rename_i q;rw[oo,Nat.testBit_two_pow_add_eq,wQ hl];simp[q]
    ·rename_i q;rw[Nat.add_zero,wQ hl];simp[q]
   ·have h3:¬k<n+1:=by lia
    have:Za n p+(if p n=true then 2^n else 0)<2^k:=by refine Ť (Sv p<|n+1) (sk (by lia)<|by lia)
    rw[wQ this];simp[h3]
def ZE{n:Nat}{p:Nat->Bool}{D:Nat}(h:∀k,D.testBit k=(decide (k<n)&&p k)):D=Za n p:=Nat.eq_of_testBit_eq λk=>by rw[h,Zm]
def Z1L{n:Nat}{p q:Nat->Bool}(h:∀k<n,p k=q k):Za n p=Za n q:=ZE λk=>by
 rw[Zm];by_cases hk:k<n
 ·rw[h k hk]
 ·simp[hk]
def Qw(w h:Nat)(r:P3)(t:Th):Nat:=Za (w*h) λk=>Al t (gG w k) r
def kz(w:Nat)(T:List Th):Option P3->Nat->Bool
 |none,_=>true|some r,k=>T.any λt=>Al t (gG w k) r
def jt(w h:Nat)(T:List Th)(o:Option P3):Nat:=Za (w*h)<|kz w T o
def G5(o:Option P3):Prop:=match o with|none=>True|some r=>RB r/\0<r.2.2
def Z2g{w h:Nat}(hw:0<w)(Kf:w<=60)(hh:h<=1000)(T:List Th)(Ds:List Dy){t:Th}(hg:Z3 t.1 t.2=true){r:P3}(hr:RB r)(hz:0<r.2.2):
 gh [.sh<|Z0 w h T Ds,.sh<|rl t,.sh<|c3 r]=.ret (.sh<|.int<|Qw w h r t):=by
 obtain⟨D,h1,h2⟩:=Z2G hw Kf hh T Ds hg hr hz;rw[h1,ZE h2];rfl
def Z3r{w h:Nat}(hw:0<w)(Kf:w<=60)(hh:h<=1000){T:List Th}(hT:T.length<=1000)(Ds:List Dy)(hg:∀t∈T,Z3 t.1 t.2=true){r:P3}(hr:RB r)(hz:0<r.2.2):
 aV [.sh<|Z0 w h T Ds,.sh<|c3 r]=.ret (.ow<|T.map λt=>.int<|Qw w h r t):=by
 have yt:=YD w h T Ds;have hc:=Ğ (g:=gN 2) (mt:=Ģ) (me:=Ú<|Ý gh<|Ì 0<|Ì 2<|Ì 1 Ø) rl (λt=>.int<|Qw w h r t) (λa=>∃s,a=[.sh<|Z0 w h T Ds,.sh<|c3 r,s]) T [.sh<|Z0 w h T Ds,.sh<|c3 r,.no] [] ⟨_,rfl⟩ (by simp;lia) (by
  rintro t ht a ⟨s,rfl⟩;have e:=Z2g hw Kf hh T Ds (hg t ht) hr hz;generalize Z0 w h T Ds=Y,c3 r=R at*;refine⟨_,_,_,rfl,rfl,by simp[e];rfl,_,rfl⟩)
 simp[aV,gA,ç,yt];simp at hc;simp[hc]
def V5{w h:Nat}(hw:0<w)(Kf:w<=60)(hh:h<=1000)(hwh:w*h<=1000){T:List Th}(hT:T.length<=1000)(Ds:List Dy)(hg:∀t∈T,Z3 t.1 t.2=true){o:Option P3}(ho:G5 o):
 kf [.sh<|Z0 w h T Ds,.sh<|ϒ o]=.ret (.sh<|.int<|jt w h T o):=by
 have yw:=Nv w h T Ds;have yh:=Qv w h T Ds;have mo:Ĭ (w:Int) (h:Int)=true:=ş (by lia) (by lia);cases o with
 |none=>
  obtain⟨B,b1,b2⟩:=YB (f:=0) (l:=(w:Int)*h-1) (w:=w*h) (by lia) (by rw[lu];lia) hwh;have:B=jt w h T none:=ZE λk=>by
   rw[b2];simp[kz];have:((w*h:Nat):Int)=(w:Int)*h:=by simp
   lia
  subst this;generalize Z0 w h T Ds=Y at*;simp[kf,yN,ç,ϒ,yw,yh,mo,b1,zu]
 |some r=>
  have ho:RB r/\0<r.2.2:=ho;have hd:=Z3r hw Kf hh hT Ds hg ho.1 ho.2;obtain⟨c,e1,D,s3,rfl,hD⟩:=cR (g:=gN 3) (mb:=yM) (λ(t:Th)=>PV.int<|Qw w h r t) (λ(b:List Th) (x:Th)=>x::b) (λb a=>∃(D:Nat) (s3:ŗ),a=[.sh<|Z0 w h T Ds,.sh<|c3 r,.sh<|.int D,s3]/\∀k,D.testBit k=true↔(k<w*h/\∃t∈b,Al t (gG w k) r=true)) T (by
   rintro t ht b a ⟨D,s3,rfl,hD⟩;refine⟨_,_,rfl,by simp[yM,Ss];exact⟨rfl,rfl⟩,_,_,rfl,λk=>?_⟩;rw[wP,gI,hD,Qw,Zm,ú,decide_eq_true_eq];simp;grind) [] [.sh<|Z0 w h T Ds,.sh<|c3 r,.sh<|.int ((0:Nat):Int),.no] ⟨0,.no,rfl,by simp⟩
  have:D=jt w h T (some r):=ZE λk=>by have:=hD k;rw[dZ,this];simp only[ZM,kz,aK,or_false,ú,decide_eq_true_eq,List.any_eq_true]
  subst this;have hn:ue (c3 r) .non=some (.bl false):=by simp[c3,zu]
  generalize Z0 w h T Ds=Y at*;show kf [.sh Y,.sh<|c3 r]=_;simp at e1;generalize c3 r=R at*;have hn:zu R=false:=by simpa using hn
  simp[kf,yN,ç,hd,hn,e1]
def Qx:Option Hu.Ln->PV
 |some l=>iE l|none=>.non
def Z2h{S:List Hu.Pt}{sl:ŗ}(hs:Sl sl (S.map pt))(hS:∀p∈S,Sm p)(h0:S≠[])(hl:S.length<=1000)(p:Hu.Pt):bj [sl,.sh<|pt p]=.ret (.sh<|Qx<|Hu.ZL S p):=by
 have h1:=Yp hs hS h0 hl;have e:(Hu.ZF S).findSome? (λl=>if Hu.hd l p=true then none else some l)=Hu.ZL S p:=by
  unfold Hu.ZL;generalize Hu.ZF S=L
  induction L with
  |nil=>rfl|cons l L ih=>
   rw[lB,da];cases q:Hu.hd l p with
   |true=>simpa using ih|false=>simp
 rcases iX (g:=gN 2) (mb:=cK) iE (λl=>if Hu.hd l p=true then none else some l) (λl=>.sh<|iE l) (λb=>∃s2,b=[sl,.sh<|pt p,s2]) (Hu.ZF S) (by
  rintro l hm b ⟨s2,rfl⟩;refine⟨[sl,.sh<|pt p,.sh<|iE l],by simp,?_⟩;have hh:=Yj (Yq hm hS) p;cases q:Hu.hd l p with
  |true=>rw[q]at hh;exact .inr ⟨[sl,.sh<|pt p,.sh<|iE l],by simp,by simp[cK,hh],_,rfl⟩|false=>rw[q]at hh;exact .inl ⟨l,[sl,.sh<|pt p,.sh<|iE l],by simp,by simp[cK,hh]⟩) [sl,.sh<|pt p,.no] ⟨_,rfl⟩with⟨l,a,q1,q2⟩|⟨a,q1,q2,_⟩
 ·rw[e]at q1;rw[q1];simp[bj,fh,hs.lend,h1,q2,Qx]
 ·rw[e]at q1;rw[q1];simp[bj,fh,hs.lend,h1,q2,Qx]
def Bp(q:Nat×Nat):PV:=.tup [.int q.1,.int q.2]
def G6(q:Nat×Nat×Nat):PV:=.tup [.int q.1,.int q.2.1,.int q.2.2]
def Z2H(j:Nat)(hj:j<=1000)(acc:List PV)(s0:ŗ)(ha:acc.length+j<=16777216):dH [s0,.ow acc,.sh<|.int j]=.ok .nx [s0,.ow<|acc++((ß j).map λi=>(i,j)).map Bp,.sh<|.int j]:=by
 have c1:ġ (gN 1) Ģ (ŵ<|É (é 1)<|É (é 0) å) ((ß j).map λ(i:Nat)=>PV.int (i:Int)) [.sh<|.int j,.no] []=some (((ß j).map λi=>(i,j)).map Bp):=by
  have:=Ğ (g:=gN 1) (mt:=Ģ) (me:=ŵ<|É (é 1)<|É (é 0) å) (λ(i:Nat)=>PV.int (i:Int)) (λi=>Bp (i,j)) (λa=>∃s,a=[.sh<|.int j,s]) (ß j) [.sh<|.int j,.no] [] ⟨_,rfl⟩ (by simp;lia) (by
   rintro x hx a ⟨s,rfl⟩;exact⟨[.sh<|.int j,.sh<|.int x],[.sh<|.int j,.sh<|.int x],[.sh<|.int j,.sh<|.int x],by simp,by simp,by simp[Bp],_,rfl⟩)
  rw[this,ę];rfl
 have hl:acc.length+(((ß j).map λi=>(i,j)).map Bp).length<=16777216:=by simpa using ha
 generalize ((ß j).map λi=>(i,j)).map Bp=qs at c1 hl;simp[dH,Zr hj,c1,hl]
def YE{n i:Nat}{p:PV}(h:((ß n).map λ(i:Nat)=>PV.int (i:Int))[i]?=some p):i<n/\p=.int i:=by
 rw[ů]at h;by_cases hi:i<n
 ·simp[hi]at h;exact⟨hi,h.symm⟩
 ·simp[hi]at h
def YF(n:Nat)(hn:n<=100):∃L:List (Nat×Nat),cr [.sh<|.int n]=.ret (.ow<|L.map Bp)/\L.length<=n*100/\∀q∈L,q.1<n/\q.2<n:=by
 obtain⟨a,e,L,s2,rfl,h1,h2⟩:=zD (g:=gN 2) (mb:=dH) (items:=(ß n).map λ(i:Nat)=>PV.int (i:Int)) (ρ:=[.sh<|.int n,.ow [],.no])
  (λi ρ=>∃(L:List (Nat×Nat)) (s2:ŗ),ρ=[.sh<|.int n,.ow<|L.map Bp,s2]/\L.length<=i*100/\∀q∈L,q.1<n/\q.2<n) ⟨[],.no,rfl,by simp,by simp⟩ (by
  rintro i p ρ hi ⟨L,s2,rfl,h1,h2⟩;obtain⟨SV,rfl⟩:=YE hi;clear hi;refine⟨_,_,rfl,Z2H i (by lia) (L.map Bp) _ (by rw[Ę];lia),L++(ß i).map λj=>(j,i),_,by rw[Ĝ],by simp;lia,λq hq=>?_⟩;rcases Ů.mp hq with h|h
  ·exact h2 q h
  ·obtain⟨j,hj,rfl⟩:=Đ.mp h;have:=Ţ.mp hj;exact⟨by dsimp only;lia,SV⟩)
 have hr:=Zr (show n<=1000 by lia);refine⟨L,by simp[cr,k_,ç,hr,e],?_,h2⟩;simpa using h1
def Z1M(k:Nat)(hk:k<=100)(acc:List PV)(s0:ŗ)(ha:acc.length<=10000000):∃L:List (Nat×Nat×Nat),bM [s0,.ow acc,.sh<|.int k]=.ok .nx [s0,.ow<|acc++L.map G6,.sh<|.int k]/\L.length<=10000/\∀q∈L,q.1<k/\q.2.1<k/\q.2.2=k:=by
 obtain⟨L,hp,hlen,hL⟩:=YF k hk;have c1:ġ (gN 1) Ģ (ŵ<|É (Ê æ (Â 1)<|Ç 0)<|É (Ê æ (Â 1)<|Ç 1)<|É (é 0) å) (L.map Bp) [.sh<|.int k,.no] []=some ((L.map λq=>(q.1,q.2,k)).map G6):=by
  have:=Ğ (g:=gN 1) (mt:=Ģ) (me:=ŵ<|É (Ê æ (Â 1)<|Ç 0)<|É (Ê æ (Â 1)<|Ç 1)<|É (é 0) å) Bp (λq=>G6 (q.1,q.2,k)) (λa=>∃s,a=[.sh<|.int k,s]) L [.sh<|.int k,.no] [] ⟨_,rfl⟩ (by simp;lia) (by
   rintro x hx a ⟨s,rfl⟩;exact⟨[.sh<|.int k,.sh<|Bp x],_,[.sh<|.int k,.sh<|Bp x],by simp,rfl,by simp[Bp,G6],_,rfl⟩)
  rw[this,ę];rfl
 refine⟨L.map λq=>(q.1,q.2,k),?_,by simp;lia,λq hq=>?_⟩
 ·have hl:acc.length+((L.map λq=>(q.1,q.2,k)).map G6).length<=16777216:=by simp;lia
  generalize (L.map λq=>(q.1,q.2,k)).map G6=qs at c1 hl;simp[bM,hp,c1,hl]
 ·obtain⟨x,hx,rfl⟩:=Đ.mp hq;exact⟨(hL x hx).1,(hL x hx).2,rfl⟩
def Z2i(n:Nat)(hn:n<=100):∃L:List (Nat×Nat×Nat),cL [.sh<|.int n]=.ret (.ow<|L.map G6)/\∀q∈L,q.1<n/\q.2.1<n/\q.2.2<n:=by
 obtain⟨a,e,L,s2,rfl,h1,h2⟩:=zD (g:=gN 2) (mb:=bM) (items:=(ß n).map λ(i:Nat)=>PV.int (i:Int)) (ρ:=[.sh<|.int n,.ow [],.no])
  (λi ρ=>∃(L:List (Nat×Nat×Nat)) (s2:ŗ),ρ=[.sh<|.int n,.ow<|L.map G6,s2]/\L.length<=i*10000/\∀q∈L,q.1<n/\q.2.1<n/\q.2.2<n) ⟨[],.no,rfl,by simp,by simp⟩ (by
  rintro i p ρ hi ⟨L,s2,rfl,h1,h2⟩;obtain⟨SV,rfl⟩:=YE hi;clear hi;obtain⟨L',e,h3,h4⟩:=Z1M i (by lia) (L.map G6) (.sh<|.int n) (by rw[Ę];lia);refine⟨_,_,rfl,e,L++L',_,by rw[Ĝ],by simp;lia,λq hq=>?_⟩;rcases Ů.mp hq with h|h
  ·exact h2 q h
  ·have:=h4 q h;lia)
 have hr:=Zr (show n<=1000 by lia);exact⟨L,by simp[cL,jj,ç,hr,e],h2⟩
def W(x:Int):Prop:=-100000000000000000000000000000000000000000000000000<x/\x<100000000000000000000000000000000000000000000000000
theorem W.bits{x:Int}(h:W x):bits x<=200:=pj (n:=200) (by have:=h.1;lia) (by have:=h.2;lia)
def Kg{a b:Int}(h1: -100000000000000000<=a)(h2:a<=100000000000000000)(h3: -100000000000000000<=b)(h4:b<=100000000000000000): -200000000000000000<=a-b/\a-b<=200000000000000000:=by lia
def Nw{a b c d:Int}(h1: -c<=a)(h2:a<=c)(h3: -d<=b)(h4:b<=d)(hc:0<=c)(hd:0<=d): -(c*d)<=a*b/\a*b<=c*d:=by have e1:(a*b).natAbs=a.natAbs*b.natAbs:=rG a b;have e2:a.natAbs*b.natAbs<=c.natAbs*d.natAbs:=eA (by lia) (by lia);have e3:(c*d).natAbs=c.natAbs*d.natAbs:=rG c d;have e4:0<=c*d:=wr hc hd;lia
def V6{a b c:Hu.Pt}(ha:Sm a)(hb:Sm b)(hc:Sm c):jl [.sh<|pt a,.sh<|pt b,.sh<|pt c]=.ret (.sh<|.int<|Hu.tn a b c):=by obtain⟨a1,a2,a3,a4⟩:=ha;obtain⟨b1,b2,b3,b4⟩:=hb;obtain⟨c1,c2,c3,c4⟩:=hc;have m1:Ĭ (b.1-a.1) (c.2-a.2)=true:=ş (by lia) (by lia);have m2:Ĭ (b.2-a.2) (c.1-a.1)=true:=ş (by lia) (by lia);simp[jl,wf,pt,Hu.tn,m1,m2]
def V7{a b c:Hu.Pt}(ha:Sm a)(hb:Sm b)(hc:Sm c): -80000000000000000000000000000000000<=Hu.tn a b c/\Hu.tn a b c<=80000000000000000000000000000000000:=by obtain⟨a1,a2,a3,a4⟩:=ha;obtain⟨b1,b2,b3,b4⟩:=hb;obtain⟨c1,c2,c3,c4⟩:=hc;obtain⟨x1,x2⟩:=Kg b1 b2 a1 a2;obtain⟨y1,y2⟩:=Kg c3 c4 a3 a4;obtain⟨z1,z2⟩:=Kg b3 b4 a3 a4;obtain⟨w1,w2⟩:=Kg c1 c2 a1 a2;obtain⟨p1,p2⟩:=Nw x1 x2 y1 y2 (by decide) (by decide);obtain⟨q1,q2⟩:=Nw z1 z2 w1 w2 (by decide) (by decide);unfold Hu.tn;lia
def Z3t{a b c p:Hu.Pt}(ha:Sm a)(hb:Sm b)(hc:Sm c)(hp:Sm p):ϣ [.sh<|.lst [pt a,pt b,pt c],.sh<|pt p]=.ret (.ow<|(Hu.Nt a b c p).map .int):=by simp[ϣ,gB,ç,V6 hp hb hc,V6 ha hp hc,V6 ha hb hp,Hu.Nt]
def Z54{a b p:Hu.Pt}(ha:Sm a)(hb:Sm b)(hp:Sm p):av [.sh<|.lst [pt a,pt b],.sh<|pt p]=.ret (.ow<|(Hu.Nu a b p).map .int):=by obtain⟨a1,a2,a3,a4⟩:=ha;obtain⟨b1,b2,b3,b4⟩:=hb;obtain⟨c1,c2,c3,c4⟩:=hp;have m1:∀x,Ĭ (b.1-a.1) x=true:=λx=>ş (by lia) (by lia);have m2:∀x,Ĭ (b.2-a.2) x=true:=λx=>ş (by lia) (by lia);simp[av,jm,ç,pt,Hu.Nu,m1,m2]
def Z5z{a b c p:Hu.Pt}(ha:Sm a)(hb:Sm b)(hc:Sm c)(hp:Sm p):∀s∈Hu.Nt a b c p,-400000000000000000000000000000000000<=s/\s<=400000000000000000000000000000000000:=by have h1:=V7 hp hb hc;have h2:=V7 ha hp hc;have h3:=V7 ha hb hp;intro s hs;simp only[Hu.Nt,þ,aK,or_false]at hs;rcases hs with e|e|e<;>lia
def Z5A{a b p:Hu.Pt}(ha:Sm a)(hb:Sm b)(hp:Sm p):∀s∈Hu.Nu a b p,-400000000000000000000000000000000000<=s/\s<=400000000000000000000000000000000000:=by obtain⟨a1,a2,a3,a4⟩:=ha;obtain⟨b1,b2,b3,b4⟩:=hb;obtain⟨c1,c2,c3,c4⟩:=hp;obtain⟨x1,x2⟩:=Kg b1 b2 a1 a2;obtain⟨z1,z2⟩:=Kg b3 b4 a3 a4;obtain⟨y1,y2⟩:=Kg c1 c2 a1 a2;obtain⟨w1,w2⟩:=Kg c3 c4 a3 a4;obtain⟨p1,p2⟩:=Nw x1 x2 y1 y2 (by decide) (by decide);obtain⟨q1,q2⟩:=Nw z1 z2 w1 w2 (by decide) (by decide);obtain⟨r1,r2⟩:=Nw x1 x2 x1 x2 (by decide) (by decide);obtain⟨t1,t2⟩:=Nw z1 z2 z1 z2 (by decide) (by decide);intro s hs;simp only[Hu.Nu,þ,aK,or_false]at hs;rcases hs with e|e<;>lia
def MC(w:List Int):Prop:=w.length<=3/\∀s∈w,-400000000000000000000000000000000000<=s/\s<=400000000000000000000000000000000000
theorem MC.sum{w:List Int}(h:MC w): -2000000000000000000000000000000000000<=w.sum/\w.sum<=2000000000000000000000000000000000000:=by
 obtain⟨h1,h2⟩:=h
 match w,h1,h2 with
 |[],_,_=>simp|[a],_,h2=>have:=h2 a (by simp);simp;lia|[a,b],_,h2=>have:=h2 a (by simp);have:=h2 b (by simp);simp;lia|[a,b,c],_,h2=>have:=h2 a (by simp);have:=h2 b (by simp);have:=h2 c (by simp);simp;lia
def V8{x:Int}(h1: -2000000000000000000000000000000000000<=x)(h2:x<=2000000000000000000000000000000000000):bits x<=200:=pj (n:=200) (by lia) (by lia)
def Z5B{w:List Int}(h:MC w){sl:ŗ}(hs:Sl sl (w.map .int)):∃b,ϧ [sl]=.ret (.sh<|.bl b)/\(b=true->w.sum≠0):=by
 obtain⟨s1,s2⟩:=h.sum;have hb:=V8 s1 s2;have c1:=Ğ (g:=gN 1) (mt:=Ģ) (me:=Ê Il (Ê ą (Â 1)<|Â 0)<|Ç 0) PV.int (λs=>.bl<|decide<|0<=s*w.sum) (λa=>∃s,a=[.sh<|.int w.sum,s]) w [.sh<|.int w.sum,.no] [] ⟨_,rfl⟩ (by have:=h.1;simp;lia) (by
  rintro x hx a ⟨s,rfl⟩;have hx':=h.2 x hx;have hm:Ĭ x w.sum=true:=O1 (ř (V8 (by lia)<|by lia)<|by decide) (ř hb<|by decide);exact⟨[.sh<|.int w.sum,.sh<|.int x],_,[.sh<|.int w.sum,.sh<|.int x],by simp,rfl,by simp[hm],_,rfl⟩)
 have c2:=Sn<|w.map λs=>decide<|0<=s*w.sum;rw[ę]at c2;change pb [.lst<|w.map λs=>PV.bl<|decide<|0<=s*w.sum]=_ at c2;have rz:yo [.lst<|w.map .int]=some (.int w.sum):=by simp
 unfold Sl at hs;rw[ϕ]at c1;generalize (w.map λs=>PV.bl<|decide<|0<=s*w.sum)=bs at c1 c2;generalize (w.map λs=>decide<|0<=s*w.sum).all id=q at c2;generalize w.map PV.int=ws at c1 rz hs;generalize w.sum=S at c1 rz;by_cases h0:S=0
 ·subst h0;refine⟨false,?_,nofun⟩;rcases hs with rfl|rfl<;>simp[ϧ,gC,ç,-ik,rz]
 ·refine⟨q,?_,λ_=>h0⟩;rcases hs with rfl|rfl<;>simp[ϧ,gC,ç,-ik,rz,c1,c2,h0]
def YG(x y:Int):aj [.sh<|.int x,.sh<|.int y]=.ret (.sh<|.int<|My.gd x y):=by
 obtain⟨⟨u,v,r⟩,e1,e2,e3⟩:=A0 (mc:=(ay<|Ê cO (Â 1)<|Ç 0)) (mb:=(è (ý 2<|Ļ<|Ê ĥ (Â 0)<|Â 1)<|è (ý 0<|Ļ<|é 1)<|ý 1<|Ļ<|é 2))
  (fun b:Int×Int×ŗ=>[.sh<|.int b.1,.sh<|.int b.2.1,b.2.2]) (fun b=>My.gd b.1 b.2.1=My.gd x y) (fun b=>b.2.1.natAbs) (b:=(x,y,.no)) (by
    rintro ⟨u,v,r⟩ e;by_cases hv:v=0
    ·left;simp[hv]
    ·right;exact⟨by simp[hv],(v,u.fmod v,.sh<|.int<|u.fmod v),by simp[hv],(My.Z48 u v).trans e,My.Z49 u hv⟩) rfl
 have hv:v=0:=by simpa using e3
 subst hv;have W_:fw [.sh<|.int x,.sh<|.int y,.no]=_:=e1;simp[aj,fA,W_,<-e2,My.Z4a]
def Z4k(t:Int){b:Int}{n:Nat}(h:b≠0)(hb:bits b<=n):bits (My.gd t b)<=n:=by refine intBits_le_of_natAbs ?_ hb;have h1:=My.Z5x t h;have h2:=My.Z2w t b;lia
def rt(t b:Int):Int×Int:=(t.fdiv<|My.dv t b,b.fdiv<|My.dv t b)
def YH{t b:Int}(h:b≠0)(hz:bits b<=8000):kg [.sh<|.int t,.sh<|.int b]=.ret (.sh<|pt<|rt t b):=by
 have g1:=Z4k t h hz;have g0:=My.Z4R t h;by_cases hn:b<0
 ·have e:My.dv t b= -My.gd t b:=if_pos hn;have c:∀i,kK i (-My.gd t b)=true:=λi=>zB (by lia)<|intBits_neg_le g1;simp[kg,uI,h,YG,hn,c,e,pt,rt]
 ·have e:My.dv t b=My.gd t b:=if_neg hn;have c:∀i,kK i (My.gd t b)=true:=λi=>zB (by lia) g1;simp[kg,uI,h,YG,hn,c,e,pt,rt]
def YI{w:List Int}{q:List Nat}{n:Nat}(hw:MC w)(h0:w.sum≠0)(hq:∀i∈q,i<n)(hn:n<=100){s0 s1:ŗ}(Xm:Sl s0 (w.map .int))(Xn:s1=.sh (.lst<|q.map λ(i:Nat)=>.int (i:Int))\/s1=.sh (.tup<|q.map λ(i:Nat)=>.int (i:Int))):
 ∃ws,cu [s0,s1,.sh<|.int n]=.ret (.ow ws):=by
 obtain⟨b1,b2⟩:=hw.sum;have hb:=ř (V8 b1 b2) (show 200<=8000 by decide);have rz:yo [.lst<|w.map .int]=some (.int w.sum):=by simp
 have c1:=Ğ (g:=gN 1) (mt:=Ģ) (me:=Ú<|Ý kg<|à (Ç 0)<|Ì 0 Ø) (λ(i:Nat)=>PV.int (i:Int)) (λ_=>pt<|rt 0 w.sum) (λb=>∃s,b=[.sh<|.int w.sum,s]) (ß n) [.sh<|.int w.sum,.no] [] ⟨_,rfl⟩ (by simp;lia) (by
  rintro x hx b ⟨s,rfl⟩;exact⟨[.sh<|.int w.sum,.sh<|.int x],_,[.sh<|.int w.sum,.sh<|.int x],by simp,rfl,by simp[YH h0 hb],_,rfl⟩)
 rw[ϕ]at c1;have hz:pf (w.map .int) (q.map λ(i:Nat)=>PV.int (i:Int))=(w.zip q).map λa=>.tup [.int a.1,.int (a.2:Int)]:=by
  clear hw h0 hq Xm Xn rz c1 hb b1 b2
  induction w generalizing q with
  |nil=>simp[pf]|cons x w ih=>
   cases q with
   |nil=>simp[pf]|cons i q=>simp[pf,ih]
 have loop:∀Nx NK (zs:List PV),zs.length=n->∃vs s5 s6,ĺ (gT 2<|ð (gN 5)<|ð (gN 6) ű) mL ((w.zip q).map λa=>.tup [.int a.1,.int (a.2:Int)]) [Nx,NK,.sh<|.int n,.sh<|.int w.sum,.ow zs,.no,.no]=.ok .nx [Nx,NK,.sh<|.int n,.sh<|.int w.sum,.ow vs,s5,s6]:=by
  intro Nx NK zs G_;obtain⟨c,e,vs,s5,s6,rfl,_⟩:=cR (g:=gT 2<|ð (gN 5)<|ð (gN 6) ű) (mb:=mL) (λa:Int×Nat=>.tup [.int a.1,.int (a.2:Int)]) (λ(u:Unit) _=>u)
   (fun _ b=>∃vs s5 s6,b=[Nx,NK,.sh<|.int n,.sh<|.int w.sum,.ow vs,s5,s6]∧vs.length=n) (w.zip q) (by
     rintro ⟨x,i⟩ hx _ b ⟨vs,s5,s6,rfl,hlen⟩;have hi:i<n:=hq i (rM hx).2;have hix:DH vs.length (i:Int)=some i:=by unfold DH;rw[if_pos (by lia),if_pos<|by lia];simp
     refine⟨[Nx,NK,.sh<|.int n,.sh<|.int w.sum,.ow vs,.sh<|.int x,.sh<|.int i],[Nx,NK,.sh<|.int n,.sh<|.int w.sum,.ow<|vs.set i<|pt<|rt x w.sum,.sh<|.int x,.sh<|.int i],by simp,?_,_,_,_,rfl,by simpa using hlen⟩;simp[mL,YH h0 hb,hix]) () _ ⟨zs,_,_,rfl,G_⟩
  exact⟨_,_,_,e⟩
 have hr:=Zr (show n<=1000 by lia);have G_:((ß n).map λ_=>pt<|rt 0 w.sum).length=n:=by simp
 generalize ((ß n).map λ_=>pt<|rt 0 w.sum)=zs at c1 G_;generalize ((w.zip q).map λa=>PV.tup [.int a.1,.int (a.2:Int)])=ls at hz loop;generalize w.map PV.int=ws at Xm rz hz;generalize w.sum=S at rz c1 loop;generalize (q.map λ(i:Nat)=>PV.int (i:Int))=qs at hz Xn;rcases Xm with rfl|rfl<;>rcases Xn with rfl|rfl
 ·obtain⟨vs,s5,s6,e⟩:=loop (.sh<|.lst ws) (.sh<|.lst qs) zs G_;exact⟨vs,by simp[cu,jk,ç,-ik,rz,hr,c1,hz,D6,e]⟩
 ·obtain⟨vs,s5,s6,e⟩:=loop (.sh<|.lst ws) (.sh<|.tup qs) zs G_;exact⟨vs,by simp[cu,jk,ç,-ik,rz,hr,c1,hz,D6,e]⟩
 ·obtain⟨vs,s5,s6,e⟩:=loop (.bw ws) (.sh<|.lst qs) zs G_;exact⟨vs,by simp[cu,jk,ç,-ik,rz,hr,c1,hz,D6,e]⟩
 ·obtain⟨vs,s5,s6,e⟩:=loop (.bw ws) (.sh<|.tup qs) zs G_;exact⟨vs,by simp[cu,jk,ç,-ik,rz,hr,c1,hz,D6,e]⟩
def xW{S:List Hu.Pt}{i:Nat}(h:i<S.length):(S.map pt)[i]?=some (pt<|Hu.at_ S i):=by unfold Hu.at_;rw[ů,aJ,ţ h];rfl
def Sl.cap{s:ŗ}{ps:List PV}(h:Sl s ps):x_ s=s:=by rcases h with rfl|rfl<;>rfl
def Z55{a b c p:Hu.Pt}(ha:Sm a)(hb:Sm b)(hc:Sm c)(hp:Sm p):MC (Hu.Nt a b c p):=⟨by simp[Hu.Nt],Z5z ha hb hc hp⟩
def Z56{a b p:Hu.Pt}(ha:Sm a)(hb:Sm b)(hp:Sm p):MC (Hu.Nu a b p):=⟨by simp[Hu.Nu],Z5A ha hb hp⟩
def bW(m:MF):M Fl:=è (ý 4<|Ý m<|à (Ú<|Ī [0] 1 (ī 3) (gN 1) Ģ (Ê æ (Â 0)<|Â 1))<|Ì 1 Ø)<|a_ (cM<|Ú<|Ý ϧ<|Ì 4 Ø) (Ā<|Ý cu<|Ì 4<|Ì 3<|Ì 2 Ø) cY
section
variable{S:List Hu.Pt}{sl:ŗ}{m:MF}{p:Hu.Pt}
def YJ(hs:Sl sl (S.map pt))(hl:S.length<=100){q:List Nat}{w:List Int}(hq:∀i∈q,i<S.length)(hz:q.length<=3)(hm:m [.sh<|.lst<|q.map λi=>pt<|Hu.at_ S i,.sh<|pt p]=.ret (.ow<|w.map .int))(hb:MC w)(s4:ŗ):
 (∃ws a,bW m [sl,.sh<|pt p,.sh<|.int S.length,.sh<|.tup<|q.map λ(i:Nat)=>.int (i:Int),s4]=.ok (.rt<|.ow ws) a)\/∃s3 s,bW m [sl,.sh<|pt p,.sh<|.int S.length,.sh<|.tup<|q.map λ(i:Nat)=>.int (i:Int),s4]=.ok .nx [sl,.sh<|pt p,.sh<|.int S.length,s3,s]:=by
 have e0:=Ğ (g:=gN 1) (mt:=Ģ) (me:=Ê æ (Â 0)<|Â 1) (λ(i:Nat)=>PV.int (i:Int)) (λi=>pt<|Hu.at_ S i) (λa=>∃s,a=[sl,s]) q [sl,.no] [] ⟨_,rfl⟩ (by simp;lia) (by
  rintro i hi a ⟨s,rfl⟩;exact⟨[sl,.sh<|.int i],_,[sl,.sh<|.int i],by simp,rfl,by rcases hs with rfl|rfl<;>simp[xW<|hq i hi,-ů],_,rfl⟩)
 obtain⟨b,e2,hw⟩:=Z5B hb (sl:=.bw<|w.map .int)<|.inr rfl;rw[ϕ]at e0;have e3:=λh=>YI (q:=q) (n:=S.length) hb h hq hl (s0:=.bw<|w.map .int) (s1:=.sh<|.tup<|q.map λ(i:Nat)=>.int (i:Int)) (.inr rfl)<|.inr rfl;generalize (q.map λ(i:Nat)=>PV.int (i:Int))=qs,w.map PV.int=ws at*;cases b with
 |true=>obtain⟨vs,e4⟩:=e3<|hw rfl;exact .inl ⟨vs,[sl,.sh<|pt p,.sh<|.int S.length,.sh<|.tup qs,.ow ws],by simp[bW,hs.cap,e0,hm,e2,e4]⟩|false=>exact .inr ⟨.sh<|.tup qs,.ow ws,by simp[bW,hs.cap,e0,hm,e2]⟩
def YK{α:Type}{c:α->PV}{L:List α}(h:∀x∈L,∀s4,(∃ws d,bW m [sl,.sh<|pt p,.sh<|.int S.length,.sh<|c x,s4]=.ok (.rt<|.ow ws) d)\/∃s3 s,bW m [sl,.sh<|pt p,.sh<|.int S.length,.sh<|c x,s4]=.ok .nx [sl,.sh<|pt p,.sh<|.int S.length,s3,s])(s3 s4:ŗ):
 (∃ws d,ĺ (gN 3) (bW m) (L.map c) [sl,.sh<|pt p,.sh<|.int S.length,s3,s4]=.ok (.rt<|.ow ws) d)\/∃EC C5,ĺ (gN 3) (bW m) (L.map c) [sl,.sh<|pt p,.sh<|.int S.length,s3,s4]=.ok .nx [sl,.sh<|pt p,.sh<|.int S.length,EC,C5]:=by
 refine zC (λ_ d=>∃s3 s4,d=[sl,.sh<|pt p,.sh<|.int S.length,s3,s4]) (λr=>(∃ws d,r=.ok (.rt<|.ow ws) d)\/∃EC C5,r=.ok .nx [sl,.sh<|pt p,.sh<|.int S.length,EC,C5]) ⟨_,_,rfl⟩ ?_ (by rintro d ⟨a,b,rfl⟩;exact .inr ⟨_,_,rfl⟩);rintro i v d hi ⟨s3,s4,rfl⟩;rw[ů]at hi;cases hx:L[i]?with
 |none=>rw[hx]at hi;cases hi|some x=>
  rw[hx]at hi;cases hi;rcases h x (wz hx) s4 with⟨ws,d,e⟩|⟨a,b,e⟩
  ·exact⟨_,rfl,.inr<|.inl ⟨_,_,e,.inl ⟨_,_,rfl⟩⟩⟩
  ·exact⟨_,rfl,.inl ⟨_,.inl e,_,_,rfl⟩⟩
def Z2j(hs:Sl sl (S.map pt))(hS:∀p∈S,Sm p)(h0:S≠[])(hl:S.length<=100)(hp:Sm p):∃ws,bN [sl,.sh<|pt p]=.ret (.ow ws):=by
 have Hj:∀i,i<S.length->Sm (Hu.at_ S i):=λi h=>hS _<|Hu.Z4S h;obtain⟨L3,ht,h3⟩:=Z2i S.length hl;obtain⟨L2,hpr,_,h2⟩:=YF S.length hl;have hlen:aX [.lst<|S.map pt]=some (.int S.length):=by simp
 have F3:=YK (m:=ϣ) (c:=G6) (L:=L3) (p:=p) (λx hx=>by obtain⟨a,b,c⟩:=h3 x hx;exact YJ hs hl (q:=[x.1,x.2.1,x.2.2]) (by simp[a,b,c]) (by simp) (Z3t (Hj _ a) (Hj _ b) (Hj _ c) hp)<|Z55 (Hj _ a) (Hj _ b) (Hj _ c) hp);have F2:=YK (m:=av) (c:=Bp) (L:=L2) (p:=p) (λx hx=>by obtain⟨a,b⟩:=h2 x hx;exact YJ hs hl (q:=[x.1,x.2]) (by simp[a,b]) (by simp) (Z54 (Hj _ a) (Hj _ b) hp)<|Z56 (Hj _ a) (Hj _ b) hp);obtain⟨vs,e1⟩:=YI (w:=[1]) (q:=[0]) (n:=S.length) ⟨by simp,by simp⟩ (by simp) (by simpa using BE.mpr h0) hl (s0:=.sh<|.lst [.int 1]) (s1:=.sh<|.lst [.int 0]) (.inl rfl)<|.inl rfl;change ∀s3 s4,(∃ws d,ĺ (gN 3) iK _ _=_)\/∃EC C5,ĺ (gN 3) iK _ _=_ at F3;change ∀s3 s4,(∃ws d,ĺ (gN 3) iJ _ _=_)\/∃EC C5,ĺ (gN 3) iJ _ _=_ at F2;rcases F3 .no .no with⟨ws,d,q2⟩|⟨s3,s4,q2⟩
 ·exact⟨ws,by rcases hs with rfl|rfl<;>simp[bN,eQ,ç,-yn,hlen,ht,q2]⟩
 ·rcases F2 s3 s4 with⟨ws,d,q4⟩|⟨EC,C5,q4⟩
  ·exact⟨ws,by rcases hs with rfl|rfl<;>simp[bN,eQ,ç,-yn,hlen,ht,hpr,q2,q4]⟩
  ·exact⟨vs,by rcases hs with rfl|rfl<;>simp[bN,eQ,ç,-yn,hlen,ht,hpr,q2,q4,e1]⟩
def Z4l(hs:Sl sl (S.map pt))(hS:∀p∈S,Sm p)(h0:S≠[])(hl:S.length<=100)(hp:Sm p):∃Y,uJ [sl,.sh<|pt p]=.ret (.sh<|.tup [.str<|if(Hu.ZL S p).isNone then "in"else "out",Y]):=by
 have h1:=Z2h hs hS h0 (by lia) p;cases e:Hu.ZL S p with
 |some l=>rw[e]at h1;exact⟨iE l,by simp[uJ,yO,hs.lend,h1,Qx,iE,zu]⟩|none=>obtain⟨ws,h2⟩:=Z2j hs hS h0 hl hp;rw[e]at h1;exact⟨.lst ws,by simp[uJ,yO,hs.lend,h1,Qx,h2,zu]⟩
end
def Z3u{r:P3}(hr:RB r)(s:Hu.Pt):gb [.sh<|pt s,.sh<|c3 r]=.ret (.sh<|pt<|p_ r<|Av s):=by have e:=Yx hr<|Av s;have e':PV.tup [.int<|2*s.1,.int<|2*s.2,.int 0]=c3 (Av s):=rfl;unfold pt;simp[gb,nj,e',e];rfl
def Z2k{w:Str}{xs:List Int}(hg:Z3 w xs=true){r:P3}(hr:RB r){s:Hu.Pt}(hs:PB (Av s)):∃Y,mM [.sh<|Ze (Zl w) w xs,.sh<|pt s,.sh<|c3 r]=.ret (.sh<|.tup [.str<|if(Hu.ZL ((Zo w xs).map (p_ r))<|p_ r<|Av s).isNone then "in"else "out",Y]):=by
 obtain⟨g1,g2,g3⟩:=YA hg;have h1:=Yy hg (by lia) hr;have h2:=Z3u hr s;obtain⟨Y,h3⟩:=Z4l (S:=(Zo w xs).map (p_ r)) (sl:=.sh<|.lst<|((Zo w xs).map (p_ r)).map pt) (.inl rfl) (by
  intro p hp;obtain⟨q,hq,rfl⟩:=Đ.mp hp;exact V1 hr<|g3 q hq) (by simpa using g2) (by simp;lia) (p:=p_ r<|Av s)<|V1 hr hs
 refine⟨Y,?_⟩;generalize ((Zo w xs).map (p_ r)).map pt=Z,hp:pt (p_ r<|Av s)=p,Ze (Zl w) w xs=v,c3 r=R,pt s=Q at*;simp[mM,uK,h1,h2,h3]
def V9:Ě (Å "in")=true:=by decide+kernel
def Z5W:Ě (Å "out")=true:=by decide+kernel
def dIO:(Å "out"=Å "in")=False:=eq_false (by decide+kernel)
def Z2I{w:Str}{xs:List Int}(hg:Z3 w xs=true){r:P3}(hr:RB r){s:Hu.Pt}(hs:PB (Av s)):jo [.sh<|Ze (Zl w) w xs,.sh<|pt s,.sh<|c3 r]=.ret (.sh<|.bl<|Sr w xs s r):=by
 obtain⟨Y,h1⟩:=Z2k hg hr hs;unfold Sr;cases e:Hu.ZL ((Zo w xs).map (p_ r)) (p_ r<|Av s)with
 |none=>rw[e]at h1;simp[jo,qu,h1,Ź V9 V9]|some l=>rw[e]at h1;simp[jo,qu,h1,Ź Z5W V9,dIO]
structure Ew(w h:Nat)(T:List Th):Prop where
 w0:0<w
 w1:w<=60
 h1:h<=1000
 wh:w*h<=1000
 tl:T.length<=1000
 tg:∀t∈T,Z3 t.1 t.2=true
def Z57{w k n:Nat}(hk:k<1000):PB (Av<|gG w k):=by have h1:k%w<=k:=Nat.mod_le k w;have h2:k/w<=k:=Nat.div_le_self k w;unfold PB Av gG;dsimp only;generalize k%w=a,k/w=b at*;lia
def YL{w h:Nat}{T:List Th}(Y:Ew w h T)(D:List Dy){o:Option P3}(ho:G5 o){k:Nat}(hk:k<1000):aB [.sh<|Z0 w h T D,.sh<|ϒ o,.sh<|pt<|gG w k]=.ret (.sh<|.bl<|kz w T o k):=by
 cases o with
 |none=>generalize Z0 w h T D=Yv at*;simp[aB,ki,ϒ,zu,kz]|some r=>
  have ho:RB r/\0<r.2.2:=ho;have yt:=YD w h T D;have e:T.findSome? (λt=>if Al t (gG w k) r=true then some ()else none)=if(T.any λt=>Al t (gG w k) r)=true then some ()else none:=by
   generalize T=T'
   induction T' with
   |nil=>rfl|cons t T' ih=>
    rw[lB,bt];cases q:Al t (gG w k) r with
    |true=>simp|false=>rw[wp,<-ih];simp
  have hn:zu (c3 r)=false:=by simp[c3,zu]
  rcases iX (g:=gN 3) (mb:=kh) rl (λt=>if Al t (gG w k) r=true then some ()else none) (λ_=>.sh<|.bl true) (λb=>∃s,b=[.sh<|Z0 w h T D,.sh<|c3 r,.sh<|pt<|gG w k,s]) T (by
   rintro t ht b ⟨s,rfl⟩;have es:jo [.sh<|rl t,.sh<|pt<|gG w k,.sh<|c3 r]=.ret (.sh<|.bl<|Al t (gG w k) r):=Z2I (Y.tg t ht) ho.1<|Z57 (n:=0) hk;refine⟨[.sh<|Z0 w h T D,.sh<|c3 r,.sh<|pt<|gG w k,.sh<|rl t],rfl,?_⟩;generalize Z0 w h T D=Yv,c3 r=R,rl t=Tv,hP:pt (gG w k)=Pv at*;cases q:Al t (gG w k) r with
   |true=>rw[q]at es;exact .inl ⟨(),[.sh Yv,.sh R,.sh Pv,.sh Tv],by simp,by simp[kh,es]⟩|false=>rw[q]at es;exact .inr ⟨[.sh Yv,.sh R,.sh Pv,.sh Tv],by simp,by simp[kh,es],_,rfl⟩) [.sh<|Z0 w h T D,.sh<|c3 r,.sh<|pt<|gG w k,.no] ⟨_,rfl⟩with⟨_,a,q1,q2⟩|⟨a,q1,q2,_⟩
  ·rw[e]at q1;have hd:kz w T (some r) k=true:=by
    show(T.any λt=>Al t (gG w k) r)=true;cases q:T.any (λt=>Al t (gG w k) r)with
    |true=>rfl|false=>rw[q]at q1;simp at q1
   rw[hd];show aB [_,.sh<|c3 r,_]=_;generalize Z0 w h T D=Yv,c3 r=R,pt (gG w k)=Pv at*;simp[aB,ki,hn,yt,q2]
  ·rw[e]at q1;have hd:kz w T (some r) k=false:=by
    show(T.any λt=>Al t (gG w k) r)=false;cases q:T.any (λt=>Al t (gG w k) r)with
    |false=>rfl|true=>rw[q]at q1;simp at q1
   rw[hd];show aB [_,.sh<|c3 r,_]=_;simp[aB,ki,hn,yt,q2]
def Zy{w h:Nat}{T:List Th}{D:List Dy}{i:Nat}(hi:i<D.length):bi [.sh<|Z0 w h T D,.sh<|.int i]=.ret (.sh<|.lst<|D[i].2.2.map ϒ):=by
 have yd:=Jb w h T D;have hx:(D.map bR)[i]?=some (bR D[i]):=by simp[hi]
 simp[bi,qV,yd,hx];simp[bR]
def Wa{w h:Nat}{T:List Th}(D:List Dy)(hw:0<w){k:Nat}(hk:k<w*h):aA [.sh<|Z0 w h T D,.sh<|pt<|gG w k]=.ret (.sh .non):=by
 have yw:=Nv w h T D;have yh:=Qv w h T D;have h1:=cz k hw;have h2:=(ZG (k:=k) (h:=h) hw).mpr hk;have a1:(0:Int)<=((k%w:Nat):Int):=lr _;have a2:((k%w:Nat):Int)<(w:Int):=wu.mpr h1;have a3:(0:Int)<=((k/w:Nat):Int):=lr _;have a4:((k/w:Nat):Int)<(h:Int):=wu.mpr h2;unfold pt gG;dsimp only;generalize Z0 w h T D=Yv,((k%w:Nat):Int)=x,((k/w:Nat):Int)=y at*;have hs:iy [.sh Yv,.sh<|.tup [.int x,.int y]]=.ret (.sh<|.bl true):=by simp[iy,pN,yw,yh,a1,a2,a3,a4]
 simp[aA,kZ,hs]
def Z4m{w h:Nat}{T:List Th}{D:List Dy}{i:Nat}(hi:i<D.length):iz [.sh<|Z0 w h T D,.sh<|.int i]=.ret (.sh .non):=by
 have yd:=Jb w h T D;have hl:(D.map bR).length=D.length:=by simp
 have a1:(i:Int)<((D.map bR).length:Int):=by lia
 generalize Z0 w h T D=Yv at*;have hs:dW [.sh Yv,.sh<|.int i]=.ret (.sh<|.bl true):=by simp[dW,nQ,yd];lia
 simp[iz,pO,hs]
def C6(w h:Nat)(T:List Th)(o:Option P3):Nat:=Za (w*h) λk=>!kz w T o k
def ZI(lg:Nat)(d:Dy):Prop:=(1<=d.2.1/\d.2.1<=1000000000)/\d.2.2.length<=lg/\∀o∈d.2.2,G5 o
def YM{w h:Nat}{T:List Th}(Y:Ew w h T)(Ds:List Dy){o:Option P3}(ho:G5 o):jp [.sh<|Z0 w h T Ds,.sh<|ϒ o]=.ret (.sh<|.int<|C6 w h T o):=by
 have e1:=V5 Y.w0 Y.w1 Y.h1 Y.wh Y.tl Ds Y.tg ho;have e0:kf [.sh<|Z0 w h T Ds,.sh .non]=.ret (.sh<|.int<|jt w h T none):=V5 Y.w0 Y.w1 Y.h1 Y.wh Y.tl Ds Y.tg (o:=none) trivial;have hb:eE (jt w h T none:Int) (ac (jt w h T o:Int))=((C6 w h T o:Nat):Int):=by rw[Z3l];congr 1;refine ZE λk=>?_;rw[Z1l,jt,jt,Zm,Zm];by_cases hk:k<w*h<;>simp[hk,kz]
 have Hg:iH (.int<|jt w h T none) (.int<|ac (jt w h T o:Int))=some (.int<|C6 w h T o):=by rw[<-hb];rfl
 simp[jp,uL,e1,e0,Hg]
def ju(n:Nat)(H:Nat->Int):List PV:=(ß n).map λk=>.int<|H k
theorem YN(H:Nat->Int):∀(n a:Nat),aa a ((aL a n).map λk=>PV.int<|H k)=(aL a n).map λ(k:Nat)=>PV.tup [.int k,.int<|H k]
 |0,a=>rfl|n+1,a=>by rw[gM,Ó,Ó];show _::aa (a+1) _=_;rw[YN H n<|a+1]
def Z4n(n:Nat)(H:Nat->Int):aa 0 (ju n H)=(ß n).map λ(k:Nat)=>PV.tup [.int k,.int<|H k]:=by unfold ju;rw[jA];exact YN H n 0
def gi(w:Nat)(T:List Th)(t:Int)(o:Option P3)(H:Nat->Int):Nat->Int:=λk=>H k+t*(if kz w T o k then 0 else 1)
def YO(A k:Nat):iH (.int<|(A:Int)/2^k) (.int 1)=some (.int<|if A.testBit k then 1 else 0):=by show some (PV.int<|eE ((A:Int)/2^k) 1)=_;rw[Z5y,Z4i]
def Z5C{w h:Nat}{T:List Th}(t:Int)(ht: -1000000000000<=t/\t<=1000000000000)(o:Option P3)(H:Nat->Int)(hn:w*h<=1000)(s2 s3:ŗ):
 ġ (gT 2<|ð (gN 2)<|ð (gN 3) ű) Ģ (Ú<|ü ô (Â 3)<|Ê ą (Â 0)<|Ê iH (Ê qJ (Â 1)<|Â 2)<|Ç 1) (aa 0<|ju (w*h) H) [.sh<|.int t,.sh<|.int<|C6 w h T o,s2,s3] []=some (ju (w*h)<|gi w T t o H):=by
 rw[Z4n];have hc:=Ğ (g:=gT 2<|ð (gN 2)<|ð (gN 3) ű) (mt:=Ģ) (me:=Ú<|ü ô (Â 3)<|Ê ą (Â 0)<|Ê iH (Ê qJ (Â 1)<|Â 2)<|Ç 1) (λ(k:Nat)=>PV.tup [.int k,.int<|H k]) (λk=>.int<|gi w T t o H k) (λc=>∃a b,c=[.sh<|.int t,.sh<|.int<|C6 w h T o,a,b]) (ß<|w*h) [.sh<|.int t,.sh<|.int<|C6 w h T o,s2,s3] [] ⟨_,_,rfl⟩ (by simp;lia) (by
  rintro k hk c ⟨a,b,rfl⟩;have hk:=Ţ.mp hk;have sb:=YO (C6 w h T o) k;have hb:(C6 w h T o).testBit k=!kz w T o k:=by rw[C6,Zm];simp[hk]
  rw[hb]at sb;have so:uc (C6 w h T o:Int) (k:Int)=true:=by unfold uc;simp
  have m1:∀x,Ĭ t x=true:=λx=>ş (by lia) (by lia);refine⟨[.sh<|.int t,.sh<|.int<|C6 w h T o,.sh<|.int k,.sh<|.int<|H k],_,[.sh<|.int t,.sh<|.int<|C6 w h T o,.sh<|.int k,.sh<|.int<|H k],by simp,rfl,?_,_,_,rfl⟩;cases hd:kz w T o k<;>rw[hd]at sb<;>simp at sb<;>simp[so,sb,gi,hd])
 simpa[ju]using hc
def J_(w:Nat)(T:List Th)(d:Dy)(H:Nat->Int):Nat->Int:=d.2.2.foldl (λH o=>gi w T d.2.1 o H) H
def iM(w:Nat)(T:List Th)(D:List Dy)(H:Nat->Int):Nat->Int:=D.foldl (λH d=>J_ w T d H) H
def Z4o{w h:Nat}{T:List Th}(Y:Ew w h T)(Ds:List Dy){t:Int}(ht: -1000000000000<=t/\t<=1000000000000){o:Option P3}(ho:G5 o)(H:Nat->Int)(s2 s4 s6:ŗ):
 pQ [.sh<|Z0 w h T Ds,.ow<|ju (w*h) H,s2,.sh<|.int t,s4,.sh<|ϒ o,s6]=.ok .nx [.sh<|Z0 w h T Ds,.ow<|ju (w*h)<|gi w T t o H,s2,.sh<|.int t,s4,.sh<|ϒ o,.sh<|.int<|C6 w h T o]:=by
 have e1:=YM Y Ds ho;have e2:=Z5C (T:=T) t ht o H Y.wh .no .no;simp[pQ,e1,e2]
def YQ{w h:Nat}{T:List Th}(Y:Ew w h T){lg:Nat}{D:List Dy}(hD:∀d∈D,ZI lg d):mN [.sh<|Z0 w h T D]=.ret (.ow<|ju (w*h)<|iM w T D λ_=>0):=by
 have yw:=Nv w h T D;have yh:=Qv w h T D;have yd:=Jb w h T D;have mo:Ĭ (w:Int) (h:Int)=true:=ş (by have:=Y.w1;lia) (by have:=Y.w1;lia);have rr:=Zr (n:=w*h) Y.wh;rw[lu]at rr;have hc:=Ğ (g:=gN 0) (mt:=Ģ) (me:=Ç 0) (λ(k:Nat)=>PV.int k) (λk=>PV.int<|(λ(_:Nat)=>(0:Int)) k) (λb=>∃a,b=[a]) (ß<|w*h) [.no] [] ⟨_,rfl⟩ (by have:=Y.wh;simp;lia) (by
  rintro k hk b ⟨a,rfl⟩;exact⟨_,_,_,rfl,rfl,rfl,_,rfl⟩)
 rw[ϕ]at hc;obtain⟨c,e1,s2,s3,s4,s5,s6,rfl⟩:=cR (g:=gT 3<|ð (gN 2)<|ð (gN 3)<|ð (gN 4) ű) (mb:=uM) bR (λH d=>J_ w T d H) (λH b=>∃s2 s3 s4 s5 s6,b=[.sh<|Z0 w h T D,.ow<|ju (w*h) H,s2,s3,s4,s5,s6]) D (by
  rintro d hd H b ⟨s2,s3,s4,s5,s6,rfl⟩;obtain⟨dt,_,dr⟩:=hD d hd;obtain⟨e,q1,Ie,s6',rfl⟩:=cR (g:=gN 5) (mb:=pQ) ϒ (λH o=>gi w T d.2.1 o H) (λH b=>∃s5 s6,b=[.sh<|Z0 w h T D,.ow<|ju (w*h) H,.sh<|.str d.1,.sh<|.int d.2.1,.sh<|.lst<|d.2.2.map ϒ,s5,s6]) d.2.2 (by
   rintro o ho H b ⟨s5,s6,rfl⟩;exact⟨_,_,rfl,Z4o Y D (by lia) (dr o ho) H _ _ _,_,_,rfl⟩) H [.sh<|Z0 w h T D,.ow<|ju (w*h) H,.sh<|.str d.1,.sh<|.int d.2.1,.sh<|.lst<|d.2.2.map ϒ,s5,s6] ⟨_,_,rfl⟩
  refine⟨[.sh<|Z0 w h T D,.ow<|ju (w*h) H,.sh<|.str d.1,.sh<|.int d.2.1,.sh<|.lst<|d.2.2.map ϒ,s5,s6],_,by simp[bR],by simp[uM,q1];exact⟨rfl,rfl,rfl,rfl,rfl,rfl⟩,_,_,_,_,_,rfl⟩) (λ_=>0) [.sh<|Z0 w h T D,.ow<|ju (w*h) λ_=>0,.no,.no,.no,.no,.no] ⟨_,_,_,_,_,rfl⟩
 change ġ _ _ _ _ _ _=some (ju (w*h) λ_=>0)at hc;unfold iM;simp[mN,Ak,ç,yw,yh,yd,mo,rr,hc,e1]
def ME(w:Nat)(T:List Th)(D:List Dy)(k:Nat):Bool:=D.any λd=>d.2.2.any λo=>!kz w T o k
def Z4p{w h:Nat}{T:List Th}(Y:Ew w h T){lg:Nat}{D:List Dy}(hD:∀d∈D,ZI lg d)(hl:D.length<=1000):gF [.sh<|Z0 w h T D]=.ret (.sh<|.int<|Za (w*h)<|ME w T D):=by
 have yd:=Jb w h T D;have rr:=Zr (n:=D.length) hl;obtain⟨e,e1,B,s2,s3,rfl,hB⟩:=cR (g:=gN 2) (mb:=le) (λ(i:Nat)=>PV.int i) (λ(b:List Nat) (x:Nat)=>x::b) (λb c=>∃(B:Nat) (s2 s3:ŗ),c=[.sh<|Z0 w h T D,.sh<|.int B,s2,s3]/\∀k,B.testBit k=true↔(k<w*h/\∃i∈b,∃hi:i<D.length,∃o∈D[i].2.2,kz w T o k=false)) (ß D.length) (by
  rintro i hi b c ⟨B,s2,s3,rfl,hB⟩;have hi:=Ţ.mp hi;have et:=Zy (w:=w) (h:=h) (T:=T) hi;obtain⟨f,q1,B2,EC,rfl,S3⟩:=cR (g:=gN 3) (mb:=lc) ϒ (λ(b:List (Option P3)) (x:Option P3)=>x::b) (λb c=>∃(B2:Nat) (s3:ŗ),c=[.sh<|Z0 w h T D,.sh<|.int B2,.sh<|.int i,s3]/\∀k,B2.testBit k=true↔(B.testBit k=true\/(k<w*h/\∃o∈b,kz w T o k=false))) D[i].2.2 (by
   rintro o ho b c ⟨B2,s3,rfl,S3⟩;have el:=YM Y D<|(hD D[i] (Œ hi)).2.2 o ho;generalize Z0 w h T D=Yv,hO:ϒ o=O at*;refine⟨_,_,rfl,by simp[lc,el,Ss];exact⟨rfl,rfl⟩,_,_,rfl,λk=>?_⟩;rw[wP,gI,S3,C6,Zm,ú,decide_eq_true_eq];simp;grind) [] [.sh<|Z0 w h T D,.sh<|.int B,.sh<|.int i,s3] ⟨B,s3,rfl,by simp⟩
  refine⟨_,[.sh<|Z0 w h T D,.sh<|.int B2,.sh<|.int i,EC],rfl,?_,_,_,_,rfl,λk=>?_⟩
  ·generalize Z0 w h T D=Yv at*;simp[le,et,q1]
  ·rw[S3,hB];simp only[ZM,aK,or_false,þ];constructor
   ·rintro (⟨a,j,hj,S_,o,ho,hd⟩|⟨a,o,ho,hd⟩)
    ·exact⟨a,j,.inr hj,S_,o,ho,hd⟩
    ·exact⟨a,i,.inl rfl,hi,o,ho,hd⟩
   ·rintro ⟨a,j,rfl|hj,S_,o,ho,hd⟩
    ·exact .inr ⟨a,o,ho,hd⟩
    ·exact .inl ⟨a,j,hj,S_,o,ho,hd⟩) [] [.sh<|Z0 w h T D,.sh<|.int ((0:Nat):Int),.no,.no] ⟨0,.no,.no,rfl,by simp⟩
 have hBe:B=Za (w*h) (ME w T D):=ZE λk=>by
  have:=hB k;rw[dZ,this];simp only[ZM,Ţ,aK,or_false,ME,ú,decide_eq_true_eq,List.any_eq_true,wm];constructor
  ·rintro ⟨a,i,hi,hi2,o,ho,hd⟩;exact⟨a,D[i],Œ hi,o,ho,hd⟩
  ·rintro ⟨a,d,hd,o,ho,he⟩;obtain⟨i,hi,rfl⟩:=rP.mp hd;exact⟨a,i,hi,hi,o,ho,he⟩
 subst hBe;have J9:(D.map bR).length=D.length:=by simp
 generalize Z0 w h T D=Yv,D.map bR=DV at*;rw[<-J9]at rr e1;simp at e1;simp[gF,qX,ç,yd,rr,e1]
def Z58(w:Nat)(T:List Th){t:Int}(ht:1<=t)(o:Option P3)(H:Nat->Int)(k:Nat):(kz w T o k=true->gi w T t o H k=H k)/\(kz w T o k=false->H k<gi w T t o H k):=by
 unfold gi;constructor
 ·intro h;simp[h]
 ·intro h;simp[h];lia
theorem YS(w:Nat)(T:List Th)(t:Int)(ht:1<=t)(k:Nat):∀(os:List (Option P3)) (H:Nat->Int),H k<=os.foldl (λH o=>gi w T t o H) H k/\((os.any λo=>!kz w T o k)=true↔H k<os.foldl (λH o=>gi w T t o H) H k)
 |[],H=>by simp|o::os,H=>by
  obtain⟨i1,i2⟩:=YS w T t ht k os<|gi w T t o H;obtain⟨g1,g2⟩:=Z58 w T ht o H k;rw[br,bt,gI,i2];cases hd:kz w T o k with
  |true=>have:=g1 hd;simp;lia|false=>have:=g2 hd;simp;lia
theorem YT(w:Nat)(T:List Th){lg:Nat}(k:Nat):∀(D:List Dy) (H:Nat->Int),(∀d∈D,ZI lg d)->H k<=iM w T D H k/\(ME w T D k=true↔H k<iM w T D H k)
 |[],H,_=>by simp[iM,ME]|d::D,H,hD=>by obtain⟨i1,i2⟩:=YT w T k D (J_ w T d H) λx hx=>hD x<|õ _ hx;obtain⟨g1,g2⟩:=YS w T d.2.1 (hD d ł).1.1 k d.2.2 H;change H k<=J_ w T d H k at g1;change _↔H k<J_ w T d H k at g2;unfold iM ME at*;rw[br,bt,gI,i2,g2];lia
def nT(n:Int):List Nat:=(Å<|bF n).cps.toList
def YU(n:Int):Å (bF n)=S (nT n):=eI (by simp[nT])
def Wb(m:Nat):nT (m:Int)=(Ϭ 10 m).map aH:=PySem.W.KIN.signs_num m
def YV(m:Nat)(h:0<m):nT (-(m:Int))=45::(Ϭ 10 m).map aH:=by obtain⟨k,rfl⟩:∃k,m=k+1:=⟨m-1,by lia⟩;unfold nT;rw[PyProof.Rows.signs_ofString];show("-"++Nat.repr (k+1)).toList.map aH=_;rw[String.toList_append,Nat.toList_repr];rfl
def Wc{m c:Nat}(h:c∈(Ϭ 10 m).map aH):48<=c/\c<=57:=by obtain⟨ch,Ey,e⟩:=Đ.mp h;have r:=PyProof.Rows.digit_range (Nat.isDigit_of_mem_toDigits (by decide) (by decide) Ey);rw[<-e];exact r
def We:∀(m:Nat),0<m->∃c r,(Ϭ 10 m).map aH=c::r/\c≠48:=by
 intro m
 induction m using Nat.strongRecOn with
 |_ m ih=>
  intro h0;by_cases h:m<10
  ·rw[Nat.toDigits_of_lt_base h];exact⟨_,[],rfl,by
    have:∀d:Nat,d<10->0<d->(Nat.digitChar d).toNat≠48:=by decide
    exact this m h h0⟩
  ·have hm:m%10<10:=cz m (by decide);have t:Ϭ 10 (m/10)++Ϭ 10 (m%10)=Ϭ 10 (10*(m/10)+m%10):=Nat.toDigits_append_toDigits (by decide) (by lia) hm;rw[wR]at t;obtain⟨c,r,e,hc⟩:=ih (m/10) (by lia) (by lia);rw[<-t,Ĝ,e];exact⟨c,_,rfl,hc⟩
def ZT{m:Nat}(h:m<10^10):1<=((Ϭ 10 m).map aH).length/\((Ϭ 10 m).map aH).length<=10:=by
 have h1:=PySem.W.KT.len_num (n:=(m:Int)) (by lia) (by lia);have e:(Å<|bF (m:Int)).length=(nT (m:Int)).length:=by simp[nT,bC]
 rw[e,Wb]at h1;refine⟨?_,h1⟩;by_cases h0:m=0
 ·subst h0;decide
 ·obtain⟨c,r,e,_⟩:=We m (by lia);rw[e];simp
def Wf{n:Int}(h1: -10000000000<n)(h2:n<10000000000):∃(b:Bool) (ds:List Nat),nT n=(if b then[45]else[])++ds/\(∀c∈ds,48<=c/\c<=57)/\1<=ds.length/\ds.length<=10/\(nT n=[48]\/∃c r,ds=c::r/\c≠48):=by
 rcases Int.lt_or_le n 0with h|h
 ·obtain⟨m,rfl⟩:∃m:Nat,n= -(m:Int):=⟨(-n).toNat,by lia⟩;obtain⟨l1,l2⟩:=ZT (m:=m) (by lia);exact⟨true,_,YV m (by lia),λc hc=>Wc hc,l1,l2,.inr<|We m<|by lia⟩
 ·obtain⟨m,rfl⟩:=rH h;obtain⟨l1,l2⟩:=ZT (m:=m) (by lia);refine⟨false,_,Wb m,λc hc=>Wc hc,l1,l2,?_⟩;by_cases h0:m=0
  ·left
   subst h0;rfl
  ·exact .inr (We m<|by lia)
def Wg{n:Int}(h1: -10000000000<n)(h2:n<10000000000):∀c∈nT n,c=45\/(48<=c/\c<=57):=by
 obtain⟨b,ds,e,hd,_⟩:=Wf h1 h2;rw[e];intro c hc;rcases Ů.mp hc with hc|hc
 ·cases b
  ·cases hc
  ·left;simpa using hc
 ·exact .inr<|hd c hc
def ZU{n:Int}(h1: -10000000000<n)(h2:n<10000000000):1<=(nT n).length/\(nT n).length<=11:=by obtain⟨b,ds,e,_,l1,l2,_⟩:=Wf h1 h2;rw[e];cases b<;>simp<;>lia
def Z59{n:Int}(h1: -10000000000<n)(h2:n<10000000000):oH (S<|nT n)=some n:=by
 have key:∀m:Nat,PySem.NumText.AllDigits ((Ϭ 10 m).map aH):=λm c hc=>Wc hc;have ne:∀m:Nat,m<10^10->(Ϭ 10 m).map aH≠[]:=λm hm e=>by have:=(ZT hm).1;rw[e]at this;cases this
 rcases Int.lt_or_le n 0with h|h
 ·obtain⟨m,rfl⟩:∃m:Nat,n= -(m:Int):=⟨(-n).toNat,by lia⟩;have l2:=(ZT (m:=m)<|by lia).2;rw[YV m<|by lia];have:=PySem.intText_neg (x:=S (45::(Ϭ 10 m).map aH)) rfl (key m) (ne m<|by lia) (by show(45::(Ϭ 10 m).map aH).toArray.size<=4300;simp at l2⊢;lia);rw[this,B7]
 ·obtain⟨m,rfl⟩:=rH h;have l2:=(ZT (m:=m)<|by lia).2;rw[Wb m];have:=PySem.intText_digits (x:=S<|(Ϭ 10 m).map aH) (key m) (ne m<|by lia) (by show((Ϭ 10 m).map aH).toArray.size<=4300;simp at l2⊢;lia);rw[this];show some (((PySem.NumText.digitsVal ((Ϭ 10 m).map aH):Nat)):Int)=_;rw[B7]
def sV(l:List Nat):PV:=.str<|S l
def pU(l:List Nat):Prop:=∀c∈l,c<1000
def pU.ok{l:List Nat}(h:pU l):Ě (S l)=true:=by
 unfold Ě;rw[Array.all_eq_true];intro i hi;have GY:i<l.length:=by simpa using hi
 have:=h l[i] (Œ GY);simp;lia
def Zs(l:List Nat):(S l).length=l.length:=by simp[bC]
def Z5a{l:List Nat}(h:l.length<=1000000):aX [.str<|S l]=some (.int l.length):=by
 have hz:(S l).length<=16777216:=by rw[Zs];lia
 show(if(S l).length<=16777216then some (PV.int (S l).length)else none)=_;rw[if_pos hz,Zs]
def YW{l:List Nat}(hl:l.length<=100000)(sg:Str)(k:Int):ag [.sh<|sV l,.sh<|.str sg,.sh<|.int k]=.ret (.sh<|.bl<|decide (1<=(l.length:Int))&&decide ((l.length:Int)<=k)&&l.all λc=>decide<|c∈sg.cps.toList):=by
 have c1:ġ (gN 1) Ģ (Ê Ev (Â 1)<|Â 0) (l.map λc=>PV.str ⟨#[c]⟩) [.sh<|.str sg,.no] []=some ((l.map λc=>decide<|c∈sg.cps.toList).map .bl):=by
  have:=Ğ (g:=gN 1) (mt:=Ģ) (me:=Ê Ev (Â 1)<|Â 0) (λc=>PV.str ⟨#[c]⟩) (λc=>PV.bl<|decide<|c∈sg.cps.toList) (λa=>∃s,a=[.sh<|.str sg,s]) l [.sh<|.str sg,.no] [] ⟨_,rfl⟩ (by simp;lia) (by
   rintro x hx a ⟨s,rfl⟩;exact⟨[.sh<|.str sg,.sh<|.str ⟨#[x]⟩],_,[.sh<|.str sg,.sh<|.str ⟨#[x]⟩],by simp,rfl,by simp,_,rfl⟩)
  rw[this];simp
 have c2:=Sn<|l.map λc=>decide<|c∈sg.cps.toList;have c3:((l.map λc=>decide<|c∈sg.cps.toList).all id)=l.all λc=>decide (c∈sg.cps.toList):=by rw[List.all_map];rfl
 rw[c3]at c2;generalize (l.map λc=>decide<|c∈sg.cps.toList).map PV.bl=bs at c1 c2;have e:(S l).cps.toList=l:=by simp
 have hz:=Z5a (l:=l) (by lia);unfold sV;by_cases h1:1<=(l.length:Int)
 ·by_cases h2:(l.length:Int)<=k
  ·simp[ag,eO,ç,hz,h1,h2,c1,c2]
  ·simp[ag,eO,ç,hz,h1,h2]
 ·simp[ag,eO,ç,hz,h1]
def YX(l:List Nat)(c:Nat){y:Str}(hy:y=S [c]):pc (.str<|S l) [.str y]=some (.bl<|decide<|l.take 1=[c]):=by rw[hy];rfl
def c45:Å "-"=S [45]:=by decide+kernel
def c48:Å "0"=S [48]:=by decide+kernel
def Sw{α:Type}(xs:List α)(k:Nat)(hk:k<=xs.length):eV xs (some (k:Int)) none=xs.drop k:=by unfold eV;rw[HT.xL,HT.E_,wS hk];exact wD (by simp)
def YY{l:List Nat}{s:Str}{a n:Nat}(e:s.cps.toList=aL a n)(h:∀c∈l,a<=c/\c<a+n):(l.all λc=>decide<|c∈s.cps.toList)=true:=by rw[cy,e];exact λc hc=>decide_eq_true<|List.mem_range'_1.mpr<|h c hc
def Z4q{n:Int}(h1: -10000000000<n)(h2:n<10000000000):ϡ [.sh<|sV<|nT n]=.ret (.sh<|.bl true):=by
 obtain⟨b,ds,e,hd,l1,l2,h0⟩:=Wf h1 h2;have md:=YW (l:=ds) (by lia) "0123456789" 10;have al:=YY (l:=ds) (s:="0123456789") (a:=48) (n:=10) (by decide+kernel) λc hc=>by have:=hd c hc;lia
 rw[al]at md;have Xo:1<=(ds.length:Int):=by lia
 have Wh:(ds.length:Int)<=10:=by lia
 simp only[Xo,Wh,decide_true,Bool.and_self]at md;have pl:pU (nT n):=λc hc=>by rcases Wg h1 h2 c hc with h|h<;>lia
 have h0s:Ě (Å "0")=true:=by decide+kernel
 have Q5:=YX (nT n) 45 c45;have Hb:=YX ds 48 c48;have Sx:Ĺ (.str<|S<|nT n) (.str<|Å "0")=some (.bl<|decide<|S (nT n)=Å "0"):=Ź pl.ok h0s;have nl:=ZU h1 h2;have hz:(S<|nT n).length<=16777216:=by rw[Zs];lia
 have tm:nT n=[48]->decide (S (nT n)=Å "0")=true:=λh=>by rw[h];decide+kernel
 unfold sV at md⊢;cases b with
 |true=>
  have e':nT n=45::ds:=e;have t1:decide ((nT n).take 1=[45])=true:=by rw[e'];simp
  rw[t1]at Q5;have sl:OR (.str<|S<|nT n) (some 1) none=some (.sh<|.str<|S ds):=by show(if(S<|nT n).length<=16777216then some (RV.sh<|.str<|S<|eV (S<|nT n).cps.toList (some 1) none)else none)=_;rw[if_pos hz,e'];have:eV (45::ds) (some 1) none=ds:=Sw (45::ds) 1 (by simp);show some (RV.sh<|.str<|S<|eV (45::ds) (some 1) none)=_;rw[this]
  have hh:∃c r,ds=c::r/\c≠48:=by
   rcases h0 with h|h
   ·rw[e']at h;cases h
   ·exact h
  obtain⟨c,r,ec,hc⟩:=hh;have t2:decide (ds.take 1=[48])=false:=by rw[ec];simpa using hc
  rw[t2]at Hb;generalize decide (S (nT n)=Å "0")=qq at*;generalize S (nT n)=N at*;cases qq<;>simp[ϡ,fY,Q5,Hb,sl,md,Sx]
 |false=>
  have e':nT n=ds:=e;have t1:decide ((nT n).take 1=[45])=false:=by
   rw[e'];cases hds:ds with
   |nil=>rw[hds]at l1;cases l1|cons a r=>have:=hd a (by rw[hds];simp);simp;lia
  rw[t1]at Q5;rw[<-e']at md Hb;rcases h0 with h|⟨c,r,ec,hc⟩
  ·rw[tm h]at Sx;generalize S (nT n)=N at*;simp[ϡ,fY,Q5,md,Sx]
  ·have t2:decide ((nT n).take 1=[48])=false:=by rw[e',ec];simpa using hc
   rw[t2]at Hb;generalize decide (S (nT n)=Å "0")=qq at*;cases qq<;>simp[ϡ,fY,Q5,Hb,md,Sx]
def Nb(n:Int):Prop:=-10000000000<n/\n<10000000000
def š(n:Int):PV:=sV<|nT n
def YZ{ns:List Int}(hn:∀n∈ns,Nb n)(hl:ns.length<=1000){sl:ŗ}(hs:Sl sl (ns.map š)):dB [sl]=.ret (.ow<|ns.map .int):=by
 have c1:ġ (gN 0) Ģ (Ú<|Ý ϡ<|Ì 0 Ø) (ns.map š) [.no] []=some ((ns.map λ_=>true).map .bl):=by
  have:=Ğ (g:=gN 0) (mt:=Ģ) (me:=Ú<|Ý ϡ<|Ì 0 Ø) š (λ_=>PV.bl true) (λρ=>∃s,ρ=[s]) ns [.no] [] ⟨_,rfl⟩ (by simp;lia) (by
   rintro x hx ρ ⟨s,rfl⟩;have e:=Z4q (hn x hx).1 (hn x hx).2;change ϡ [.sh<|š x]=_ at e;exact⟨[.sh<|š x],_,[.sh<|š x],by simp,rfl,by simp[e],_,rfl⟩)
  rw[this];simp[wq]
 have c2:ġ (gN 0) Ģ (aW iZ<|É (Â 0) å) (ns.map š) [.no] []=some (ns.map .int):=by
  have:=Ğ (g:=gN 0) (mt:=Ģ) (me:=aW iZ<|É (Â 0) å) š PV.int (λρ=>∃s,ρ=[s]) ns [.no] [] ⟨_,rfl⟩ (by simp;lia) (by
   rintro x hx ρ ⟨s,rfl⟩;have e1:=Z59 (hn x hx).1 (hn x hx).2;have e2:=ZU (hn x hx).1 (hn x hx).2;have e:iZ [š x]=some (.int x):=by show(if(S<|nT x).length<=640then(oH<|S<|nT x).map PV.int else none)=_;rw[if_pos (by rw[Zs];lia),e1];rfl
   exact⟨[.sh<|š x],_,[.sh<|š x],by simp,rfl,by simp[e],_,rfl⟩)
  rw[this];simp
 have c3:=Sn<|ns.map λ_=>true;have c4:((ns.map λ_=>true).all id)=true:=by simp
 rw[c4]at c3;have it:=hs.it (i:=0) (ρ:=[sl]) rfl;generalize (ns.map λ_=>true).map PV.bl=bs,ns.map š=X at*;simp[dB,mY,ç,-yl,it,c1,c2,c3]
def ZP{ns:List Int}(hn:∀n∈ns,Nb n)(hl:ns.length<=1000){sl:ŗ}(hs:Sl sl (ns.map š))(k:Int):ah [sl,.sh<|.int k]=.ret (.ow<|ns.map .int):=by have e:=YZ hn hl hs;simp[ah,mZ,hs.lend,e,zu]
def Sy{α:Type}(x:α)(xs:List α):eV (x::xs) (some 1) none=xs:=Sw (x::xs) 1 (by simp)
def Y_{a b:Str}(ha:Ě a=true)(hb:Ě b=true):cO (.str a) (.str b)=some (.bl<|!decide (a=b)):=by
 have h:cx (.str a) (.str b)=decide (a=b):=by unfold cx;rfl
 unfold cO o_;rw[show Ϗ (.str a)=true by unfold Ϗ;exact ha,show Ϗ (.str b)=true by unfold Ϗ;exact hb,h];rfl
def Y0:Ě (Å "yard")=true:=by decide+kernel
def Sz:Ě (Å "ray")=true:=by decide+kernel
def Z5b:Ě (Å "night")=true:=by decide+kernel
def SA:Ě (Å "day")=true:=by decide+kernel
def Z4r{w h:Int}(hw:1<=w/\w<=20)(hh:1<=h/\h<=20):io [.sh<|.lst [.str "yard",š w,š h],.sh<|.int 0]=.ret (.sh<|.lst [.int w,.int h]):=by have e:=ZP (ns:=[w,h]) (λn hn=>by simp at hn;unfold Nb;lia) (by simp) (sl:=.sh<|.lst<|[w,h].map š) (.inl rfl) 0;have ne:=Y_ Y0 Y0;have c:=Sy (PV.str "yard") [š w,š h];simp only[Ó,ž]at e;simp[io,pG,ç,ne,c,e,ġ,hw.1,hw.2,hh.1,hh.2,pb,dJ]
def Z2N{w:Str}{ns:List Int}(hg:Z3 w ns=true)(hw:Ě w=true)(hn:∀n∈ns,Nb n)(hl:ns.length<=1000)(k:Int){sl:ŗ}(hs:Sl sl (.str w::ns.map š)):fZ [sl,.sh<|.int k]=.ret (.sh<|Ze (Zl w) w ns):=by have e:=ZP hn hl (sl:=.sh<|.lst<|ns.map š) (.inl rfl) k;have t:=Z3k hw (xs:=ns) (sl:=.bw<|ns.map .int)<|.inr rfl;rw[if_pos hg]at t;have c:=Sy (PV.str w)<|ns.map š;rcases hs with rfl|rfl<;>simp[fZ,m_,c,e,t]
def Z2O{l:List Nat}(h1:1<=l.length)(h2:l.length<=8)(hc:∀c∈l,97<=c/\c<=122):mK [.sh<|sV l]=.ret (.sh<|.bl true):=by
 have md:=YW (l:=l) (by lia) "abcdefghijklmnopqrstuvwxyz" 8;have al:=YY (l:=l) (s:="abcdefghijklmnopqrstuvwxyz") (a:=97) (n:=26) (by decide+kernel) λc h=>by have:=hc c h;lia
 rw[al]at md;have Xo:1<=(l.length:Int):=by lia
 have Wh:(l.length:Int)<=8:=by lia
 simp only[Xo,Wh,decide_true,Bool.and_self]at md;simp[mK,uD,md]
def Nm(l:List Nat):Prop:=1<=l.length/\l.length<=8/\∀c∈l,97<=c/\c<=122
def Nm.Y1{l:List Nat}(h:Nm l):pU l:=λc hc=>by have:=h.2.2 c hc;lia
def Z4s{l:List Nat}(hm:Nm l){t:Int}(h1:1<=t)(h2:t<=1000000000)(k:Int){sl:ŗ}(hs:Sl sl [.str "day",sV l,š t]):j_ [sl,.sh<|.int k]=.ret (.ot [sV l,.int t] [] []):=by have e:=ZP (ns:=[t]) (λn hn=>by simp at hn;unfold Nb;lia) (by simp) (sl:=.sh<|.lst<|[t].map š) (.inl rfl) k;have i:=Z2O hm.1 hm.2.1 hm.2.2;have c:eV [PV.str "day",sV l,š t] (some 2) none=[š t]:=Sw [PV.str "day",sV l,š t] 2 (by simp);simp only[Ó,ž]at e;rcases hs with rfl|rfl<;>simp[j_,qS,i,c,e,h1,h2]
def Ny:Option P3->List PV
 |none=>[.str "night"]|some r=>[.str "ray",š r.1,š r.2.1,š r.2.2]
def Qy(r:P3):Prop:=-1000000<=r.1/\r.1<=1000000/\ -1000000<=r.2.1/\r.2.1<=1000000/\1<=r.2.2/\r.2.2<=1000000
def Zz:Option P3->Prop
 |none=>True|some r=>Qy r
def Z3v{r:P3}(h:Qy r):pH [.sh<|c3 r]=.ret (.sh<|.bl true):=by
 obtain⟨h1,h2,h3,h4,h5,h6⟩:=h;have a1:(if r.1<0then -r.1 else r.1)<=1000000:=by split<;>lia
 have a2:(if r.2.1<0then -r.2.1 else r.2.1)<=1000000:=by split<;>lia
 simp[pH,we,c3,a1,a2,h5,h6]
def dRN:(Å "ray"=Å "night")=False:=eq_false (by decide+kernel)
def Wi{n:Int}(h:Nb n):Ϗ (š n)=true:=by
 have pl:pU (nT n):=λc hc=>by rcases Wg h.1 h.2 c hc with h|h<;>lia
 unfold š sV Ϗ;exact pl.ok
def SD(l:List Nat):rn (sV l)=0:=by unfold sV rn;rfl
def Z3w{ws:List PV}{a:Str}(ha:Ě a=true)(hn:¬a=Å "night")(hw:aF ws=true)(hd:jR ws=0):Ĺ (.lst (.str a::ws)) (.lst [.str "night"])=some (.bl false):=by
 have h1:cx (.lst (.str a::ws)) (.lst [.str<|Å "night"])=false:=by
  unfold cx iV;have:cx (.str a) (.str<|Å "night")=false:=by unfold cx;simpa using hn
  rw[this];rfl
 have h2:Ϗ (.lst (.str a::ws))=true:=by unfold Ϗ aF;rw[show Ϗ (.str a)=true by unfold Ϗ;exact ha,hw];rfl
 have h3:Ϗ (.lst [.str<|Å "night"])=true:=by decide+kernel
 have h4:rn (.lst (.str a::ws))=1:=by unfold rn jR;rw[hd];unfold rn;rfl
 unfold Ĺ o_;rw[h1,h2,h3,h4];rfl
def Z3x{o:Option P3}(ho:Zz o)(k:Int){sl:ŗ}(hs:Sl sl (Ny o)):eY [sl,.sh<|.int k]=.ret (.sh<|ϒ o):=by
 cases o with
 |none=>
  have h3:Ϗ (.lst [.str<|Å "night"])=true:=by decide+kernel
  have e:Ĺ (.lst [.str "night"]) (.lst [.str "night"])=some (.bl true):=by unfold Ĺ o_;rw[um _ h3,h3];rfl
  change Sl sl [.str "night"]at hs;rcases hs with rfl|rfl<;>simp[eY,jZ,e,ϒ]
 |some r=>
  obtain⟨h1,h2,h3,h4,h5,h6⟩:=ho;have e:=ZP (ns:=[r.1,r.2.1,r.2.2]) (λn hn=>by simp at hn;unfold Nb;lia) (by simp) (sl:=.sh<|.lst<|[r.1,r.2.1,r.2.2].map š) (.inl rfl) k;have i:=Z3v (r:=r) ⟨h1,h2,h3,h4,h5,h6⟩;have c:=Sy (PV.str "ray") [š r.1,š r.2.1,š r.2.2];have ne:=Y_ Sz Sz;simp only[Ó,ž]at e;have eq:Ĺ (.lst [.str "ray",š r.1,š r.2.1,š r.2.2]) (.lst [.str "night"])=some (.bl false):=by
   refine Z3w Sz (by rw[dRN];exact id) ?_ ?_
   ·have b1:=Wi (n:=r.1) ⟨by lia,by lia⟩;have b2:=Wi (n:=r.2.1) ⟨by lia,by lia⟩;have b3:=Wi (n:=r.2.2) ⟨by lia,by lia⟩;unfold aF aF aF aF;rw[b1,b2,b3];rfl
   ·unfold š jR jR jR jR;rw[SD,SD,SD];rfl
  change Sl sl [.str "ray",š r.1,š r.2.1,š r.2.2]at hs;unfold c3 at i;rcases hs with rfl|rfl<;>simp[eY,jZ,eq,ne,c,e,i,ϒ,c3]
@[simp]theorem Z67{D:List (List PV×List PV)}:eS (.dw D)=some (.dw D):=rfl
abbrev Dz:=List Nat×Int×List (Option P3)
def dD(d:Dz):List PV×List PV:=([sV d.1,.int d.2.1],d.2.2.map ϒ)
def zV(d:Dz):Dy:=(S d.1,d.2.1,d.2.2)
def SE(D:List Dz):Bool:=match D.getLast? with
 |some d=>decide<|d.2.2.length=0|none=>false
def Y2{D:List Dz}(h0:∀d,D.getLast?=some d->d.2.2.length≠0):SE D=false:=by
 unfold SE;split
 ·rename_i d e;simpa using h0 d e
 ·rfl
def Y3{D:List Dz}:ų [.dw<|D.map dD]=.ret (.sh<|.bl<|SE D):=by
 unfold SE;cases e:D.getLast? with
 |none=>have:D=[]:=List.getLast?_eq_none_iff.mp e;subst this;simp[ų,dC]|some d=>
  have hl:0<(D.map dD).length:=by
   have:D≠[]:=λz=>by rw[z]at e;cases e
   have:=BE.mpr this;simp;lia
  have hg:(D.map dD).getLast?=some (dD d):=by rw[List.getLast?_map,e];rfl
  have h2:(dD d).1.length=2:=rfl;have h3:(dD d).2.length=d.2.2.length:=by simp[dD]
  generalize D.map dD=DD at*;by_cases h0:d.2.2.length=0
  ·have:(dD d).2=[]:=rS.mp (by lia);simp[ų,dC,hl,hg,h2,this,h0]
  ·have:¬(dD d).2=[]:=λz=>h0 (by rw[<-h3,z];rfl);simp[ų,dC,hl,hg,h2,this,h0]
def Z3y{D:List Dz}{d:Dz}(hd:D.getLast?=some d)(hl:d.2.2.length<24){o:Option P3}(ho:Zz o)(k:Int){sl:ŗ}(hs:Sl sl (Ny o)):ip [sl,.sh<|.int k,.dw<|D.map dD]=.ok (.l 2<|ϒ o):=by
 have e:=Z3x ho k hs;have l0:¬D.map dD=[]:=by
  have:D≠[]:=λz=>by rw[z]at hd;cases hd
  simpa using this
 have hg:(D.map dD).getLast?=some (dD d):=by rw[List.getLast?_map,hd];rfl
 have h2:(dD d).1.length=2:=rfl;have h3:(dD d).2.length=d.2.2.length:=by simp[dD]
 have h4:¬((dD d).2.length:Int)=24:=by lia
 have h5:(dD d).2.length<16777216:=by lia
 generalize D.map dD=DD,dD d=dd at*;simp[ip,pI,gt,Ŀ,l0,hg,h2,h4,h5,zX,hs.lend,e,WR.ix]
def Z3z(D:List Dz)(hl:D.length<=1000):ġ (gD 0 1 2) Ģ (é 0) (D.map dD) [.no,.no,.no] []=some (D.map λd=>sV d.1):=by
 have key:∀(D:List Dz) (acc:List PV) (a b c:ŗ),acc.length+D.length<=1000->ġ (gD 0 1 2) Ģ (é 0) (D.map dD) [a,b,c] acc=some (acc++D.map λd=>sV d.1):=by
  intro D
  induction D with
  |nil=>intro acc a b c _;simp[ġ]|cons d D ih=>
   intro acc a b c hl;rw[Ĕ]at hl;have h1:acc.length<16777216:=by lia
   have:=ih (acc++[sV d.1]) (.sh<|sV d.1) (.sh<|.int d.2.1) (.bw<|d.2.2.map ϒ) (by simp;lia);rw[Ó,ġ];simp[dD,gD,h1,Ģ];simpa[dD]using this
 simpa using key D [] .no .no .no (by simpa using hl)
def Z5c{a b:List Nat}:S a=S b↔a=b:=by
 constructor
 ·intro h;have:=congrArg (λs=>s.cps.toList) h;simpa using this
 ·intro h;rw[h]
def Z1N{l:List Nat}(hl:pU l){D:List Dz}(hD:∀d∈D,pU d.1)(h:l∉D.map (·.1)):Dg false (sV l) (.lst<|D.map λd=>sV d.1)=some (.bl false):=by
 have h1:Ϗ (sV l)=true:=by unfold sV Ϗ;exact hl.ok
 have h2:∀D:List Dz,(∀d∈D,pU d.1)->aF (D.map λd=>sV d.1)=true:=by
  intro D
  induction D with
  |nil=>intro _;rfl|cons d D ih=>
   intro hD;rw[Ó,aF,ih λx hx=>hD x<|õ _ hx];have:Ϗ (sV d.1)=true:=by unfold sV Ϗ;exact(hD d<|by simp).ok
   rw[this];rfl
 have h3:((D.map λd=>sV d.1).any λy=>cx y<|sV l)=false:=by rw[wy];intro y hy;obtain⟨d,hd,rfl⟩:=Đ.mp hy;unfold sV cx;intro z;exact h<|Đ.mpr ⟨d,hd,Z5c.mp<|of_decide_eq_true z⟩
 unfold Dg;dsimp only;rw[h1,h2 D hD,SD,h3];rfl
def Z4t{D:List Dz}(h0:∀d,D.getLast?=some d->d.2.2.length≠0)(hD:D.length<12)(hp:∀d∈D,pU d.1){l:List Nat}(hm:Nm l)(hn:l∉D.map (·.1)){t:Int}(h1:1<=t)(h2:t<=1000000000)(k:Int){sl:ŗ}(hs:Sl sl [.str "day",sV l,š t]):ka [sl,.sh<|.int k,.dw<|D.map dD]=.ok (.d 2 [sV l,.int t]):=by
 have lk:=Y3 (D:=D);rw[Y2 h0]at lk;have rd:=Z4s hm h1 h2 k hs;have cg:=Z3z D (by lia);have ni:=Z1N hm.Y1 hp hn;have l12:¬((D.map dD).length:Int)=12:=by simp;lia
 have Wj:(D.map dD).length<16777216:=by simp;lia
 generalize D.map dD=DD,D.map (λd=>sV d.1)=NN,sV l=L at*;simp[ka,qT,gt,Ŀ,ç,lk,l12,hs.lend,rd,RV.slot,zQ,Ī,qo,jQ,cg,ni,zW,Wj,WR.ix]
def Z2P{T:List PV}(hT:T.length<40){w:Str}{ns:List Int}(hg:Z3 w ns=true)(hw:Ě w=true)(hn:∀n∈ns,Nb n)(hl:ns.length<=1000)(k:Int){sl:ŗ}(hs:Sl sl (.str w::ns.map š)):dF [sl,.sh<|.int k,.bw T,.dw []]=.ok (.t 2<|rl (w,ns)):=by
 have rt:=Z2N hg hw hn hl k hs;have l40:¬(T.length:Int)=40:=by lia
 have Wj:T.length<16777216:=by lia
 change _=FR.ret (.sh<|rl (w,ns))at rt;simp[dF,nc,gt,Ŀ,l40,hs.lend,rt,zU,Wj,WR.ix]
def Y4{w:Str}{xs:List Int}(h:Z3 w xs=true):xs.length<=100/\(∀n∈xs,-1000000000<=n/\n<=1000000000)/\w.cps.toList.length<=1000:=by
 have pl:∀{x},dP x=true-> -1000000000<=x/\x<=1000000000:=λh=>by simpa[dP]using h
 have gl:∀{x},Au x=true-> -1000000000<=x/\x<=1000000000:=λh=>by simp[Au]at h;lia
 have hl:∀{x},As x=true-> -1000000000<=x/\x<=1000000000:=λh=>by simp[As]at h;lia
 have hp:Zk xs=true->xs.length<=100/\(∀n∈xs,-1000000000<=n/\n<=1000000000):=λh=>by obtain⟨a,b,c,rfl⟩:=VX h;simp only[Zk,ú]at h;obtain⟨⟨h1,h2⟩,h3⟩:=h;exact⟨by simp,by simp only[om];exact⟨pl h1,pl h2,hl h3,nofun⟩⟩
 have he:Zi xs=true->xs.length<=100/\(∀n∈xs,-1000000000<=n/\n<=1000000000):=λh=>by obtain⟨a,b,c,d,e,rfl⟩:=Z4V h;simp only[Zi,ú]at h;obtain⟨⟨⟨⟨h1,h2⟩,h3⟩,h4⟩,h5⟩:=h;exact⟨by simp,by simp only[om];exact⟨pl h1,pl h2,pl h3,pl h4,hl h5,nofun⟩⟩
 have hf:Zc xs=true->Zi xs=true:=λh=>by obtain⟨a,b,c,d,e,rfl⟩:=VY h;simp[Zc]at h;exact h.1
 have hb:Zf xs=true->Zi xs=true:=λh=>by obtain⟨a,b,c,d,e,rfl⟩:=Sq h;simp[Zf]at h;exact h.1.1
 have hc:Zd xs=true->xs.length<=100/\(∀n∈xs,-1000000000<=n/\n<=1000000000):=λh=>by obtain⟨a,b,c,d,e,f,g,i,j,rfl⟩:=VZ h;simp only[Zd,ú]at h;obtain⟨⟨⟨⟨h1,h2⟩,h3⟩,⟨h4,h5⟩,h6⟩,⟨h7,h8⟩,h9⟩:=h;exact⟨by simp,by simp only[om];exact⟨pl h1,pl h2,gl h3,pl h4,pl h5,gl h6,pl h7,pl h8,gl h9,nofun⟩⟩
 unfold Z3 at h;split at h
 ·next e=>exact⟨(hp h).1,(hp h).2,by rw[e];decide+kernel⟩
 split at h
 ·next e=>exact⟨(he<|hf h).1,(he<|hf h).2,by rw[e];decide+kernel⟩
 split at h
 ·next e=>exact⟨(he<|hb h).1,(he<|hb h).2,by rw[e];decide+kernel⟩
 split at h
 ·next e=>exact⟨(hc h).1,(hc h).2,by rw[e];decide+kernel⟩
 split at h
 ·next e=>exact⟨(he<|hb h).1,(he<|hb h).2,by rw[e];decide+kernel⟩
 ·cases h
inductive Rw where
 |th (t:Th)|dy (l:List Nat) (t:Int)|tn (o:Option P3)
def G7:Rw->List PV
 |.th t=>.str t.1::t.2.map š|.dy l t=>[.str "day",sV l,š t]|.tn o=>Ny o
def ZV{w:Str}{ns:List Int}(h:Z3 w ns=true):(∀n∈ns,Nb n)/\ns.length<=100:=⟨λn hn=>by have:=(Y4 h).2.1 n hn;unfold Nb;lia,(Y4 h).1⟩
def Wk{w:Str}{xs:List Int}(h:Z3 w xs=true):Ě w=true:=by
 unfold Z3 at h;by_cases e1:w="post"
 ·rw[e1];exact s1
 rw[if_neg e1]at h;by_cases e2:w="fence"
 ·rw[e2];exact s2
 rw[if_neg e2]at h;by_cases e3:w="sail"
 ·rw[e3];exact s3
 rw[if_neg e3]at h;by_cases e4:w="cloth"
 ·rw[e4];exact s4
 rw[if_neg e4]at h;by_cases e5:w="house"
 ·rw[e5];exact s5
 rw[if_neg e5]at h;cases h
def Y5{w:Str}{xs:List Int}(h:Z3 w xs=true):w="post" \/w="fence" \/w="sail" \/w="cloth" \/w="house":=by
 unfold Z3 at h;by_cases e1:w="post"
 ·exact .inl e1
 rw[if_neg e1]at h;by_cases e2:w="fence"
 ·exact .inr<|.inl e2
 rw[if_neg e2]at h;by_cases e3:w="sail"
 ·exact .inr<|.inr<|.inl e3
 rw[if_neg e3]at h;by_cases e4:w="cloth"
 ·exact .inr<|.inr<|.inr<|.inl e4
 rw[if_neg e4]at h;by_cases e5:w="house"
 ·exact .inr<|.inr<|.inr<|.inr e5
 rw[if_neg e5]at h;cases h
def SF{a:Str}(ha:Ě a=true):Dg false (.str a) (.tup [.str "ray",.str "night"])=some (.bl<|decide (Å "ray"=a)||decide (Å "night"=a)):=by
 have h1:Ϗ (.str a)=true:=by unfold Ϗ;exact ha
 have h2:aF [.str<|Å "ray",.str<|Å "night"]=true:=by decide+kernel
 unfold Dg;dsimp only;rw[h1,h2];have h3:rn (.str a)=0:=by unfold rn;rfl
 rw[h3];have e:∀b:Str,cx (.str b) (.str a)=decide (b=a):=λb=>by unfold cx;rfl
 rw[bt,bt,List.any_nil,e,e,wo];rfl
def dWD{w:Str}{xs:List Int}(h:Z3 w xs=true):¬Å "ray"=w/\¬Å "night"=w/\¬w=Å "day":=by
 rcases Y5 h with rfl|rfl|rfl|rfl|rfl<;>decide+kernel
def Z3A{T:List PV}{D:List Dz}{d:Dz}(hd:D.getLast?=some d)(hl:d.2.2.length<24){o:Option P3}(ho:Zz o)(k:Int):ħ [.sh<|.lst<|Ny o,.sh<|.int k,.bw T,.dw<|D.map dD]=.ok (.l 3<|ϒ o):=by
 have e:=Z3y hd hl ho k (sl:=.sh<|.lst<|Ny o)<|.inl rfl;have i:∃a r,Ny o=.str a::r/\Dg false (.str a) (.tup [.str "ray",.str "night"])=some (.bl true):=by
  cases o with
  |none=>exact⟨_,_,rfl,by rw[SF Z5b];simp⟩|some r=>exact⟨_,_,rfl,by rw[SF Sz];simp⟩
 obtain⟨a,r,e1,e2⟩:=i;rw[e1]at e⊢;simp[ħ,iq,gt,Ŀ,e2,ϵ,ko,e,rh,WR.ix,WR.to]
def Z4u{T:List PV}{D:List Dz}(h0:∀d,D.getLast?=some d->d.2.2.length≠0)(hD:D.length<12)(hp:∀d∈D,pU d.1){l:List Nat}(hm:Nm l)(hn:l∉D.map (·.1)){t:Int}(h1:1<=t)(h2:t<=1000000000)(k:Int):ħ [.sh<|.lst [.str "day",sV l,š t],.sh<|.int k,.bw T,.dw<|D.map dD]=.ok (.d 3 [sV l,.int t]):=by
 have e:=Z4t h0 hD hp hm hn h1 h2 k (sl:=.sh<|.lst [.str "day",sV l,š t])<|.inl rfl;have i:Dg false (.str<|Å "day") (.tup [.str "ray",.str "night"])=some (.bl false):=by rw[SF SA,show decide (Å "ray"=Å "day")=false by decide+kernel,show decide (Å "night"=Å "day")=false by decide+kernel];rfl
 have q:=Ź SA SA;simp[ħ,iq,gt,Ŀ,i,q,ϵ,ko,e,rh,WR.ix,WR.to]
def Z2Q{T:List PV}(hT:T.length<40){t:Th}(hg:Z3 t.1 t.2=true)(k:Int):ħ [.sh<|.lst (.str t.1::t.2.map š),.sh<|.int k,.bw T,.dw []]=.ok (.t 2<|rl t):=by have e:=Z2P hT hg (Wk hg) (ZV hg).1 (by have:=(ZV hg).2;lia) k (sl:=.sh<|.lst (.str t.1::t.2.map š)) (.inl rfl);obtain⟨d1,d2,d3⟩:=dWD hg;have i:=SF<|Wk hg;have q:=Ź (Wk hg) SA;simp only[d1,d2,decide_false,Bool.or_self]at i;simp only[d3,decide_false]at q;change dF _=FW.ok (.t 2<|rl t)at e;simp[ħ,iq,gt,Ŀ,i,q,ϵ,ko,e,rh,WR.ix,WR.to]
abbrev yY:=jU 5 6 3 4<|ϵ ħ [6,5,3,4]
def Z5D{ws:List PV}{k:Int}{T:List PV}{D:DL}{p:PV}(h:ħ [.sh<|.lst ws,.sh<|.int k,.bw T,.dw D]=.ok (.t 2 p))(ps:List PV)(s0 s1 s2 a b:ŗ):
 yY (.tup [.int k,.lst ws]::ps) [s0,s1,s2,.no,.no,a,b] T D=yY ps [s0,s1,s2,.no,.no,.sh<|.int k,.sh<|.lst ws] (T++[p]) D:=by
 unfold yY;rw[jU];have e:ϵ ħ [6,5,3,4] (bc 3 4 T D<|(([s0,s1,s2,.no,.no,a,b]:Ć).set 5 (.sh<|.int k)).set 6 (.sh<|.lst ws))=.ok (.t 3 p) (bc 3 4 T D<|(([s0,s1,s2,.no,.no,a,b]:Ć).set 5 (.sh<|.int k)).set 6 (.sh<|.lst ws)):=by simp[ϵ,bc,ko,qO,h,WR.ix,rh,WR.to]
 rw[e];rfl
def Z5E{ws:List PV}{k:Int}{T:List PV}{D:DL}{p:List PV}(h:ħ [.sh<|.lst ws,.sh<|.int k,.bw T,.dw D]=.ok (.d 3 p))(ps:List PV)(s0 s1 s2 a b:ŗ):
 yY (.tup [.int k,.lst ws]::ps) [s0,s1,s2,.no,.no,a,b] T D=yY ps [s0,s1,s2,.no,.no,.sh<|.int k,.sh<|.lst ws] T (D++[(p,[])]):=by
 unfold yY;rw[jU];have e:ϵ ħ [6,5,3,4] (bc 3 4 T D<|(([s0,s1,s2,.no,.no,a,b]:Ć).set 5 (.sh<|.int k)).set 6 (.sh<|.lst ws))=.ok (.d 4 p) (bc 3 4 T D<|(([s0,s1,s2,.no,.no,a,b]:Ć).set 5 (.sh<|.int k)).set 6 (.sh<|.lst ws)):=by simp[ϵ,bc,ko,qO,h,WR.ix,rh,WR.to]
 rw[e];rfl
def Z5F{ws:List PV}{k:Int}{T:List PV}{D:DL}{p:PV}{d:List PV×List PV}(h:ħ [.sh<|.lst ws,.sh<|.int k,.bw T,.dw D]=.ok (.l 3 p))(hd:D.getLast?=some d)(ps:List PV)(s0 s1 s2 a b:ŗ):
 yY (.tup [.int k,.lst ws]::ps) [s0,s1,s2,.no,.no,a,b] T D=yY ps [s0,s1,s2,.no,.no,.sh<|.int k,.sh<|.lst ws] T (D.dropLast++[(d.1,d.2++[p])]):=by
 unfold yY;rw[jU];have e:ϵ ħ [6,5,3,4] (bc 3 4 T D<|(([s0,s1,s2,.no,.no,a,b]:Ć).set 5 (.sh<|.int k)).set 6 (.sh<|.lst ws))=.ok (.l 4 p) (bc 3 4 T D<|(([s0,s1,s2,.no,.no,a,b]:Ć).set 5 (.sh<|.int k)).set 6 (.sh<|.lst ws)):=by simp[ϵ,bc,ko,qO,h,WR.ix,rh,WR.to]
 rw[e];have e2:Aa 3 4 (.l 4 p) T D=some (T,D.dropLast++[(d.1,d.2++[p])]):=by unfold Aa;simp[hd]
 dsimp only;rw[e2];rfl
def Aw(r:Rw):PV:=.lst<|G7 r
def Z4v:∀(ts:List Th) (T0:List PV) (k:Nat) (rest:List PV) (s0 s1 s2 a b:ŗ),(∀t∈ts,Z3 t.1 t.2=true)->T0.length+ts.length<=40->
 ∃a' b',yY (aa k<|ts.map (λt=>Aw<|.th t)++rest) [s0,s1,s2,.no,.no,a,b] T0 []=yY (aa (k+ts.length) rest) [s0,s1,s2,.no,.no,a',b'] (T0++ts.map rl) []:=by
 intro ts
 induction ts with
 |nil=>intro T0 k rest s0 s1 s2 a b _ _;exact⟨a,b,by simp⟩|cons t ts ih=>intro T0 k rest s0 s1 s2 a b hg hl;rw[Ĕ]at hl;have r:=Z2Q (T:=T0) (by lia) (hg t<|by simp) (k:Int);obtain⟨a',b',e⟩:=ih (T0++[rl t]) (k+1) rest s0 s1 s2 (.sh<|.int k) (.sh<|Aw<|.th t) (λx hx=>hg x<|õ _ hx) (by simp;lia);refine⟨a',b',?_⟩;rw[Ó,c_];show yY (.tup [.int k,.lst<|G7<|.th t]::aa (k+1) _) _ _ _=_;rw[Z5D<|show ħ [.sh<|.lst<|G7<|.th t,.sh<|.int k,.bw T0,.dw []]=_ from r];refine e.trans ?_;rw[Ĕ,show k+1+ts.length=k+(ts.length+1) by lia];simp
def Z4w:∀(os:List (Option P3)) (T:List PV) (D:List Dz) (d:Dz) (k:Nat) (rest:List PV) (s0 s1 s2 a b:ŗ),(∀o∈os,Zz o)->d.2.2.length+os.length<=24->
 ∃a' b',yY (aa k<|os.map (λo=>Aw<|.tn o)++rest) [s0,s1,s2,.no,.no,a,b] T ((D++[d]).map dD)=yY (aa (k+os.length) rest) [s0,s1,s2,.no,.no,a',b'] T ((D++[(d.1,d.2.1,d.2.2++os)]).map dD):=by
 intro os
 induction os with
 |nil=>intro T D d k rest s0 s1 s2 a b _ _;exact⟨a,b,by simp⟩|cons o os ih=>
  intro T D d k rest s0 s1 s2 a b hg hl;rw[Ĕ]at hl;have r:=Z3A (T:=T) (D:=D++[d]) (d:=d) (by simp) (by lia) (hg o<|by simp) (k:Int);obtain⟨a',b',e⟩:=ih T D (d.1,d.2.1,d.2.2++[o]) (k+1) rest s0 s1 s2 (.sh<|.int k) (.sh<|Aw<|.tn o) (λx hx=>hg x<|õ _ hx) (by simp;lia);refine⟨a',b',?_⟩;rw[Ó,c_];show yY (.tup [.int k,.lst<|G7<|.tn o]::aa (k+1) _) _ _ _=_;rw[Z5F (d:=dD d) (show ħ [.sh<|.lst<|G7<|.tn o,.sh<|.int k,.bw T,.dw<|(D++[d]).map dD]=_ from r) (by rw[Ĝ];simp)];have ed:((D++[d]).map dD).dropLast++[((dD d).1,(dD d).2++[ϒ o])]=(D++[(d.1,d.2.1,d.2.2++[o])]).map dD:=by rw[Ĝ,Ĝ,Ó,ž,rY];simp[dD]
  rw[ed];refine e.trans ?_;rw[Ĕ,show k+1+os.length=k+(os.length+1) by lia];simp
def Zw(d:Dz):Prop:=Nm d.1/\1<=d.2.1/\d.2.1<=1000000000/\1<=d.2.2.length/\d.2.2.length<=24/\∀o∈d.2.2,Zz o
def GK(d:Dz):List PV:=Aw (.dy d.1 d.2.1)::d.2.2.map λo=>Aw<|.tn o
def Z4x:∀(ds:List Dz) (T:List PV) (D:List Dz) (k:Nat) (s0 s1 s2 a b:ŗ),(∀d∈D++ds,Zw d)->((D++ds).map (·.1)).Nodup->D.length+ds.length<=12->
 ∃a' b',yY (aa k<|ds.flatMap GK) [s0,s1,s2,.no,.no,a,b] T (D.map dD)=.ok (T,(D++ds).map dD) [s0,s1,s2,.no,.no,a',b']:=by
 intro ds
 induction ds with
 |nil=>intro T D k s0 s1 s2 a b _ _ _;exact⟨a,b,by simp[aa,jU]⟩|cons d ds ih=>
  intro T D k s0 s1 s2 a b hg hn hl;rw[Ĕ]at hl;obtain⟨g1,g2,g3,g4,g5,g6⟩:=hg d (by simp);have hn1:d.1∉D.map (·.1):=by rw[Ĝ,Ó,oi]at hn;intro z;exact hn.2.2 _ z _ (by simp) rfl
  have h0:∀x,D.getLast?=some x->x.2.2.length≠0:=λx hx=>by have:=(hg x<|n_ _<|BF hx).2.2.2.1;lia
  have r:=Z4u (T:=T) h0 (by lia) (λx hx=>(hg x<|n_ _ hx).1.Y1) g1 hn1 g2 g3 (k:Int);rw[oj];show ∃a' b',yY (.tup [.int k,.lst<|G7<|.dy d.1 d.2.1]::aa (k+1) (d.2.2.map (λo=>Aw<|.tn o)++ds.flatMap GK)) _ _ _=_;rw[Z5E<|show ħ [.sh<|.lst<|G7<|.dy d.1 d.2.1,.sh<|.int k,.bw T,.dw<|D.map dD]=_ from r];have ed:D.map dD++[([sV d.1,.int d.2.1],[])]=(D++[(d.1,d.2.1,[])]).map dD:=by rw[Ĝ];rfl
  rw[ed];obtain⟨a1,b1,e1⟩:=Z4w d.2.2 T D (d.1,d.2.1,[]) (k+1) (ds.flatMap GK) s0 s1 s2 (.sh<|.int k) (.sh<|.lst<|G7<|.dy d.1 d.2.1) g6 (by simpa using g5);have ed2:(D++[(d.1,d.2.1,[]++d.2.2)])=D++[d]:=by simp
  rw[e1];dsimp only;rw[ed2];have hh:D++[d]++ds=D++d::ds:=by simp
  obtain⟨a2,b2,e2⟩:=ih T (D++[d]) (k+1+d.2.2.length) s0 s1 s2 a1 b1 (by rw[hh];exact hg) (by rw[hh];exact hn) (by simp;lia);rw[hh]at e2;exact⟨a2,b2,e2⟩
def Z5G(D:List Dz)(hl:D.length<=1000)(hd:∀d∈D,d.2.2.length<=1000):ġ (gD 0 1 2) Ģ (ŵ<|É (é 0)<|É (é 1)<|É (Ú<|xZ kO<|É (Â 2) å) å) (D.map dD) [.no,.no,.no] []=some ((D.map zV).map bR):=by
 have key:∀(D:List Dz) (acc:List PV) (a b c:ŗ),acc.length+D.length<=1000->(∀d∈D,d.2.2.length<=1000)->ġ (gD 0 1 2) Ģ (ŵ<|É (é 0)<|É (é 1)<|É (Ú<|xZ kO<|É (Â 2) å) å) (D.map dD) [a,b,c] acc=some (acc++(D.map zV).map bR):=by
  intro D
  induction D with
  |nil=>intro acc a b c _ _;simp[ġ]|cons d D ih=>
   intro acc a b c hl hd;rw[Ĕ]at hl;have h1:acc.length<16777216:=by lia
   have h2:=hd d (by simp);have:=ih (acc++[bR<|zV d]) (.sh<|sV d.1) (.sh<|.int d.2.1) (.bw<|d.2.2.map ϒ) (by simp;lia)<|λx hx=>hd x<|õ _ hx;have e:dD d=([sV d.1,.int d.2.1],d.2.2.map ϒ):=rfl;have e2:bR (zV d)=.tup [sV d.1,.int d.2.1,.lst<|d.2.2.map ϒ]:=rfl;have hz:(d.2.2.map ϒ).length<=16777216:=by simp;lia
   rw[Ó,ġ,Ó,Ó,e];rw[e2]at this⊢;simp[gD,h1,Ģ];simpa using this
 simpa using key D [] .no .no .no (by simpa using hl) hd
def Z4y(w h:Int){T:List Th}{D:List Dz}(hT:T.length<=100000)(hD:D.length<=1000)(hd:∀d∈D,d.2.2.length<=1000):jY [.sh<|.int w,.sh<|.int h,.bw<|T.map rl,.dw<|D.map dD]=.ok ["width","height","things","days"] [.int w,.int h,.lst<|T.map rl,.lst<|(D.map zV).map bR]:=by have c:=Z5G D hD hd;simp[jY,dO,i_,km,IR.of,ç,putN,A4,ywh,ywt,ywd,yht,yhd,ytd,c,R9,L8,Ī,qo,jQ]
def wC(s:String):List Nat:=(Å s).cps.toList
def Nz(s:Str):S s.cps.toList=s:=eI (by simp)
def fB:Rw->List (List Nat)
 |.th t=>t.1.cps.toList::t.2.map nT|.dy l t=>[wC "day",l,nT t]|.tn none=>[wC "night"]|.tn (some r)=>[wC "ray",nT r.1,nT r.2.1,nT r.2.2]
theorem Z5H:∀r:Rw,(fB r).map sV=G7 r
 |.th t=>by unfold fB G7 sV;rw[Ó,Nz,ę];rfl|.dy l t=>rfl|.tn none=>rfl|.tn (some r)=>rfl
def Zx(T:List Th)(D:List Dz):List Rw:=T.map .th++D.flatMap λd=>.dy d.1 d.2.1::d.2.2.map .tn
def Z2(ws:List (List Nat)):List Nat:=Ė [32] ws
def yT(w h:Int):List (List Nat):=[wC "yard",nT w,nT h]
def Jc(w h:Int)(T:List Th)(D:List Dz):List (List Nat):=Z2 (yT w h)::(Zx T D).map λr=>Z2<|fB r
def C7(w h:Int)(T:List Th)(D:List Dz):List Nat:=Ė [10] (Jc w h T D)
def Wd(l:List Nat):Prop:=l.length<=11/\∀c∈l,33<=c/\c<256
def ZA{n:Int}(h:Nb n):Wd (nT n):=⟨(ZU h.1 h.2).2,λc hc=>by rcases Wg h.1 h.2 c hc with h|h<;>lia⟩
def Nm.wd{l:List Nat}(h:Nm l):Wd l:=⟨by have:=h.2.1;lia,λc hc=>by have:=h.2.2 c hc;lia⟩
def NA{s:String}(h:((wC s).length<=11/\(wC s).all (λc=>decide<|33<=c/\c<256)=true)):Wd (wC s):=⟨h.1,λc hc=>of_decide_eq_true<|cy.mp h.2 c hc⟩
def Z4z{w:Str}{xs:List Int}(h:Z3 w xs=true):Wd w.cps.toList:=by rcases Y5 h with rfl|rfl|rfl|rfl|rfl<;>exact NA (by decide+kernel)
def SG:Rw->Prop
 |.th t=>Z3 t.1 t.2=true|.dy l t=>Nm l/\1<=t/\t<=1000000000|.tn o=>Zz o
theorem Wl:∀{r:Rw},SG r->(∀x∈fB r,Wd x)/\fB r≠[]/\(fB r).length<=101
 |.th t,h=>by
   have h':Z3 t.1 t.2=true:=h;refine⟨λx hx=>?_,by simp[fB],?_⟩
   ·rcases þ.mp hx with rfl|hx
    ·exact Z4z h'
    ·obtain⟨n,hn,rfl⟩:=Đ.mp hx;exact ZA<|(ZV h').1 n hn
   ·have:=(ZV h').2;simp[fB];lia
 |.dy l t,h=>by
   obtain⟨h1,h2,h3⟩:=h;refine⟨λx hx=>?_,by simp[fB],by simp[fB]⟩;have:x=wC "day" \/x=l\/x=nT t:=by simpa[fB]using hx
   rcases this with rfl|rfl|rfl
   ·exact NA (by decide+kernel)
   ·exact h1.wd
   ·exact ZA ⟨by lia,by lia⟩
 |.tn none,_=>by
   refine⟨λx hx=>?_,by simp[fB],by simp[fB]⟩;have:x=wC "night":=by simpa[fB]using hx
   subst this;exact NA (by decide+kernel)
 |.tn (some r),h=>by
   obtain⟨h1,h2,h3,h4,h5,h6⟩:=h;refine⟨λx hx=>?_,by simp[fB],by simp[fB]⟩;have:x=wC "ray" \/x=nT r.1\/x=nT r.2.1\/x=nT r.2.2:=by simpa[fB]using hx
   rcases this with rfl|rfl|rfl|rfl
   ·exact NA (by decide+kernel)
   ·exact ZA ⟨by lia,by lia⟩
   ·exact ZA ⟨by lia,by lia⟩
   ·exact ZA ⟨by lia,by lia⟩
theorem SH{c:Nat}:∀(ys:List (List Nat)) {x:Nat},x∈Ė [c] ys->x=c\/∃y∈ys,x∈y
 |[],_,h=>by cases h|[y],_,h=>.inr ⟨y,by simp,h⟩|y::z::r,x,h=>by
  have h':x∈y++[c]++Ė [c] (z::r):=h;rcases Ů.mp h' with h1|h1
  ·rcases Ů.mp h1 with h2|h2
   ·exact .inr ⟨y,by simp,h2⟩
   ·exact .inl (by simpa using h2)
  ·rcases SH (z::r) h1 with e|⟨q,hq,e⟩
   ·exact .inl e
   ·exact .inr ⟨q,õ _ hq,e⟩
theorem SI{c:Nat}:∀(ys:List (List Nat)) (B:Nat),(∀y∈ys,y.length<=B)->(Ė [c] ys).length<=ys.length*(B+1)
 |[],B,_=>by simp[Ė]|[y],B,h=>by have:=h y (by simp);show y.length<=_;simp;lia|y::z::r,B,h=>by
  have h1:=h y (by simp);have ih:=SI (c:=c) (z::r) B λq hq=>h q<|õ _ hq;show(y++[c]++Ė [c] (z::r)).length<=_;rw[ő,ő];have e:(y::z::r).length*(B+1)=(z::r).length*(B+1)+(B+1):=by rw[Ĕ (a:=y),sq,wO]
  have e1:[c].length=1:=rfl;lia
def Y6{ws:List (List Nat)}(h:∀x∈ws,Wd x)(h0:ws≠[]):Sp.ń 32 (Z2 ws)=ws:=Sp.jV 32 ws h0 λy hy z=>by have:=(h y hy).2 32 z;lia
def Z5d{ws:List (List Nat)}(h:∀x∈ws,Wd x):10∉Z2 ws:=λz=>by
 rcases SH ws z with e|⟨y,hy,e⟩
 ·cases e
 ·have:=(h y hy).2 10 e;lia
def ZW{ws:List (List Nat)}(h:∀x∈ws,Wd x)(hl:ws.length<=101):(Z2 ws).length<=1212:=by have:=SI (c:=32) ws 11 λy hy=>(h y hy).1;unfold Z2;have h2:ws.length*(11+1)<=101*12:=eA hl (by lia);lia
def Wm{w h:Int}(hw:1<=w/\w<=20)(hh:1<=h/\h<=20):(∀x∈yT w h,Wd x)/\yT w h≠[]/\(yT w h).length<=101:=by
 refine⟨λx hx=>?_,by simp[yT],by simp[yT]⟩;have:x=wC "yard" \/x=nT w\/x=nT h:=by simpa[yT]using hx
 rcases this with rfl|rfl|rfl
 ·exact NA (by decide+kernel)
 ·exact ZA ⟨by lia,by lia⟩
 ·exact ZA ⟨by lia,by lia⟩
def Z2R{W:List (List<|List Nat)}(h0:W≠[])(h:∀ws∈W,∀x∈ws,Wd x):Sp.ń 10 (Ė [10] (W.map Z2))=W.map Z2:=by refine Sp.jV 10 _ (by simpa using h0) λy hy=>?_;obtain⟨ws,hw,rfl⟩:=Đ.mp hy;exact Z5d<|h ws hw
def Z4A{W:List (List<|List Nat)}(hl:W.length<=1000)(h:∀ws∈W,(∀x∈ws,Wd x)/\ws.length<=101):(Ė [10] (W.map Z2)).length<=1213000:=by
 have:=SI (c:=10) (W.map Z2) 1212 λy hy=>by obtain⟨ws,hw,rfl⟩:=Đ.mp hy;exact ZW (h ws hw).1 (h ws hw).2
 rw[Ę]at this;have h2:W.length*(1212+1)<=1000*1213:=eA hl (by lia);lia
def SJ{c:Nat}(hc:c<256){y:Str}(hy:y=S [c]){l:List Nat}(hl:l.length<=16000000):dU (sV l) [.str y]=some (.ow<|(Sp.ń c l).map sV):=by
 have e:Eb y=some c:=by rw[hy];rfl
 show((Eb y).bind λc=>if c<256/\(S l).length+2<=16777216then some (RV.ow<|(Sp.ń c (S l).cps.toList).map λl=>PV.str<|S l)else none)=_;rw[e];show(if c<256/\(S l).length+2<=16777216then some (RV.ow<|(Sp.ń c (S l).cps.toList).map λl=>PV.str<|S l)else none)=_;rw[if_pos ⟨hc,by rw[Zs];lia⟩];rfl
def Y7:Å "\n"=S [10]:=by decide+kernel
def SK:Å " "=S [32]:=by decide+kernel
def Z2S{W:List (List<|List Nat)}(hl:W.length<=1000)(h:∀ws∈W,(∀x∈ws,Wd x)/\ws≠[]/\ws.length<=101):ġ (gN 0) Ģ (Ú<|yD dU (Â 0)<|É (mC<|.str " ") å) ((W.map Z2).map sV) [.no] []=some (W.map λws=>.lst<|ws.map sV):=by
 have:=Ğ (g:=gN 0) (mt:=Ģ) (me:=Ú<|yD dU (Â 0)<|É (mC<|.str " ") å) (λws=>sV<|Z2 ws) (λws=>PV.lst<|ws.map sV) (λa=>∃s,a=[s]) W [.no] [] ⟨_,rfl⟩ (by simp;lia) (by
  rintro ws hw a ⟨s,rfl⟩;obtain⟨h1,h2,h3⟩:=h ws hw;have e:=SJ (c:=32) (by lia) SK (l:=Z2 ws) (by have:=ZW h1 h3;lia);rw[Y6 h1 h2]at e;refine⟨[.sh<|sV<|Z2 ws],_,[.sh<|sV<|Z2 ws],by simp,rfl,?_,_,rfl⟩;unfold sV at e⊢;simp[e])
 rw[ę];simpa[wq]using this
def Y8{T:List Th}{D:List Dz}(hT:∀t∈T,Z3 t.1 t.2=true)(hD:∀d∈D,Zw d):∀r∈Zx T D,SG r:=by
 intro r hr;rcases Ů.mp hr with hr|hr
 ·obtain⟨t,ht,rfl⟩:=Đ.mp hr;exact hT t ht
 ·obtain⟨d,hd,hr⟩:=List.mem_flatMap.mp hr;obtain⟨g1,g2,g3,_,_,g6⟩:=hD d hd;rcases þ.mp hr with rfl|hr
  ·exact⟨g1,g2,g3⟩
  ·obtain⟨o,ho,rfl⟩:=Đ.mp hr;exact g6 o ho
def Y9{T:List Th}{D:List Dz}(hT:T.length<=40)(hD:∀d∈D,Zw d)(hl:D.length<=12):(Zx T D).length<=400:=by
 have:∀D:List Dz,(∀d∈D,Zw d)->(D.flatMap λd=>Rw.dy d.1 d.2.1::d.2.2.map Rw.tn).length<=D.length*25:=by
  intro D
  induction D with
  |nil=>intro _;simp|cons d D ih=>intro h;have h1:=ih λx hx=>h x<|õ _ hx;have h2:=(h d<|by simp).2.2.2.2.1;rw[oj,ő,Ĕ,Ĕ,Ę];lia
 have:=this D hD;unfold Zx;rw[ő,Ę];lia
def Z5e(T:List Th)(D:List Dz):((Zx T D).map λr=>PV.lst<|(fB r).map sV)=T.map (λt=>Aw<|.th t)++D.flatMap GK:=by
 have e:∀r,PV.lst ((fB r).map sV)=Aw r:=λr=>by unfold Aw;rw[Z5H]
 unfold Zx;rw[lA λr _=>e r,Ĝ,ę,List.map_flatMap];congr 1;have:(λd:Dz=>List.map (λr=>Aw r) (Rw.dy d.1 d.2.1::d.2.2.map Rw.tn))=GK:=funext λd=>by rw[Ó,ę];rfl
 rw[this]
def Z4B{w h:Int}(hw:1<=w/\w<=20)(hh:1<=h/\h<=20){T:List Th}(hT:∀t∈T,Z3 t.1 t.2=true)(J0:T.length<=40){D:List Dz}(hD:∀d∈D,Zw d)(J1:D.length<=12)(hn:(D.map (·.1)).Nodup):cT [.sh<|sV<|C7 w h T D]=.ret (.sh<|Z0 w h T<|D.map zV):=by
 obtain⟨y1,y2,y3⟩:=Wm hw hh;have hW:∀ws∈yT w h::(Zx T D).map fB,(∀x∈ws,Wd x)/\ws≠[]/\ws.length<=101:=λws hws=>by
  rcases þ.mp hws with rfl|hws
  ·exact⟨y1,y2,y3⟩
  ·obtain⟨r,hr,rfl⟩:=Đ.mp hws;exact Wl<|Y8 hT hD r hr
 have Z_:(yT w h::(Zx T D).map fB).length<=1000:=by have:=Y9 J0 hD J1;simp;lia
 have eT:C7 w h T D=Ė [10] ((yT w h::(Zx T D).map fB).map Z2):=by unfold C7 Jc;rw[Ó,ę];rfl
 have sp:=SJ (c:=10) (by lia) Y7 (l:=C7 w h T D) (by rw[eT];have:=Z4A Z_ λws hws=>⟨(hW ws hws).1,(hW ws hws).2.2⟩;lia);rw[eT,Z2R (by simp) λws hws=>(hW ws hws).1,<-eT]at sp;have rc:=Z2S Z_ hW;have er:((yT w h::(Zx T D).map fB).map λws=>PV.lst<|ws.map sV)=PV.lst [.str "yard",š w,š h]::(T.map (λt=>Aw<|.th t)++D.flatMap GK):=by rw[Ó,ę,<-Z5e];rfl
 rw[er]at rc;have sz:=Z4r hw hh;have ct:=Sy (PV.lst [.str "yard",š w,š h])<|T.map (λt=>Aw<|.th t)++D.flatMap GK;obtain⟨a1,b1,e1⟩:=Z4v T [] 1 (D.flatMap GK) (.sh<|sV<|C7 w h T D) (.ow (PV.lst [.str "yard",š w,š h]::(T.map (λt=>Aw<|.th t)++D.flatMap GK))) (.sh<|.lst [.int w,.int h]) .no .no hT (by simpa using J0);obtain⟨a2,b2,e2⟩:=Z4x D ([]++T.map rl) [] (1+T.length) (.sh<|sV<|C7 w h T D) (.ow (PV.lst [.str "yard",š w,š h]::(T.map (λt=>Aw<|.th t)++D.flatMap GK))) (.sh<|.lst [.int w,.int h]) a1 b1 (by simpa using hD) (by simpa using hn) (by simpa using J1);rw[ž]at e2;have lp:=e1.trans e2;rw[ϕ,ϕ]at lp;have lk:=Y3 (D:=D);rw[Y2 λd e=>by have:=(hD d<|BF e).2.2.2.1;lia]at lk;have yd:=Z4y w h (T:=T) (D:=D) (by lia) (by lia) λd hd=>by have:=(hD d hd).2.2.2.2.1;lia
 have eq:Z0 w h T (D.map zV)=.ins "Yard" ["width","height","things","days"] [.int w,.int h,.lst<|T.map rl,.lst<|(D.map zV).map bR]:=rfl;rw[eq];generalize (D.map zV).map bR=DY,D.map dD=DD,T.map rl=TH,T.map (λt=>Aw<|.th t)++D.flatMap GK=RR,((yT w h::(Zx T D).map fB).map Z2).map sV=LN,PV.lst [.str "yard",š w,š h]=YR,C7 w h T D=TX at*;unfold sV at sp lp⊢;generalize S TX=X at*;unfold yY at lp;have pl1:ė (.sh<|.str X)=true:=rfl;simp[cT,pK,ç,sp,rc,sz];have em:Bh (Nl<|Ú<|uY (Â 1) (mP<|Ç 1) qf) [.sh<|.str X,.ow (YR::RR),.sh<|.lst [.int w,.int h],.no,.no,.no,.no]=.ok (aa 1 RR) [.sh<|.str X,.ow (YR::RR),.sh<|.lst [.int w,.int h],.no,.no,.no,.no]:=by simp[Nl,ct]
 have tl:(è (a_ (cM<|Ú<|Ý ų<|Ì 4 Ø) cV cY)<|Ā<|Ļ<|eW "Yard" jY (à (Ê æ (Â 2)<|Ç 0)<|à (Ê æ (Â 2)<|Ç 1)<|Ì 3<|Ì 4 Ø)) (bc 3 4 TH DD [.sh<|.str X,.ow (YR::RR),.sh<|.lst [.int w,.int h],.no,.no,a2,b2])=.ok (.rt<|.sh<|.ins "Yard" ["width","height","things","days"] [.int w,.int h,.lst TH,.lst DY]) (bc 3 4 TH DD [.sh<|.str X,.ow (YR::RR),.sh<|.lst [.int w,.int h],.no,.no,a2,b2]):=by simp[bc,qO,lk,yd]
 have pa:([.sh<|.str X,.ow (YR::RR),.sh<|.lst [.int w,.int h],.no,.no,.no,.no]:Ć).all ė=true:=rfl;unfold Sb;rw[if_pos ⟨pa,by simp,by simp⟩];simp only[eh,en,em];rw[if_pos pa,lp];simp only[ĵ.aQ,tl];rfl
theorem Wn:∀ys:List (List Nat),lq (ys.map sV)=some ys
 |[]=>rfl|y::ys=>by rw[Ó];show(lq<|ys.map sV).map ((S y).cps.toList::·)=_;rw[Wn ys];rfl
theorem Wo:∀(ys:List (List Nat)) (B:Nat),(∀y∈ys,y.length<=B)->(ys.map bq).sum<=ys.length*B
 |[],_,_=>by simp|y::ys,B,h=>by have h1:=h y (by simp);have ih:=Wo ys B λq hq=>h q<|õ _ hq;rw[Ó,ϖ,Ĕ,sq];lia
def Wp{c:Nat}{y:Str}(hy:y=S [c]){ys:List (List Nat)}{B:Nat}(h:∀x∈ys,x.length<=B)(hl:ys.length*(B+1)<=16000000):eX (.str y) [.lst<|ys.map sV]=some (sV<|Ė [c] ys):=by rw[hy];show((lq<|ys.map sV).bind λys=>if(ys.map bq).sum+ys.length*(S [c]).length<=16777216then some (PV.str<|S<|Ė (S [c]).cps.toList ys)else none)=_;rw[Wn];have h1:=Wo ys B h;have h2:(S [c]).length=1:=rfl;show(if(ys.map bq).sum+ys.length*(S [c]).length<=16777216then some (PV.str<|S<|Ė [c] ys)else none)=_;rw[h2,if_pos (by rw[Nat.mul_add]at hl;lia)];rfl
def Z1x{ws:List (List Nat)}(h:∀x∈ws,Wd x)(hl:ws.length<=101):eX (.str " ") [.lst<|ws.map sV]=some (sV<|Z2 ws):=
 Wp SK (B:=11) (λx hx=>(h x hx).1) (by have:ws.length*(11+1)<=101*12:=eA hl (by lia);lia)
def Z2T{n:Int}(h:Nb n):n.natAbs.log2<1920:=by
 have:n.natAbs<2^1920:=by
  have h1:n.natAbs<2^34:=by unfold Nb at h;lia
  exact Ť h1 (sk (by lia)<|by lia)
 by_cases h0:n.natAbs=0
 ·rw[h0];decide
 ·exact(Nat.log2_lt h0).mpr this
def Zh{n:Int}(h:Nb n):cS [.int n]=some (š n):=by show(if n.natAbs.log2<1920then some (PV.str<|Å<|bF n)else none)=_;rw[if_pos<|Z2T h,YU];rfl
def Z2U{ns:List Int}(hn:∀n∈ns,Nb n)(hl:ns.length<=1000):ġ (gN 0) Ģ (aW cS<|É (Â 0) å) (ns.map .int) [.no] []=some (ns.map š):=by
 have:=Ğ (g:=gN 0) (mt:=Ģ) (me:=aW cS<|É (Â 0) å) PV.int š (λa=>∃s,a=[s]) ns [.no] [] ⟨_,rfl⟩ (by simp;lia) (by
  rintro x hx a ⟨s,rfl⟩;have e:=Zh<|hn x hx;exact⟨[.sh<|.int x],_,[.sh<|.int x],by simp,rfl,by simp[e,-Gn],_,rfl⟩)
 simpa using this
def G8(d:Dz):List (List Nat):=Z2 (fB<|.dy d.1 d.2.1)::d.2.2.map λo=>Z2<|fB<|.tn o
def Z4C{d:Dz}(h:Zw d):(G8 d).length<=25:=by have:=h.2.2.2.2.1;simp[G8];lia
def Z5f(w h:Int)(T:List Th)(D:List Dz):Jc w h T D=Z2 (yT w h)::(T.map (λt=>Z2<|fB<|.th t)++D.flatMap G8):=by
 unfold Jc Zx;rw[Ĝ,ę,List.map_flatMap];have:(λd:Dz=>List.map (λr=>Z2<|fB r) (Rw.dy d.1 d.2.1::d.2.2.map Rw.tn))=G8:=funext λd=>by rw[Ó,ę];rfl
 rw[this];rfl
def Z4D{w h:Int}{T:List Th}{D:List Dz}(J0:T.length<=40)(hD:∀d∈D,Zw d)(J1:D.length<=12):(Jc w h T D).length<=401:=by have:=Y9 J0 hD J1;simp[Jc];lia
def Z5g{w h:Int}(hw:1<=w/\w<=20)(hh:1<=h/\h<=20){T:List Th}(hT:∀t∈T,Z3 t.1 t.2=true){D:List Dz}(hD:∀d∈D,Zw d):∀x∈Jc w h T D,x.length<=1212:=λx hx=>by
 rcases þ.mp hx with rfl|hx
 ·obtain⟨y1,y2,y3⟩:=Wm hw hh;exact ZW y1 y3
 ·obtain⟨r,hr,rfl⟩:=Đ.mp hx;obtain⟨y1,y2,y3⟩:=Wl<|Y8 hT hD r hr;exact ZW y1 y3
def Z3B{w h:Int}(hw:1<=w/\w<=20)(hh:1<=h/\h<=20){T:List Th}(hT:∀t∈T,Z3 t.1 t.2=true)(J0:T.length<=40){D:List Dz}(hD:∀d∈D,Zw d)(J1:D.length<=12):eX (.str "\n") [.lst<|(Jc w h T D).map sV]=some (sV<|C7 w h T D):=
 Wp Y7 (B:=1212) (Z5g hw hh hT hD) (by have:=Z4D (w:=w) (h:=h) J0 hD J1;have:(Jc w h T D).length*(1212+1)<=401*1213:=eA this (by lia);lia)
def pW:Rw->List (PV×List Nat)
 |.th t=>(.str t.1,t.1.cps.toList)::t.2.map λn=>(.int n,nT n)
 |.dy l t=>[(.str "day",wC "day"),(sV l,l),(.int t,nT t)]|.tn none=>[(.str "night",wC "night")]|.tn (some r)=>[(.str "ray",wC "ray"),(.int r.1,nT r.1),(.int r.2.1,nT r.2.1),(.int r.2.2,nT r.2.2)]
theorem Z5X:∀r:Rw,(pW r).map (·.2)=fB r
 |.th t=>by unfold pW fB;rw[Ó,ę];rfl|.dy _ _=>rfl|.tn none=>rfl|.tn (some _)=>rfl
def ZX(s:String):cS [.str s]=some (sV<|wC s):=congrArg (λz=>some<|PV.str z) (Nz _).symm
theorem Z5I:∀{r:Rw},SG r->∀x∈pW r,cS [x.1]=some (sV x.2)
 |.th t,h=>fun x hx=>by
   have h':Z3 t.1 t.2=true:=h;rcases þ.mp hx with rfl|hx
   ·exact congrArg (λz=>some<|PV.str z) (Nz _).symm
   ·obtain⟨n,hn,rfl⟩:=Đ.mp hx;exact Zh<|(ZV h').1 n hn
 |.dy l t,⟨h1,h2,h3⟩=>fun x hx=>by
   have:x=(.str "day",wC "day")\/x=(sV l,l)\/x=(.int t,nT t):=by simpa[pW]using hx
   rcases this with rfl|rfl|rfl
   ·exact ZX _
   ·rfl
   ·exact Zh ⟨by lia,by lia⟩
 |.tn none,_=>fun x hx=>by
   have:x=(.str "night",wC "night"):=by simpa[pW]using hx
   subst this;exact ZX _
 |.tn (some r),⟨h1,h2,h3,h4,h5,h6⟩=>fun x hx=>by
   have:x=(.str "ray",wC "ray")\/x=(.int r.1,nT r.1)\/x=(.int r.2.1,nT r.2.1)\/x=(.int r.2.2,nT r.2.2):=by simpa[pW]using hx
   rcases this with rfl|rfl|rfl|rfl
   ·exact ZX _
   ·exact Zh ⟨by lia,by lia⟩
   ·exact Zh ⟨by lia,by lia⟩
   ·exact Zh ⟨by lia,by lia⟩
def ZQ{ws:List (PV×List Nat)}(h:∀x∈ws,cS [x.1]=some (sV x.2))(h1:∀x∈ws,Wd x.2)(hl:ws.length<=101):Ď [.sh<|.lst<|ws.map (·.1)]=.ret (.sh<|sV<|Z2<|ws.map (·.2)):=by
 have c:=Ğ (g:=gN 0) (mt:=Ģ) (me:=aW cS<|É (Â 0) å) (λx:PV×List Nat=>x.1) (λx=>sV x.2) (λa=>∃s,a=[s]) ws [.no] [] ⟨_,rfl⟩ (by simp;lia) (by
  rintro x hx a ⟨s,rfl⟩;have e:=h x hx;refine⟨[.sh x.1],_,[.sh x.1],by simp,rfl,?_,_,rfl⟩;simp[e])
 rw[ϕ]at c;have j:=Z1x (ws:=ws.map (·.2)) (λy hy=>by obtain⟨x,hx,rfl⟩:=Đ.mp hy;exact h1 x hx) (by simpa using hl);rw[ę]at j;have ec:(sV ∘ λx:PV×List Nat=>x.2)=λx=>sV x.2:=rfl;rw[ec]at j;simp[Ď,kU,ç,c,j]
def Wq{r:Rw}(h:SG r):Ď [.sh<|.lst<|(pW r).map (·.1)]=.ret (.sh<|sV<|Z2<|fB r):=by obtain⟨h1,h2,h3⟩:=Wl h;rw[<-Z5X]at h1 h3⊢;exact ZQ (Z5I h) (λx hx=>h1 _<|Đ.mpr ⟨x,hx,rfl⟩) (by simpa using h3)
def C8(t:Th):PV:=.lst (.str t.1::t.2.map .int)
def Z2V{t:Th}(h:Z3 t.1 t.2=true):Ď [.sh<|C8 t]=.ret (.sh<|sV<|Z2<|fB<|.th t):=by
 have:=Wq (r:=.th t) h;have e:(pW<|.th t).map (·.1)=.str t.1::t.2.map .int:=by unfold pW;rw[Ó,ę];rfl
 rw[e]at this;exact this
def Z1O{T:List Th}(hT:∀t∈T,Z3 t.1 t.2=true)(hl:T.length<=1000):ġ (gN 0) Ģ (Ú<|Ý Ď<|Ì 0 Ø) (T.map C8) [.no] []=some (T.map λt=>sV<|Z2<|fB<|.th t):=by
 have:=Ğ (g:=gN 0) (mt:=Ģ) (me:=Ú<|Ý Ď<|Ì 0 Ø) C8 (λt=>sV<|Z2<|fB<|.th t) (λa=>∃s,a=[s]) T [.no] [] ⟨_,rfl⟩ (by simp;lia) (by
  rintro t ht a ⟨s,rfl⟩;have e:=Z2V<|hT t ht;refine⟨[.sh<|C8 t],_,[.sh<|C8 t],by simp,rfl,?_,_,rfl⟩;simp[e])
 simpa using this
def Z4E{o:Option P3}(ho:Zz o){R:List PV}(hR:R.length<1000)(s0 s1 s2 s3 s5 s6 s7:ŗ):ŧ [s0,s1,s2,s3,.ow R,s5,s6,s7,.sh<|ϒ o]=.ok .nx [s0,s1,s2,s3,.ow<|R++[sV<|Z2<|fB<|.tn o],s5,s6,s7,.sh<|ϒ o]:=by
 have k1:R.length<16777216:=by lia
 cases o with
 |none=>have e:sV (Z2<|fB<|.tn none)=.str "night":=congrArg PV.str<|Nz _;rw[e];simp[ŧ,ϒ,zu,k1]|some r=>
  have j:=Wq (r:=.tn<|some r) ho;have e:(pW<|.tn<|some r).map (·.1)=[.str "ray",.int r.1,.int r.2.1,.int r.2.2]:=rfl;rw[e]at j;have ad:ô (.lst [.str "ray"]) (.lst [.int r.1,.int r.2.1,.int r.2.2])=some (.ow [.str "ray",.int r.1,.int r.2.1,.int r.2.2]):=by rw[qY<|by simp];rfl
  simp[ŧ,ϒ,c3,zu,k1,j,ad]
theorem Z1y(s0 s1 s2 s3 s5 s6 s7:ŗ):∀(os:List (Option P3)) (R:List PV) (s8:ŗ),(∀o∈os,Zz o)->R.length+os.length<=1000->∃Wr,ĺ (gN 8) ŧ (os.map ϒ) [s0,s1,s2,s3,.ow R,s5,s6,s7,s8]=.ok .nx [s0,s1,s2,s3,.ow<|R++os.map λo=>sV<|Z2<|fB<|.tn o,s5,s6,s7,Wr]
 |[],R,s8,_,_=>⟨s8,by simp[ĺ]⟩|o::os,R,s8,h,hl=>by rw[Ĕ]at hl;have st:=Z4E (h o<|by simp) (R:=R) (by lia) s0 s1 s2 s3 s5 s6 s7;obtain⟨Wr,e⟩:=Z1y s0 s1 s2 s3 s5 s6 s7 os (R++[sV<|Z2<|fB<|.tn o]) (.sh<|ϒ o) (λx hx=>h x<|õ _ hx) (by simp;lia);refine⟨Wr,?_⟩;rw[Ó,ĺ];show(ŧ [s0,s1,s2,s3,.ow R,s5,s6,s7,.sh<|ϒ o]).bind _=_;rw[st];refine Eq.trans e ?_;simp
theorem Z24(s0 s1 s2 s3:ŗ):∀(D:List Dz) (R:List (List Nat)) (a b c d:ŗ),(∀d∈D,Zw d)->R.length+25*D.length<=1000->∃a' b' c' d',ĺ (gT 3<|ð (gN 5)<|ð (gN 6)<|ð (gN 7) ű) aT ((D.map zV).map bR) [s0,s1,s2,s3,.ow<|R.map sV,a,b,c,d]=.ok .nx [s0,s1,s2,s3,.ow<|(R++D.flatMap G8).map sV,a',b',c',d']
 |[],R,a,b,c,d,_,_=>⟨a,b,c,d,by simp[ĺ]⟩|d::D,R,a,b,c,f,hD,hl=>by
  have hd:=hD d (by simp);obtain⟨g1,g2,g3,g4,g5,g6⟩:=id hd;rw[Ĕ]at hl;have hz:=Z4C hd;obtain⟨f1,ef⟩:=Z1y s0 s1 s2 s3 (.sh<|sV d.1) (.sh<|.int d.2.1) (.sh<|.lst<|d.2.2.map ϒ) d.2.2 (R.map sV++[sV<|Z2<|fB<|.dy d.1 d.2.1]) f g6 (by simp;lia);obtain⟨a',b',c',d',e⟩:=Z24 s0 s1 s2 s3 D (R++G8 d) (.sh<|sV d.1) (.sh<|.int d.2.1) (.sh<|.lst<|d.2.2.map ϒ) f1 (λx hx=>hD x<|õ _ hx) (by rw[ő];lia);refine⟨a',b',c',d',?_⟩;have e2:bR (zV d)=.tup [sV d.1,.int d.2.1,.lst<|d.2.2.map ϒ]:=rfl;have hg:gT 3 (ð (gN 5)<|ð (gN 6)<|ð (gN 7) ű) (bR<|zV d) [s0,s1,s2,s3,.ow<|R.map sV,a,b,c,f]=some [s0,s1,s2,s3,.ow<|R.map sV,.sh<|sV d.1,.sh<|.int d.2.1,.sh<|.lst<|d.2.2.map ϒ,f]:=by rw[e2];rfl
  have st:aT [s0,s1,s2,s3,.ow<|R.map sV,.sh<|sV d.1,.sh<|.int d.2.1,.sh<|.lst<|d.2.2.map ϒ,f]=.ok .nx [s0,s1,s2,s3,.ow<|(R++G8 d).map sV,.sh<|sV d.1,.sh<|.int d.2.1,.sh<|.lst<|d.2.2.map ϒ,f1]:=by
   have j:=Wq (r:=.dy d.1 d.2.1) ⟨g1,g2,g3⟩;have ep:(pW<|.dy d.1 d.2.1).map (·.1)=[.str "day",sV d.1,.int d.2.1]:=rfl;rw[ep]at j;have er:(R++G8 d).map sV=R.map sV++[sV<|Z2<|fB<|.dy d.1 d.2.1]++d.2.2.map (λo=>sV<|Z2<|fB<|.tn o):=by unfold G8;rw[Ĝ,Ó,ę];simp[wq]
   have k1:(R.map sV).length<16777216:=by simp;lia
   rw[er];generalize R.map sV=RR,d.2.2.map ϒ=TT,(d.2.2.map λo=>sV<|Z2<|fB<|.tn o)=OO,sV (Z2<|fB<|.dy d.1 d.2.1)=DD,sV d.1=N at*;rw[<-ef];simp[aT,j,k1]
  rw[Ó,Ó,ĺ,hg];dsimp only;rw[st];refine Eq.trans e ?_;rw[oj,ly]
def Z4F{w h:Int}(hw:1<=w/\w<=20)(hh:1<=h/\h<=20){T:List Th}(hT:∀t∈T,Z3 t.1 t.2=true)(J0:T.length<=40){D:List Dz}(hD:∀d∈D,Zw d)(J1:D.length<=12):bK [.sh<|.int w,.sh<|.int h,.bw<|T.map C8,.bw<|(D.map zV).map bR]=.ret (.sh<|sV<|C7 w h T D):=by
 obtain⟨y1,y2,y3⟩:=Wm hw hh;have j0:=ZQ (ws:=[(.str "yard",wC "yard"),(.int w,nT w),(.int h,nT h)]) (λx hx=>by
  have:x=(.str "yard",wC "yard")\/x=(.int w,nT w)\/x=(.int h,nT h):=by simpa using hx
  rcases this with rfl|rfl|rfl
  ·exact ZX _
  ·exact Zh ⟨by lia,by lia⟩
  ·exact Zh ⟨by lia,by lia⟩) (λx hx=>y1 _ (by
  have:x=(.str "yard",wC "yard")\/x=(.int w,nT w)\/x=(.int h,nT h):=by simpa using hx
  rcases this with rfl|rfl|rfl<;>simp[yT])) (by simp)
 change Ď [.sh<|.lst [.str "yard",.int w,.int h]]=.ret (.sh<|sV<|Z2<|yT w h)at j0;have c1:=Z1O hT (by lia);obtain⟨a',b',c',d',lp⟩:=Z24 (.sh<|.int w) (.sh<|.int h) (.bw<|T.map C8) (.bw<|(D.map zV).map bR) D (Z2 (yT w h)::T.map (λt=>Z2<|fB<|.th t)) .no .no .no .no hD (by simp;lia);have jn:=Z3B hw hh hT J0 hD J1;rw[Z5f]at jn;rw[c_]at lp;have er:(Z2 (yT w h)::T.map (λt=>Z2<|fB<|.th t)).map sV=sV (Z2<|yT w h)::T.map λt=>sV (Z2<|fB<|.th t):=by rw[Ó,ę];rfl
 rw[er]at lp;have ad:ô (.lst [sV<|Z2<|yT w h]) (.lst<|T.map λt=>sV<|Z2<|fB<|.th t)=some (.ow (sV (Z2<|yT w h)::T.map λt=>sV<|Z2<|fB<|.th t)):=by rw[qY (by simp;lia)];rfl
 generalize T.map C8=TH,(D.map zV).map bR=DY,(T.map λt=>sV<|Z2<|fB<|.th t)=TS,sV (Z2<|yT w h)=Z,(Z2 (yT w h)::(T.map (λt=>Z2<|fB<|.th t)++D.flatMap G8)).map sV=LL,sV (C7 w h T D)=TX at*;simp[bK,im,ç,j0,c1,ad,lp,jn]
@[simp]theorem Z68{x:Int}{n:Nat}(h:n≠0)(h2:n<1073741824):CH x (no_index (ϊ n):Int)=true:=by unfold CH;have:(no_index (ϊ n):Int)=(n:Int):=rfl;rw[this];simp;lia
def pw9:ub (.int 10) (.int 9)=some (.int 1000000000):=rfl
def G9(x:Int):Prop:=0<=x/\x<1000000000
theorem Z1z(s0 s1 s5 s7 s8:ŗ):∀(ks:List Nat) (acc:List Int) (n:Int) (s4 s6:ŗ),acc.length+ks.length<=100->(∀x∈acc,G9 x)->∃(nX:List Int) (n':Int) (a b:ŗ),ĺ (gN 4) bf (ks.map λ(i:Nat)=>PV.int (i:Int)) [s0,s1,.ow<|acc.map .int,.sh<|.int n,s4,s5,s6,s7,s8]=.ok .nx [s0,s1,.ow<|nX.map .int,.sh<|.int n',a,s5,b,s7,s8]/\nX.length=acc.length+ks.length/\∀x∈nX,G9 x
 |[],acc,n,s4,s6,_,h=>⟨acc,n,s4,s6,rfl,rfl,h⟩|k::ks,acc,n,s4,s6,hl,h=>by
  rw[Ĕ]at hl;obtain⟨nX,n',a,b,e,e2,e3⟩:=Z1z s0 s1 s5 s7 s8 ks (acc++[n%1000000000]) (n/1000000000) (.sh<|.int k) (.sh<|.int<|n%1000000000) (by simp;lia) (by
   intro x hx;rcases Ů.mp hx with hx|hx
   ·exact h x hx
   ·rw[rT.mp hx];unfold G9;lia)
  refine⟨nX,n',a,b,?_,by rw[e2];simp;lia,e3⟩;have k1:acc.length<16777216:=by lia
  have hd:ij [.int n,.int 1000000000]=some (.tup [.int<|n/1000000000,.int<|n%1000000000]):=by simp[ij]
  have st:bf [s0,s1,.ow<|acc.map .int,.sh<|.int n,.sh<|.int k,s5,s6,s7,s8]=.ok .nx [s0,s1,.ow<|(acc++[n%1000000000]).map .int,.sh<|.int<|n/1000000000,.sh<|.int k,s5,.sh<|.int<|n%1000000000,s7,s8]:=by simp[bf,pw9,hd,k1,-CJ]
  rw[Ó,ĺ];show(bf [s0,s1,.ow<|acc.map .int,.sh<|.int n,.sh<|.int k,s5,s6,s7,s8]).bind _=_;rw[st];exact e
def Rs(x:Int):Prop:=0<=x/\x<998244353
def Z5Y:Ϟ [.int 2]=some [.int 0,.int 1]:=by rfl
def Z1A(s0 s1 s4 s6 s7 s8 k:ŗ){acc:List Int}(hl:acc.length<=100){r:Int}(hr:Rs r):∃(r':Int) (a b:ŗ),ź [s0,s1,.ow<|acc.map .int,.sh<|.int r,s4,k,s6,s7,s8]=.ok .nx [s0,s1,.ow<|acc.map .int,.sh<|.int r',s4,k,s6,a,b]/\Rs r':=by
 have hd:ij [.int r,.int 4099]=some (.tup [.int<|r/4099,.int<|r%4099]):=by simp[ij]
 obtain⟨h,hh⟩:∃h,r/4099=h:=⟨_,rfl⟩;obtain⟨l,M6⟩:∃l,r%4099=l:=⟨_,rfl⟩;unfold Rs at hr;have b1:0<=h/\h<18446744073709551616:=by lia
 have b2:0<=l/\l<18446744073709551616:=by lia
 rw[hh,M6]at hd;obtain⟨S,hS⟩:∃S,l*240007+h*89+1201*(acc.length:Int)+11=S:=⟨_,rfl⟩;refine⟨S%998244353,.sh<|.int h,.sh<|.int l,?_,by unfold Rs;lia⟩;have m1:Ĭ l 240007=true:=ş (by lia) (by lia);have m2:Ĭ h 89=true:=ş (by lia) (by lia);have m3:Ĭ 1201 (acc.length:Int)=true:=ş (by lia) (by lia);simp[ź,hd,hS]
theorem Ws(s0 s4 s6:ŗ){n:Nat}(hn:n<=100):∀(f:Nat) (acc:List Int) (r:Int) (s5 s7 s8:ŗ),acc.length+f=n->(∀x∈acc,G9 x)->Rs r->∃(nX:List Int) (r':Int) (a b c:ŗ),be [s0,.sh<|.int n,.ow<|acc.map .int,.sh<|.int r,s4,s5,s6,s7,s8]=.ok .nx [s0,.sh<|.int n,.ow<|nX.map .int,.sh<|.int r',s4,a,s6,b,c]/\nX.length=n/\∀x∈nX,G9 x
 |0,acc,r,s5,s7,s8,hl,h,hr=>by
  refine⟨acc,r,s5,s7,s8,?_,by lia,h⟩;unfold be;have hm:¬((acc.length:Int)<(n:Int)):=by lia
  rw[cQ];simp[hm]
 |f+1,acc,r,s5,s7,s8,hl,h,hr=>by
  obtain⟨r1,a1,b1,e1,hr1⟩:=Z1A s0 (.sh<|.int n) s4 s6 s7 s8 (.sh<|.int 0) (acc:=acc) (by lia) hr;obtain⟨r2,a2,b2,e2,S0⟩:=Z1A s0 (.sh<|.int n) s4 s6 a1 b1 (.sh<|.int 1) (acc:=acc) (by lia) hr1;obtain⟨nX,r',a,b,c,e,q1,q2⟩:=Ws s0 s4 s6 hn f (acc++[r2/5]) r2 (.sh<|.int 1) a2 b2 (by simp;lia) (by
   intro x hx;rcases Ů.mp hx with hx|hx
   ·exact h x hx
   ·rw[rT.mp hx];unfold G9;unfold Rs at S0;lia) S0
  refine⟨nX,r',a,b,c,?_,q1,q2⟩;have hm:((acc.length:Int)<(n:Int)):=by lia
  have k1:acc.length<16777216:=by lia
  have fr:ĺ (gN 5) ź [.int 0,.int 1] [s0,.sh<|.int n,.ow<|acc.map .int,.sh<|.int r,s4,s5,s6,s7,s8]=.ok .nx [s0,.sh<|.int n,.ow<|acc.map .int,.sh<|.int r2,s4,.sh<|.int 1,s6,a2,b2]:=by rw[ĺ];show(ź [s0,.sh<|.int n,.ow<|acc.map .int,.sh<|.int r,s4,.sh<|.int 0,s6,s7,s8]).bind _=_;rw[e1];show ĺ (gN 5) ź [.int 1] _=_;rw[ĺ];show(ź [s0,.sh<|.int n,.ow<|acc.map .int,.sh<|.int r1,s4,.sh<|.int 1,s6,a1,b1]).bind _=_;rw[e2];rfl
  rw[<-e];unfold be;rw[cQ];simp[hm,Z5Y,fr,k1]
def Z0y(c:Int){n:Nat}(hn:n<=100):∃xs:List Int,Ų [.sh<|.int c,.sh<|.int n]=.ret (.ow<|xs.map .int)/\xs.length=n/\∀x∈xs,G9 x:=by
 by_cases hc:c%2=0
 ·obtain⟨acc,r,a,b,e,q1,q2⟩:=Z1z (.sh<|.int c) (.sh<|.int n) .no .no .no (ß n) [] (c/2) .no .no (by simp;lia) (by simp);have rg:=Zr (n:=n) (by lia);rw[ž]at e;have m1:Ĭ (n:Int) 1=true:=ş (by lia) (by lia);have q1':acc.length=n:=by simpa using q1
  refine⟨acc,?_,q1',q2⟩;obtain⟨nX,r',a2,b2,c2,e2,q3,q4⟩:=Ws (.sh<|.int c) a b hn 0 acc (r%998244341+5) .no .no .no (by lia) q2 (by unfold Rs;lia);have:nX=acc:=by
   unfold be at e2;rw[cQ]at e2;have hm:¬((acc.length:Int)<(n:Int)):=by lia
   simp[hm]at e2;have:=e2.1;exact((List.map_inj_right<|λ_ _ h=>by injection h).mp this).symm
  subst this;simp[Ų,gu,ç,hc,rg,e,e2]
 ·have hc1:c%2=1:=by lia
  obtain⟨nX,r',a2,b2,c2,e2,q3,q4⟩:=Ws (.sh<|.int c) .no .no hn n [] ((c/2)%998244341+5) .no .no .no (by simp) (by simp) (by unfold Rs;lia);rw[ž]at e2;have m1:Ĭ (n:Int) 0=true:=ş (by lia) (by lia);have rg:Ϟ [.int 0]=some []:=by rfl
  refine⟨nX,?_,q3,q4⟩;simp[Ų,gu,ç,hc1,rg,ĺ,e2]
def Z5J(xs:List Int)(h:xs.length=11):∃a b c d e f g h i j k,xs=[a,b,c,d,e,f,g,h,i,j,k]:=by obtain⟨a,x,rfl,h1⟩:=ln h;obtain⟨b,y,rfl,h2⟩:=ln h1;obtain⟨c,d,e,f,g,k,i,j,l,rfl⟩:=VW h2;exact⟨a,b,c,d,e,f,g,k,i,j,l,rfl⟩
def Ax{a b:String}(h:decide (Å a=Å b)=false):¬(Å a=Å b):=of_decide_eq_false h
def sm(x:Int):Prop:=-100<=x/\x<=100
def Pl(x:Int):Prop:=-1000000000<=x/\x<=1000000000
def Z5K{x y h:Int}(a:Pl x)(b:Pl y)(c:1<=h/\h<=1000000000):Z3 "post" [x,y,h]=true:=by unfold Pl at a b;unfold Z3 Zk dP As;simp;lia
def Z5h{x y u v h:Int}(a:sm x)(b:sm y)(a':sm u)(b':sm v)(hn:¬(x=u/\y=v))(c:1<=h/\h<=1000000000):Z3 "fence" [x,y,u,v,h]=true:=by have h1:¬(Å "fence"=Å "post"):=Ax (by decide+kernel);unfold sm at a b a' b';unfold Z3;rw[if_neg h1,if_pos rfl];unfold Zc Zi dP As;simp;omega
def Z5Z{w:Str}(hw:w="sail" \/w="house"){x y u v h:Int}(a:sm x)(b:sm y)(a':sm u)(b':sm v)(h1:x<u)(h2:y<v)(c:1<=h/\h<=1000000000):Z3 w [x,y,u,v,h]=true:=by
 have hb:Zf [x,y,u,v,h]=true:=by unfold sm at a b a' b';unfold Zf Zi dP As;simp;omega
 unfold Z3;rcases hw with rfl|rfl
 ·rw[if_neg (Ax<|by decide+kernel),if_neg (Ax<|by decide+kernel),if_pos rfl];exact hb
 ·rw[if_neg (Ax<|by decide+kernel),if_neg (Ax<|by decide+kernel),if_neg (Ax<|by decide+kernel),if_neg (Ax<|by decide+kernel),if_pos rfl];exact hb
def Z5i{x y z a b c d e f:Int}(h1:Pl x)(h2:Pl y)(h3:0<=z/\z<=1000000000)(h4:Pl a)(h5:Pl b)(h6:0<=c/\c<=1000000000)(h7:Pl d)(h8:Pl e)(h9:0<=f/\f<=1000000000):Z3 "cloth" [x,y,z,a,b,c,d,e,f]=true:=by unfold Z3;rw[if_neg (Ax<|by decide+kernel),if_neg (Ax<|by decide+kernel),if_neg (Ax<|by decide+kernel),if_pos rfl];unfold Pl at*;unfold Zd dP Au;simp;omega
def SM(t:Th):Prop:=(∃x y h,t=(Å "post",[x,y,h])/\sm x/\sm y/\(1<=h/\h<=1000000000))\/(∃x y z a b c d e f,t=(Å "cloth",[x,y,z,a,b,c,d,e,f])/\sm x/\sm y/\(0<=z/\z<=100)/\sm a/\sm b/\(0<=c/\c<=100)/\sm d/\sm e/\(0<=f/\f<=100))\/(¬t.1=Å "post"/\ ¬t.1=Å "cloth"/\Z3 t.1 t.2=true)
def fm(a:Int){b:Int}(h:0<b):∃X,a.fmod b=X/\0<=X/\X<b:=⟨_,rfl,by rw[rD _<|by lia];exact⟨Int.emod_nonneg a (by lia),Int.emod_lt_of_pos a h⟩⟩
def Z5j(c:Int){w h:Int}(hw:1<=w/\w<=20)(hh:1<=h/\h<=20):∃x0 x1 x2 x3 x4 x5 x6 x7 x8 x9 M7 X Y H:Int,ϓ [.sh<|.int c,.sh<|.int w,.sh<|.int h]=FR.of (VC [.sh<|.int c,.sh<|.int w,.sh<|.int h,.ow [.int x0,.int x1,.int x2,.int x3,.int x4,.int x5,.int x6,.int x7,.int x8,.int x9,.int M7],.sh<|.int<|X-4,.sh<|.int<|Y-4,.sh<|.int<|X-4+1+x3%5,.sh<|.int<|Y-4+1+x4%5,.sh<|.int H,.no,.no])/\(0<=X/\X<2*w+7)/\(0<=Y/\Y<2*h+7)/\1<=H/\H<=1000000000:=by
 obtain⟨xs,eg,hl,-⟩:=Z0y c (n:=11) (by lia);obtain⟨x0,x1,x2,x3,x4,x5,x6,x7,x8,x9,M7,rfl⟩:=Z5J xs hl;change Ų [.sh<|.int c,.sh<|.int 11]=.ret (.ow [.int x0,.int x1,.int x2,.int x3,.int x4,.int x5,.int x6,.int x7,.int x8,.int x9,.int M7])at eg;have mw:Ĭ 2 w=true:=ş (by lia) (by lia);have mh:Ĭ 2 h=true:=ş (by lia) (by lia);have n1:¬(2*w+7=0):=by lia
 have n2:¬(2*h+7=0):=by lia
 obtain⟨X,f1,bX⟩:=fm x1 (show 0<2*w+7 by lia);obtain⟨Y,f2,bY⟩:=fm x2 (show 0<2*h+7 by lia);have st:ϓ [.sh<|.int c,.sh<|.int w,.sh<|.int h]=FR.of ((è _<|è _<|è _<|è _<|è _<|è _<|è _ VC) [.sh<|.int c,.sh<|.int w,.sh<|.int h,.no,.no,.no,.no,.no,.no,.no,.no]):=rfl;refine⟨x0,x1,x2,x3,x4,x5,x6,x7,x8,x9,M7,X,Y,if x6%8=5then 1000000000-x5%1000 else 1+x5%8,?_,bX,bY,by split<;>lia⟩;rw[st];by_cases hb:x6%8=5<;>simp -implicitDefEqProofs [eg,n1,n2,f1,f2,hb,pw9,-CJ]
abbrev tsM(i:Int)(A B:M Fl):M Fl:=è (a_ (ay<|Ê Ĺ (Ê ĥ (Ê æ (Â 3)<|Ç 0)<|Ç 5)<|mC<|.int i) A cY) B
def Ha{a:Ć}{x i:Int}{xs:List PV}{A B:M Fl}{r:FR}(hk:¬x%5=i)(hB:FR.of (B a)=r)(h:a[3]?=some (.ow (.int x::xs)):=by rfl):FR.of (tsM i A B a)=r:=by rw[<-hB];simp[h,hk]
def SN{a:Ć}{x i:Int}{xs:List PV}{A B:M Fl}{r:FR}(hk:x%5=i)(hB:FR.of (è A B a)=r)(h:a[3]?=some (.ow (.int x::xs)):=by rfl):FR.of (tsM i A B a)=r:=by rw[<-hB];simp[h,hk]
def Z5L(c:Int){w h:Int}(hw:1<=w/\w<=20)(hh:1<=h/\h<=20):∃t:Th,ϓ [.sh<|.int c,.sh<|.int w,.sh<|.int h]=.ret (.ow (.str t.1::t.2.map .int))/\SM t:=by
 obtain⟨x0,x1,x2,x3,x4,x5,x6,x7,x8,x9,M7,X,Y,H,pre,bX,bY,bH⟩:=Z5j c hw hh;rw[pre];clear pre;have s1:sm (X-4):=⟨by lia,by lia⟩;have s2:sm (Y-4):=⟨by lia,by lia⟩;have s3:sm (X-4+1+x3%5):=⟨by lia,by lia⟩;have s4:sm (Y-4+1+x4%5):=⟨by lia,by lia⟩;by_cases k0:x0%5=0
 ·obtain⟨PX,f3,p3⟩:=fm x1 (show 0<w+2 by lia);obtain⟨PY,f4,p4⟩:=fm x2 (show 0<h+2 by lia);have n3:¬(w+2=0):=by lia
  have n4:¬(h+2=0):=by lia
  exact⟨(Å "post",[PX-1,PY-1,H]),SN k0 (by simp[n3,n4,f3,f4]),.inl ⟨PX-1,PY-1,H,rfl,⟨by lia,by lia⟩,⟨by lia,by lia⟩,bH⟩⟩
 by_cases k1:x0%5=1
 ·obtain⟨q,hq⟩:∃q,x7%4=q:=⟨_,rfl⟩;have fe:∀u v:Int,sm u->sm v->¬(X-4=u/\Y-4=v)->SM (Å "fence",[X-4,Y-4,u,v,H]):=λu v a b n=>.inr (.inr ⟨Ax (by decide+kernel),Ax (by decide+kernel),Z5h s1 s2 a b n bH⟩);obtain⟨u,v,hi,hf⟩:∃u v:Int,æ (.lst [.tup [.int<|X-4+1+x3%5,.int<|Y-4],.tup [.int<|X-4+1+x3%5,.int<|Y-4+1+x4%5],.tup [.int<|X-4,.int<|Y-4+1+x4%5],.tup [.int<|X-4-2,.int<|Y-4+1+x4%5]]) (.int q)=some (.tup [.int u,.int v])/\SM (Å "fence",[X-4,Y-4,u,v,H]):=by
   have hq4:q=0\/q=1\/q=2\/q=3:=by lia
   rcases hq4 with rfl|rfl|rfl|rfl
   ·exact⟨_,_,rfl,fe _ _ s3 s2<|by lia⟩
   ·exact⟨_,_,rfl,fe _ _ s3 s4<|by lia⟩
   ·exact⟨_,_,rfl,fe _ _ s1 s4<|by lia⟩
   ·exact⟨_,_,rfl,fe (X-4-2) _ ⟨by lia,by lia⟩ s4<|by lia⟩
  exact⟨(_,[_,_,_,_,_]),Ha k0 (SN k1<|by simp[hq,hi]),hf⟩
 have bx:∀s:Str,(s="sail" \/s="house")->Z3 s [X-4,Y-4,X-4+1+x3%5,Y-4+1+x4%5,H]=true:=λs hs=>Z5Z hs s1 s2 s3 s4 (by lia) (by lia) bH;by_cases k2:x0%5=2
 ·exact⟨(Å "sail",[_,_,_,_,_]),Ha k0 (Ha k1<|SN k2<|by simp),.inr<|.inr ⟨Ax (by decide+kernel),Ax (by decide+kernel),bx (Å "sail")<|.inl rfl⟩⟩
 by_cases k3:x0%5=3
 ·exact⟨(Å "house",[_,_,_,_,_]),Ha k0 (Ha k1<|Ha k2<|SN k3<|by simp),.inr<|.inr ⟨Ax (by decide+kernel),Ax (by decide+kernel),bx (Å "house")<|.inr rfl⟩⟩
 have k4:x0%5=4:=by lia
 have ms:Ĭ (M7%7) (x6%2)=true:=ş (by lia) (by lia);obtain⟨C,hC,hCb⟩:∃C:Int,M7%7*(x6%2)=C/\(0<=C/\C<=100):=by
  refine⟨_,rfl,?_⟩;have:x6%2=0\/x6%2=1:=by lia
  rcases this with h|h<;>rw[h]<;>lia
 exact⟨(Å "cloth",[X-4,Y-4,x5%7,X-4+1+x3%5,Y-4-2+x7%5,x8%7,X-4-3+x9%7,Y-4+1+x4%5,C]),Ha k0 (Ha k1<|Ha k2<|Ha k3<|by simp[ms,hC]),.inr<|.inl ⟨_,_,_,_,_,_,_,_,_,rfl,s1,s2,⟨by lia,by lia⟩,s3,⟨by lia,by lia⟩,⟨by lia,by lia⟩,⟨by lia,by lia⟩,s4,hCb⟩⟩
def slI(xs:List Int)(lo hi:Option Int):∃ys:List Int,eV (xs.map PV.int) lo hi=ys.map PV.int/\ys.length<=xs.length:=by refine⟨(xs.drop<|HT.mq xs.length 0 lo).take (HT.mq xs.length xs.length hi-HT.mq xs.length 0 lo),?_,by simp;lia⟩;unfold eV;rw[Ę,List.map_take,List.map_drop]
def ZY(ns:List Int)(k:Int):∃v:Int,ō [.sh<|.lst<|ns.map .int,.sh<|.int k]=.ret (.sh<|.int v)/\0<=v:=by
 obtain⟨ys,e,_⟩:=slI ns (some k)<|some<|k+1;cases ys with
 |nil=>exact⟨0,by simp[ō,jX,e,ĺ],by lia⟩|cons y ys=>exact⟨_,by simp[ō,jX,e,ĺ,pF];rfl,by lia⟩
theorem Z60:∀(xs:List Int),xs.length=4->∃a b c d,xs=[a,b,c,d]
 |[a,b,c,d],_=>⟨a,b,c,d,rfl⟩
def Z3C(c:Int):∃o:Option P3,ϥ [.sh<|.int c]=.ret (.sh<|ϒ o)/\Zz o:=by
 obtain⟨xs,eg,hl,hx⟩:=Z0y c (n:=4) (by lia);obtain⟨a,b,d,e,rfl⟩:=Z60 xs hl;clear hl hx;have Wt:Ų [.sh<|.int c,.sh<|.int 4]=.ret (.ow [.int a,.int b,.int d,.int e]):=eg;clear eg;by_cases h4:e%6=4
 ·exact⟨none,by simp[ϥ,dz,Wt,h4,ϒ],trivial⟩
 ·by_cases h5:e%6=5
  ·exact⟨some (a%2000001-1000000,b%2000001-1000000,1+d%1000000),by simp[ϥ,dz,Wt,h5,ϒ,c3],by unfold Zz Qy;dsimp only;lia⟩
  ·exact⟨some (a%7-3,b%7-3,1+d%3),by simp[ϥ,dz,Wt,h4,h5,ϒ,c3],by unfold Zz Qy;dsimp only;lia⟩
theorem Z2W(ns:List Int)(v:Int)(j:Nat)(hj:j<=100):∀(ks:List Nat),(∀k∈ks,k<=100)->∀(acc:List PV) (s1:ŗ),acc.length+ks.length<=1000->∃os:List (Option P3),ġ (gN 3) Ģ (Ú<|Ý ϥ<|à (Ú<|ü ô (Ú<|Ý ō<|Ì 0<|à (Ú<|ü ô (Ú<|ü ô (Ç 5)<|Ê ą (Ç 4)<|Â 2)<|Â 3) Ø)<|Ê bU (Â 1)<|Ç 12) Ø) (ks.map λ(i:Nat)=>PV.int (i:Int)) [.sh<|.lst<|ns.map .int,.sh<|.int v,.sh<|.int j,s1] acc=some (acc++os.map ϒ)/\os.length=ks.length/\∀o∈os,Zz o
 |[],_,acc,s1,_=>⟨[],by simp[ġ],rfl,by simp⟩|k::ks,hk,acc,s1,hl=>by
  rw[Ĕ]at hl;have hk0:=hk k (by simp);obtain⟨p,e0,_⟩:=ZY ns<|5+4*j+k;obtain⟨o,e1,e2⟩:=Z3C<|p+v/12;obtain⟨os,q1,q2,q3⟩:=Z2W ns v j hj ks (λx hx=>hk x<|õ _ hx) (acc++[ϒ o]) (.sh<|.int k) (by simp;lia);refine⟨o::os,?_,by simp[q2],?_⟩
  ·have hc:acc.length<16777216:=by lia
   have m0:Ĭ 4 (j:Int)=true:=ş (by lia) (by lia);rw[Ó,ġ,Ó];simp[e0,e1,hc];simpa using q1
  ·intro x hx;rcases þ.mp hx with rfl|hx
   ·exact e2
   ·exact q3 x hx
def Zp:Nat->List Nat
 |0=>[117]|1=>[117,118]|_=>[118]
def Z4G(k:Nat):Nm (Zp k):=by
 match k with
 |0=>exact⟨by simp[Zp],by simp[Zp],λc hc=>by simp[Zp]at hc;lia⟩
 |1=>exact⟨by simp[Zp],by simp[Zp],λc hc=>by simp[Zp]at hc;lia⟩
 |_+2=>exact⟨by simp[Zp],by simp[Zp],λc hc=>by simp[Zp]at hc;lia⟩
def Z4H{j:Nat}(h:j<3):æ (.lst [.str "u",.str "uv",.str "v"]) (.int j)=some (sV<|Zp j):=by
 match j,h with
 |0,_=>kernel_rfl|1,_=>kernel_rfl|2,_=>kernel_rfl
def Z3D(x m:Int)(hx:1<=x/\x<=1000000000):∃t:Int,æ (.lst [.int 1,.int 1000000000,.int 1000000000,.int x]) (.int<|m%4)=some (.int t)/\1<=t/\t<=1000000000:=by
 have h:m%4=0\/m%4=1\/m%4=2\/m%4=3:=by lia
 rcases h with h|h|h|h<;>rw[h]
 ·exact⟨1,rfl,by lia,by lia⟩
 ·exact⟨1000000000,rfl,by lia,by lia⟩
 ·exact⟨1000000000,rfl,by lia,by lia⟩
 ·exact⟨x,rfl,hx⟩
theorem Z0Y(ns:List Int){v:Int}(hv:0<=v):∀(f:Nat) (D:List Dz) (s3 s4 s5 s6:ŗ),D.length+f<=3->(∀d∈D,Zw d/\d.2.2.length<=4)->D.map (·.1)=(ß D.length).map Zp->(D.map λd=>d.2.2.length)=(ß D.length).map (λ(j:Nat)=>(1+(v/12+(j:Int))%4).toNat)->∃(D':List Dz) (a b c d:ŗ),ĺ (gN 3) ar ((aL D.length f).map λ(i:Nat)=>PV.int (i:Int)) [.sh<|.lst<|ns.map .int,.sh<|.int v,.ow<|(D.map zV).map bR,s3,s4,s5,s6]=.ok .nx [.sh<|.lst<|ns.map .int,.sh<|.int v,.ow<|(D'.map zV).map bR,a,b,c,d]/\D'.length=D.length+f/\(∀d∈D',Zw d/\d.2.2.length<=4)/\D'.map (·.1)=(ß D'.length).map Zp/\(D'.map λd=>d.2.2.length)=(ß D'.length).map (λ(j:Nat)=>(1+(v/12+(j:Int))%4).toNat)
 |0,D,s3,s4,s5,s6,_,hD,hd,hw=>⟨D,s3,s4,s5,s6,rfl,rfl,hD,hd,hw⟩|f+1,D,s3,s4,s5,s6,hf,hD,hd,hw=>by
  obtain⟨n,NL⟩:∃n:Nat,1+(v/12+(D.length:Int))%4=n:=⟨(1+(v/12+(D.length:Int))%4).toNat,by lia⟩;obtain⟨os,q1,q2,q3⟩:=Z2W ns v D.length (by lia) (ß n) (λj hj=>by have:=Ţ.mp hj;lia) [] .no (by simp;lia);rw[ϕ]at q1;rw[rQ]at q2;have rg:=Zr (n:=n) (by lia);obtain⟨t,t1,t2,t3⟩:=Z3D (1+v%366) (v/5+(D.length:Int)/2) (by lia);have nx:=Z4H (j:=D.length) (by lia);have hok:Zw (Zp D.length,t,os):=⟨Z4G _,t2,t3,by show 1<=os.length;lia,by show os.length<=24;lia,q3⟩;obtain⟨D',a,b,c,d,e2,z1,z2,z3⟩:=Z0Y ns hv f (D++[(Zp D.length,t,os)]) (.sh<|.int D.length) (.sh<|.int n) (.sh<|.lst<|os.map ϒ) (.sh<|.int t) (by simp;lia) (by
   intro x hx;rcases Ů.mp hx with hx|hx
   ·exact hD x hx
   ·rw[rT.mp hx];exact⟨hok,by show os.length<=4;lia⟩) (by
   rw[Ĝ,hd,ő,Ĕ,fE,rZ,Ĝ];rfl) (by
   rw[Ĝ,hw,ő,Ĕ,fE,rZ,Ĝ];show _++[os.length]=_++[_];dsimp only;rw[q2,NL];rfl)
  refine⟨D',a,b,c,d,?_,by rw[z1];simp;lia,z2,z3⟩;have em:((D++[(Zp D.length,t,os)]).map zV).map bR=(D.map zV).map bR++[.tup [sV<|Zp D.length,.int t,.lst<|os.map ϒ]]:=by rw[Ĝ,Ĝ];rfl
  have k1:((D.map zV).map bR).length<16777216:=by simp;lia
  have st:ar [.sh<|.lst<|ns.map .int,.sh<|.int v,.ow<|(D.map zV).map bR,.sh<|.int D.length,s4,s5,s6]=.ok .nx [.sh<|.lst<|ns.map .int,.sh<|.int v,.ow<|((D++[(Zp D.length,t,os)]).map zV).map bR,.sh<|.int D.length,.sh<|.int n,.sh<|.lst<|os.map ϒ,.sh<|.int t]:=by rw[em];generalize (D.map zV).map bR=DD,os.map ϒ=OS,ns.map PV.int=L,((ß n).map λ(i:Nat)=>PV.int (i:Int))=RG,sV (Zp D.length)=Z at*;simp[ar,NL,rg,jQ,q1,t1,nx,k1]
  rw[gM,Ó,ĺ];show(ar [.sh<|.lst<|ns.map .int,.sh<|.int v,.ow<|(D.map zV).map bR,.sh<|.int D.length,s4,s5,s6]).bind _=_;rw[st];rw[ő,Ĕ,fE]at e2;exact e2
def Z5k(ns:List Int):∃D:List Dz,dA [.sh<|.lst<|ns.map .int]=.ret (.ow<|(D.map zV).map bR)/\(1<=D.length/\D.length<=3)/\(∀d∈D,Zw d/\d.2.2.length<=4)/\D.map (·.1)=(ß D.length).map Zp/\(D.map λd=>d.2.2.length).sum<=9:=by
 obtain⟨v,e,hv⟩:=ZY ns 1;obtain⟨n,NL⟩:∃n:Nat,1+v/4%3=n:=⟨(1+v/4%3).toNat,by lia⟩;obtain⟨D,a,b,c,d,e2,z1,z2,z3,z4⟩:=Z0Y ns hv n [] .no .no .no .no (by simp;lia) (by simp) rfl rfl;rw[fE,Nat.zero_add]at z1;refine⟨D,?_,by lia,z2,z3,?_⟩
 rotate_left
 ·rw[z4];have:D.length=1\/D.length=2\/D.length=3:=by lia
  rcases this with h|h|h<;>rw[h]<;>simp[rZ]<;>lia
 have rg:=Zr (n:=n) (by lia);rw[jA]at rg;rw[fE]at e2;simp at e2;simp[dA,kq,ç,e,NL,rg,e2]
def Z61{D:List Dz}(hl:D.length<=3)(h:D.map (·.1)=(ß D.length).map Zp):(D.map (·.1)).Nodup:=by
 rw[h]
 match D.length,hl with
 |0,_=>decide|1,_=>decide|2,_=>decide|3,_=>decide
def MG(s:String):PV.str (Å s)=sV (wC s):=congrArg PV.str (Nz _).symm
def sg(b:Bool):Nat:=if b then 35 else 46
def Z62:PV.str (Å "#")=sV [35]:=by rw[MG];congr 1
def Z63:PV.str (Å ".")=sV [46]:=by rw[MG];congr 1
def Z3E{n A:Nat}(hn:n<=1000):ġ (gN 1) Ģ (a_ (cM<|Ê iH (Ê qJ (Â 0)<|Â 1)<|Ç 1) (mC<|.str "#")<|mC<|.str ".") ((ß n).map λ(i:Nat)=>PV.int (i:Int)) [.sh<|.int A,.no] []=some ((ß n).map λk=>sV [sg<|A.testBit k]):=by
 have hc:=Ğ (g:=gN 1) (mt:=Ģ) (me:=a_ (cM<|Ê iH (Ê qJ (Â 0)<|Â 1)<|Ç 1) (mC<|.str "#")<|mC<|.str ".") (λ(i:Nat)=>PV.int (i:Int)) (λk=>sV [sg<|A.testBit k]) (λb=>∃a,b=[.sh<|.int A,a]) (ß n) [.sh<|.int A,.no] [] ⟨_,rfl⟩ (by simp;lia) (by
  rintro k hk b ⟨a,rfl⟩;have sb:=YO A k;have so:uc (A:Int) (k:Int)=true:=by unfold uc;simp
  refine⟨[.sh<|.int A,.sh<|.int k],_,[.sh<|.int A,.sh<|.int k],rfl,rfl,?_,_,rfl⟩;have e1:=Z62;have e2:=Z63;cases hd:A.testBit k<;>rw[hd]at sb<;>simp at sb<;>simp[so,sb,sg,e1,e2])
 simpa using hc
def ZB(w:Nat)(p:Nat->Bool)(q:Nat):List Nat:=(ß w).map λx=>sg<|p<|q*w+x
def cX(w h:Nat)(p:Nat->Bool):List (List Nat):=(ß h).map λq=>ZB w p q
def Wu{α:Type}(xs:List α){a b:Nat}(hb:b<=xs.length)(ha:a<=b):eV xs (some (a:Int)) (some (b:Int))=(xs.drop a).take (b-a):=by unfold eV;rw[HT.xL,HT.xL,wS hb,wS<|by lia]
def Z4I{α:Type}(f:Nat->α){w h q:Nat}(hq:q<h):eV ((ß<|w*h).map f) (some ((q*w:Nat):Int)) (some ((q*w+w:Nat):Int))=(ß w).map λx=>f (q*w+x):=by
 have hl:q*w+w<=w*h:=by have:=Nat.mul_le_mul_right w (show q+1<=h from hq);rw[sq,wO,lC h w]at this;exact this
 rw[Wu _ (by simp;exact hl)<|by lia];apply List.ext_getElem
 ·simp;lia
 ·intro n h1 h2;simp
theorem Z2X:∀xs:List Nat,Ė [] (xs.map λx=>[x])=xs
 |[]=>rfl|[x]=>rfl|x::y::r=>by have:=Z2X (y::r);rw[Ó]at this;rw[Ó,Ó];show[x]++[]++Ė [] ([y]::r.map λx=>[x])=_;rw[this];rfl
def Z3G{xs:List Nat}(hl:xs.length<=1000):eX (.str "") [.lst<|xs.map λx=>sV [x]]=some (sV xs):=by
 have e:(xs.map λx=>sV [x])=(xs.map λx=>[x]).map sV:=by rw[ę];rfl
 rw[e];show((lq<|(xs.map λx=>[x]).map sV).bind λys=>if(ys.map bq).sum+ys.length*(Å "").length<=16777216then some (PV.str<|S<|Ė (Å "").cps.toList ys)else none)=_;rw[Wn];have h1:=Wo (xs.map λx=>[x]) 1 (λy hy=>by obtain⟨x,_,rfl⟩:=Đ.mp hy;simp);have h2:(Å "").length=0:=rfl;have h3:(Å "").cps.toList=[]:=rfl;show(if((xs.map λx=>[x]).map bq).sum+(xs.map λx=>[x]).length*(Å "").length<=16777216then some (PV.str<|S<|Ė (Å "").cps.toList (xs.map λx=>[x]))else none)=_;rw[Ę]at h1;rw[h2,h3,Z2X,if_pos<|by lia];rfl
def c47:Å "/"=S [47]:=by decide+kernel
def SO(w:Nat)(p:Nat->Bool)(q:Nat):(ZB w p q).length=w:=by unfold ZB;simp
def Z2Y{w h A:Nat}(hw:w<=60)(hh:w*h<=1000)(h2:h<=1000):ġ (gN 2) Ģ (FU eX (mC<|.str "")<|É (Ú<|uY (Â 0) (mP<|Ê ą (Â 2)<|Â 1)<|mP<|Ú<|ü ô (Ê ą (Â 2)<|Â 1)<|Â 1) å) ((ß h).map λ(i:Nat)=>PV.int (i:Int)) [.bw<|(ß<|w*h).map λk=>sV [sg<|A.testBit k],.sh<|.int w,.no] []=some ((cX w h A.testBit).map sV):=by
 have hc:=Ğ (g:=gN 2) (mt:=Ģ) (me:=FU eX (mC<|.str "")<|É (Ú<|uY (Â 0) (mP<|Ê ą (Â 2)<|Â 1)<|mP<|Ú<|ü ô (Ê ą (Â 2)<|Â 1)<|Â 1) å) (λ(i:Nat)=>PV.int (i:Int)) (λq=>sV<|ZB w A.testBit q) (λb=>∃a,b=[.bw<|(ß<|w*h).map λk=>sV [sg<|A.testBit k],.sh<|.int w,a]) (ß h) [.bw<|(ß<|w*h).map λk=>sV [sg<|A.testBit k],.sh<|.int w,.no] [] ⟨_,rfl⟩ (by simp;lia) (by
  rintro q hq b ⟨a,rfl⟩;have hq:=Ţ.mp hq;have ct:=Z4I (λk=>sV [sg<|A.testBit k]) (w:=w) hq;have j:=Z3G (xs:=ZB w A.testBit q) (by rw[SO];lia);have e:((ZB w A.testBit q).map λx=>sV [x])=(ß w).map λx=>sV [sg<|A.testBit<|q*w+x]:=by unfold ZB;rw[ę];rfl
  rw[e]at j;have m1:Ĭ (q:Int) (w:Int)=true:=ş (by lia) (by lia);have c1:((q*w:Nat):Int)=(q:Int)*(w:Int):=lu q w;have c2:((q*w+w:Nat):Int)=(q:Int)*(w:Int)+(w:Int):=by rw[wt,c1]
  rw[c1,c2]at ct;refine⟨_,_,[.bw<|(ß<|w*h).map λk=>sV [sg<|A.testBit k],.sh<|.int w,.sh<|.int q],rfl,rfl,?_,_,rfl⟩;simp[m1,ct,j])
 have e:(cX w h A.testBit).map sV=(ß h).map λq=>sV (ZB w A.testBit q):=by unfold cX;rw[ę];rfl
 rw[e];simpa using hc
def Z3H{w h:Nat}(hw:w<=60)(hh:h<=1000)(p:Nat->Bool):eX (.str "/") [.lst<|(cX w h p).map sV]=some (sV<|Ė [47] (cX w h p)):=Wp c47 (B:=60) (λx hx=>by
 obtain⟨q,_,rfl⟩:=Đ.mp hx;rw[SO];exact hw) (by
 have:(cX w h p).length*61<=1000*61:=eA (by unfold cX;simp;exact hh) (by lia);lia)
def Z3I{w h:Nat}{T:List Th}{D:List Dy}{i j:Nat}(hi:i<D.length)(hj:j<D[i].2.2.length)(hl:D[i].2.2.length<=1000):f_ [.sh<|Z0 w h T D,.sh<|.int i,.sh<|.int j]=.ret (.sh .non):=by
 have yd:=Jb w h T D;have tv:=Zy (w:=w) (h:=h) (T:=T) hi;have Jp:(D.map bR).length=D.length:=by simp
 have a1:(i:Int)<((D.map bR).length:Int):=by lia
 have EA:(D[i].2.2.map ϒ).length=D[i].2.2.length:=by simp
 have a2:(j:Int)<((D[i].2.2.map ϒ).length:Int):=by lia
 have a3:(D[i].2.2.map ϒ).length<=16777216:=by lia
 generalize Z0 w h T D=Yv,D.map bR=DV,D[i].2.2.map ϒ=TV at*;have hs:dW [.sh Yv,.sh<|.int i]=.ret (.sh<|.bl true):=by simp[dW,nQ,yd];lia
 simp[f_,ng,hs,tv,a2]
def Z3J{w h:Nat}{T:List Th}(Y:Ew w h T){D:List Dy}{i j:Nat}(hi:i<D.length)(hj:j<D[i].2.2.length)(hl:D[i].2.2.length<=1000)(ho:G5 D[i].2.2[j]):cq [.sh<|Z0 w h T D,.sh<|.lst [.int i,.int j]]=.ret (.sh<|sV<|Ė [47] (cX w h (jt w h T D[i].2.2[j]).testBit)):=by
 have yw:=Nv w h T D;have yh:=Qv w h T D;have ct:=Z3I (w:=w) (h:=h) (T:=T) hi hj hl;have tv:=Zy (w:=w) (h:=h) (T:=T) hi;have dk:=V5 Y.w0 Y.w1 Y.h1 Y.wh Y.tl D Y.tg ho;have hx:(D[i].2.2.map ϒ)[j]?=some (ϒ D[i].2.2[j]):=by simp[hj]
 generalize jt w h T D[i].2.2[j]=A at*;have s1:=Z3E (n:=w*h) (A:=A) Y.wh;have s2:=Z2Y (A:=A) Y.w1 Y.wh Y.h1;have s3:=Z3H Y.w1 Y.h1 A.testBit;have r1:=Zr (n:=w*h) (by have:=Y.wh;lia);have r2:=Zr (n:=h) (by have:=Y.h1;lia);have m1:Ĭ (w:Int) (h:Int)=true:=ş (by have:=Y.w1;lia) (by have:=Y.w1;lia);have c1:((w*h:Nat):Int)=(w:Int)*(h:Int):=lu w h;rw[c1]at r1;have k1:((D[i].2.2.map ϒ).length:Int)=D[i].2.2.length:=by simp
 have k2:(j:Int)<((D[i].2.2.map ϒ).length:Int):=by lia
 simp[cq,kY,ç,ct,tv,hx,dk,yw,yh,m1,r1,r2,jQ,s1,s2,s3]
theorem Z0Z(f:Nat->PV):∀(n a:Nat),aa a ((aL a n).map f)=(aL a n).map λ(k:Nat)=>PV.tup [.int k,f k]
 |0,a=>rfl|n+1,a=>by rw[gM,Ó,Ó];show _::aa (a+1) _=_;rw[Z0Z f n<|a+1]
def Z5M(f:Nat->PV)(n:Nat):aa 0 ((ß n).map f)=(ß n).map λ(k:Nat)=>PV.tup [.int k,f k]:=by rw[jA];exact Z0Z f n 0
def Z0z(os:List (Option P3)):(ß os.length).map (λj=>os.getD j none)=os:=by refine List.ext_getElem (by simp) λi h1 h2=>?_;simp at h1;simp[h1]
def Z25(os:List (Option P3)):aa 0 (os.map ϒ)=(ß os.length).map λ(k:Nat)=>PV.tup [.int k,ϒ<|os.getD k none]:=by
 have h:=Z5M (λj=>ϒ<|os.getD j none) os.length;have e:(ß os.length).map (λj=>ϒ<|os.getD j none)=os.map ϒ:=by have:=congrArg (List.map ϒ)<|Z0z os;rw[ę]at this;exact this
 rw[e]at h;exact h
def Z1B{os:List (Option P3)}{j:Nat}(h:j<os.length):os.getD j none∈os:=by rw[aJ,ţ h];exact Œ h
def Zb(w:Nat)(T:List Th)(os:List (Option P3))(k:Nat):List Nat:=(ß os.length).filter λj=>!kz w T (os.getD j none) k
def nV(j:Nat):PV:=.int (j:Int)
def Z1P{w h:Nat}{T:List Th}(Y:Ew w h T){lg:Nat}{D:List Dy}(hD:∀d∈D,ZI lg d)(Qz:lg<=100){i k:Nat}(hi:i<D.length)(hk:k<w*h):iA [.sh<|Z0 w h T D,.sh<|.int i,.sh<|pt<|gG w k]=.ret (.ow<|(Zb w T D[i].2.2 k).map nV):=by
 have e1:=Wa (T:=T) D Y.w0 hk;have e2:=Z4m (w:=w) (h:=h) (T:=T) hi;have e3:=Zy (w:=w) (h:=h) (T:=T) hi;have hd:=hD D[i] (Œ hi);obtain⟨os,Jq⟩:∃os,D[i].2.2=os:=⟨_,rfl⟩;have An:os.length<=lg/\∀o∈os,G5 o:=by rw[<-Jq];exact hd.2
 rw[Jq]at e3⊢;have hc:=dq (g:=gT 2<|ð (gN 2)<|ð (gN 3) ű) (mt:=gm<|cM<|Ú<|Ý aB<|Ì 0<|Ì 3<|Ì 1 Ø) (me:=é 2) (λ(j:Nat)=>PV.tup [.int j,ϒ<|os.getD j none]) nV (λj=>!kz w T (os.getD j none) k) (λc=>∃a b,c=[.sh<|Z0 w h T D,.sh<|pt<|gG w k,a,b]) (ß os.length) [.sh<|Z0 w h T D,.sh<|pt<|gG w k,.no,.no] [] ⟨_,_,rfl⟩ (by simp;lia) (by
  rintro j hj c ⟨a,b,rfl⟩;have hj:=Ţ.mp hj;have ei:=YL Y D (An.2 _<|Z1B hj) (k:=k) (by have:=Y.wh;lia);generalize os.getD j none=o,Z0 w h T D=Yv at*;generalize ϒ o=O,pt (gG w k)=Pv at*;refine⟨[.sh Yv,.sh Pv,.sh<|.int j,.sh O],[.sh Yv,.sh Pv,.sh<|.int j,.sh O],by simp,by simp[ei],λ_=>⟨_,_,rfl⟩,λ_=>⟨[.sh Yv,.sh Pv,.sh<|.int j,.sh O],by simp[nV],_,_,rfl⟩⟩)
 rw[ϕ]at hc;have he:=Z25 os;rw[<-he]at hc;unfold Zb;simp[iA,pP,ç,e1,e2,e3,hc]
def Zv(w:Nat)(T:List Th)(k:Nat)(D:List Dy)(i:Nat):Option (Nat×Nat):=((ß (D.getD i gK).2.2.length).find? λj=>!kz w T ((D.getD i gK).2.2.getD j none) k).map λj=>(i,j)
def pV:Option (Nat×Nat)->PV
 |none=>.non|some q=>.tup [.int q.1,.int q.2]
theorem Z10{α β:Type}(p:α->Bool)(f:α->β):∀l:List α,l.findSome? (λx=>if p x=true then some (f x)else none)=(l.find? p).map f
 |[]=>rfl|x::l=>by
  rw[lB,da];cases h:p x with
  |true=>simp|false=>simpa using Z10 p f l
def Z1Q{w h:Nat}{T:List Th}(Y:Ew w h T){lg:Nat}{D:List Dy}(hD:∀d∈D,ZI lg d)(Qz:lg<=100)(hl:D.length<=100){k:Nat}(hk:k<w*h):e_ [.sh<|Z0 w h T D,.sh<|pt<|gG w k]=.ret (.sh<|pV<|(ß D.length).findSome? (Zv w T k D)):=by
 have e1:=Wa (T:=T) D Y.w0 hk;have yd:=Jb w h T D;have rr:=Zr (n:=D.length) (by lia);have main:=iX (g:=gN 2) (mb:=ge) (λ(i:Nat)=>PV.int (i:Int)) (Zv w T k D) (λq=>.sh<|.tup [.int q.1,.int q.2]) (λf=>∃a b c,f=[.sh<|Z0 w h T D,.sh<|pt<|gG w k,a,b,c]) (ß D.length) (by
  rintro i hi f ⟨a,b,c,rfl⟩;have hi:=Ţ.mp hi;have e3:=Zy (w:=w) (h:=h) (T:=T) hi;have hd:=hD D[i] (Œ hi);have hg:D.getD i gK=D[i]:=by rw[aJ,ţ hi];rfl
  obtain⟨os,Jq⟩:∃os,D[i].2.2=os:=⟨_,rfl⟩;have An:os.length<=lg/\∀o∈os,G5 o:=by rw[<-Jq];exact hd.2
  have hf:Zv w T k D i=(ß os.length).findSome? (λj=>if(!kz w T (os.getD j none) k)=true then some (i,j)else none):=by unfold Zv;rw[hg,Jq,Z10]
  rw[Jq]at e3;have inner:=iX (g:=gT 2<|ð (gN 3)<|ð (gN 4) ű) (mb:=gc) (λ(j:Nat)=>PV.tup [.int j,ϒ<|os.getD j none]) (λj=>if(!kz w T (os.getD j none) k)=true then some (i,j)else none) (λq=>.sh<|.tup [.int ((q.1:Nat):Int),.int ((q.2:Nat):Int)]) (λf=>∃b c,f=[.sh<|Z0 w h T D,.sh<|pt<|gG w k,.sh<|.int i,b,c]) (ß os.length) (by
   rintro j hj f ⟨b,c,rfl⟩;have hj:=Ţ.mp hj;have ei:=YL Y D (An.2 _<|Z1B hj) (k:=k) (by have:=Y.wh;lia);generalize os.getD j none=o,Z0 w h T D=Yv at*;generalize ϒ o=O,pt (gG w k)=Pv,kz w T o k=bb at*;refine⟨[.sh Yv,.sh Pv,.sh<|.int i,.sh<|.int j,.sh O],by simp,?_⟩;cases bb with
   |false=>exact .inl ⟨(i,j),[.sh Yv,.sh Pv,.sh<|.int i,.sh<|.int j,.sh O],by simp,by simp[gc,ei]⟩|true=>exact .inr ⟨[.sh Yv,.sh Pv,.sh<|.int i,.sh<|.int j,.sh O],by simp,by simp[gc,ei],_,_,rfl⟩) [.sh<|Z0 w h T D,.sh<|pt<|gG w k,.sh<|.int i,b,c] ⟨_,_,rfl⟩
  rw[<-Z25 os,<-hf]at inner;refine⟨[.sh<|Z0 w h T D,.sh<|pt<|gG w k,.sh<|.int i,b,c],rfl,?_⟩;rcases inner with⟨r,e,q1,q2⟩|⟨e,q1,q2,b',c',rfl⟩
  ·refine .inl ⟨r,e,q1,?_⟩;generalize Z0 w h T D=Yv,pt (gG w k)=Pv,os.map ϒ=OV at*;simp[ge,e3,q2]
  ·refine .inr ⟨[.sh<|Z0 w h T D,.sh<|pt<|gG w k,.sh<|.int i,b',c'],q1,?_,_,_,_,rfl⟩;generalize Z0 w h T D=Yv,pt (gG w k)=Pv,os.map ϒ=OV at*;simp[ge,e3,q2]) [.sh<|Z0 w h T D,.sh<|pt<|gG w k,.no,.no,.no] ⟨_,_,_,rfl⟩
 have J9:(D.map bR).length=D.length:=by simp
 have rr':Ϟ [.int ((D.map bR).length:Int)]=some ((ß D.length).map λ(i:Nat)=>PV.int (i:Int)):=by rw[J9];exact rr
 generalize Z0 w h T D=Yv,pt (gG w k)=Pv,D.map bR=DV at*;rcases main with⟨r,e,q1,q2⟩|⟨e,q1,q2,_⟩
 ·rw[q1];simp[e_,kj,ç,e1,yd,rr',q2,pV]
 ·rw[q1];simp[e_,kj,ç,e1,yd,rr',q2,pV]
def NB(js:List Nat):List Nat:=if js=[]then[45]else Z2 (js.map λ(j:Nat)=>nT (j:Int))
def Wv:PV.str (Å "-")=sV [45]:=by rw[MG];congr 1
def Zg{j:Nat}(h:j<=100000):Nb (j:Int):=⟨by lia,by lia⟩
def Ww{w k:Nat}{T:List Th}{os:List (Option P3)}{j:Nat}(h:j∈Zb w T os k):j<os.length:=Ţ.mp (wv.mp h).1
def Z1C(w k:Nat)(T:List Th)(os:List (Option P3)):(Zb w T os k).length<=os.length:=by unfold Zb;have:=wJ (λj=>!kz w T (os.getD j none) k)<|ß os.length;rw[rQ]at this;exact this
def Z1D{js:List Nat}(h:∀j∈js,j<=100)(hl:js.length<=100):eX (.str " ") [.lst<|(js.map λ(j:Nat)=>(j:Int)).map š]=some (sV<|Z2<|js.map λ(j:Nat)=>nT (j:Int)):=by have:=Z1x (ws:=js.map λ(j:Nat)=>nT (j:Int)) (λx hx=>by obtain⟨j,hj,rfl⟩:=Đ.mp hx;exact ZA<|Zg (by have:=h j hj;lia)) (by simp;lia);rw[ę]at this⊢;exact this
def Z4J{w h:Nat}{T:List Th}(Y:Ew w h T){lg:Nat}{D:List Dy}(hD:∀d∈D,ZI lg d)(Qz:lg<=100){i k:Nat}(hi:i<D.length)(hk:k<w*h):bO [.sh<|Z0 w h T D,.sh<|.lst [.int i,.int ((k%w:Nat):Int),.int ((k/w:Nat):Int)]]=.ret (.sh<|sV<|NB<|Zb w T D[i].2.2 k):=by
 have e:=Z1P Y hD Qz hi hk;have hd:=(hD D[i] (Œ hi)).2.1;have hj:∀j∈Zb w T D[i].2.2 k,j<=100:=λj hj=>by have:=Ww hj;lia
 have hl:=Z1C w k T D[i].2.2;have ei:((Zb w T D[i].2.2 k).map nV)=((Zb w T D[i].2.2 k).map λ(j:Nat)=>(j:Int)).map .int:=by rw[ę];rfl
 rw[ei]at e;have c:=Z2U (ns:=(Zb w T D[i].2.2 k).map λ(j:Nat)=>(j:Int)) (λn hn=>by obtain⟨j,h1,rfl⟩:=Đ.mp hn;exact Zg (by have:=hj j h1;lia)) (by simp;lia);have jn:=Z1D hj (by lia);unfold pt gG at e;dsimp only at e;unfold NB;generalize Z0 w h T D=Yv,((k%w:Nat):Int)=x,((k/w:Nat):Int)=y at*;have ds:=Wv;cases hjs:Zb w T D[i].2.2 k with
 |nil=>rw[hjs]at e;simp at e;simp[bO,iL,e,ds]|cons j js=>
  rw[hjs]at e c jn;have jv:¬(j::js=[]):=by simp
  rw[if_neg jv];obtain⟨q,qs,hq⟩:∃q qs,((j::js).map λ(j:Nat)=>(j:Int)).map PV.int=q::qs:=⟨_,_,rfl⟩;rw[hq]at e c;generalize ((j::js).map λ(j:Nat)=>(j:Int)).map š=W,Z2 ((j::js).map λ(j:Nat)=>nT (j:Int))=R at*;simp[bO,iL,ç,e,c,jn]
def Z5N{w h:Nat}(hw:w<=60)(hh:h<=1000)(hw0:0<w){k:Nat}(hk:k<w*h):iB [.sh<|.tup [.int ((k%w:Nat):Int),.int ((k/w:Nat):Int)],.sh<|.int w]=.ret (.sh<|.int k):=by
 have h2:=(ZG (k:=k) (h:=h) hw0).mpr hk;have a3:(0:Int)<=((k/w:Nat):Int):=lr _;have a4:((k/w:Nat):Int)<(h:Int):=wu.mpr h2;have e:((k/w:Nat):Int)*(w:Int)+((k%w:Nat):Int)=k:=by rw[<-lu,<-wt,lC,wR]
 generalize ((k%w:Nat):Int)=x,((k/w:Nat):Int)=y at*;have m1:Ĭ y (w:Int)=true:=ş (by lia) (by lia);simp[iB,pR,m1,e]
def Z2Z{w h:Nat}{T:List Th}(Y:Ew w h T){lg:Nat}{D:List Dy}(hD:∀d∈D,ZI lg d){k:Nat}(hk:k<w*h)(hn:Nb (iM w T D (λ_=>0) k)):bo [.sh<|Z0 w h T D,.sh<|.lst [.int ((k%w:Nat):Int),.int ((k/w:Nat):Int)]]=.ret (.sh<|š<|iM w T D (λ_=>0) k):=by
 have e1:=Wa (T:=T) D Y.w0 hk;have e2:=YQ Y hD;have e3:=Z5N Y.w1 Y.h1 Y.w0 hk;have yw:=Nv w h T D;have hx:(ju (w*h)<|iM w T D λ_=>0)[k]?=some (.int<|iM w T D (λ_=>0) k):=by unfold ju;simp[hk]
 have st:=Zh hn;unfold pt gG at e1;dsimp only at e1;generalize Z0 w h T D=Yv,((k%w:Nat):Int)=x,((k/w:Nat):Int)=y,ju (w*h) (iM w T D λ_=>0)=L,iM w T D (λ_=>0) k=V at*;simp[bo,ky,e1,e2,e3,yw,hx,st]
def J2(D:List Dy):Option (Nat×Nat)->List Nat
 |none=>[45]|some q=>(D.getD q.1 gK).1.cps.toList++[32]++nT (q.2:Int)
def Z3L{w h:Nat}{T:List Th}{D:List Dy}{i j:Nat}(hi:i<D.length)(hj:j<=100000)(hl:(D[i].1).length<=1000):iC [.sh<|Z0 w h T D,.sh<|.int i,.sh<|.int j]=.ret (.sh<|sV<|D[i].1.cps.toList++[32]++nT (j:Int)):=by
 have yd:=Jb w h T D;have hx:(D.map bR)[i]?=some (bR D[i]):=by simp[hi]
 have nm:dX [.sh<|Z0 w h T D,.sh<|.int i]=.ret (.sh<|.str D[i].1):=by generalize Z0 w h T D=Yv at*;simp[dX,nS,yd,hx];simp[bR]
 have hs:D[i].1=S D[i].1.cps.toList:=(Nz _).symm;have ll:D[i].1.cps.toList.length<=1000:=by simpa[bC]using hl
 rw[hs]at nm;generalize D[i].1.cps.toList=l at*;have hn:=Zg hj;have e1:fQ++S l=S l:=eI (by simp[sP,fQ]);have e3:S l++Å " "=S (l++[32]):=by rw[SK];exact eI (by simp[sP])
 have e4:S (l++[32])++S (nT j)=S (l++[32]++nT j):=eI (by simp[sP]);have ln:=(ZU hn.1 hn.2).2;have k1:(S l).length<=16777216:=by rw[Zs];lia
 have k3:(S<|l++[32]).length<=16777216:=by rw[Zs];simp;lia
 have k4:(S<|l++[32]++nT j).length<=16777216:=by rw[Zs];simp;lia
 have lg:=Z2T hn;have st:=YU (j:Int);have js:∀s0 s1,IS [Ec<|é 3,mC<|.str " ",Ec<|é 2] fQ [s0,s1,.sh<|.int (j:Int),.sh<|.str<|S l]=.ok (sV<|l++[32]++nT (j:Int)) [s0,s1,.sh<|.int (j:Int),.sh<|.str<|S l]:=λs0 s1=>by unfold sV;simp only[Gm,Gk,Mn,mC,OX,oh,BD,ĵ.aQ,e1,e3,e4,k1,k3,k4,lg,st,if_true]
 simp only[iC,pS];simp[nm,-Gm,-Gk,js]
def Z30{w h:Nat}{T:List Th}(Y:Ew w h T){lg:Nat}{D:List Dy}(hD:∀d∈D,ZI lg d)(Qz:lg<=100)(hl:D.length<=100)(hs:∀d∈D,d.1.length<=1000){k:Nat}(hk:k<w*h):Ϻ [.sh<|Z0 w h T D,.sh<|.lst [.int ((k%w:Nat):Int),.int ((k/w:Nat):Int)]]=.ret (.sh<|sV<|J2 D<|(ß D.length).findSome? (Zv w T k D)):=by
 have e:=Z1Q Y hD Qz hl hk;have ds:=Wv;unfold pt gG at e;dsimp only at e;cases hf:(ß D.length).findSome? (Zv w T k D)with
 |none=>rw[hf]at e;generalize Z0 w h T D=Yv,((k%w:Nat):Int)=x,((k/w:Nat):Int)=y at*;simp[Ϻ,fj,e,pV,J2,ds,zu]|some q=>
  rw[hf]at e;obtain⟨i,hi,hq⟩:=List.exists_of_findSome?_eq_some hf;have hi:=Ţ.mp hi;unfold Zv at hq;rw[eB]at hq;obtain⟨j,hj,rfl⟩:=hq;have hj1:=Ţ.mp<|List.mem_of_find?_eq_some hj;have hg:D.getD i gK=D[i]:=by rw[aJ,ţ hi];rfl
  rw[hg]at hj1;have J9:=(hD D[i] (Œ hi)).2.1;have tt:=Z3L (w:=w) (h:=h) (T:=T) (D:=D) hi (j:=j) (by lia)<|hs _<|Œ hi;have:J2 D (some (i,j))=D[i].1.cps.toList++[32]++nT (j:Int):=by unfold J2;dsimp only;rw[hg]
  rw[this];generalize D[i].1.cps.toList++[32]++nT (j:Int)=R,Z0 w h T D=Yv,((k%w:Nat):Int)=x,((k/w:Nat):Int)=y at*;simp[Ϻ,fj,e,pV,tt,zu]
def mS{α:Type}{P:α->Prop}{a:α}{l:List α}(h:P a)(t:∀x∈l,P x):∀x∈a::l,P x:=λx hx=>by
 rcases þ.mp hx with rfl|hx
 ·exact h
 ·exact t x hx
def GL{α:Type}{P:α->Prop}:∀x∈([]:List α),P x:=λx hx=>by cases hx
def Z42{W:List PV}{k:Nat}{ns:List Int}(hk:k<=W.length)(hW:W.drop k=ns.map š)(hn:∀n∈ns,Nb n)(hl:ns.length<=1000):Ł [.bw W,.sh<|.int k]=.ret (.ow<|ns.map .int):=by have c:=Sw W k hk;rw[hW]at c;have e:=YZ hn hl (sl:=.sh<|.lst<|ns.map š)<|.inl rfl;simp[Ł,ir,c,e,zu]
def Z31{w h:Nat}{T:List Th}{D:List Dy}{i:Nat}(hi:i<D.length):dX [.sh<|Z0 w h T D,.sh<|.int i]=.ret (.sh<|.str D[i].1):=by
 have yd:=Jb w h T D;have hx:(D.map bR)[i]?=some (bR D[i]):=by simp[hi]
 simp[dX,nS,yd,hx];simp[bR]
theorem Z26{w h:Nat}{T:List Th}{D:List Dy}{i:Nat}(hi:i<D.length)(hs:∀d∈D,Ě d.1=true)(hn:(D.map (·.1)).Nodup):∀(n a:Nat) (s:ŗ),a<=i->i<a+n->a+n<=D.length->ĺ (gN 2) aC ((aL a n).map λ(i:Nat)=>PV.int (i:Int)) [.sh<|Z0 w h T D,.sh<|.str D[i].1,s]=.ok (.rt<|.sh<|.int i) [.sh<|Z0 w h T D,.sh<|.str D[i].1,.sh<|.int i]
 |0,a,s,h1,h2,_=>by lia|n+1,a,s,h1,h2,h3=>by
  have ha:a<D.length:=by lia
  have e:=Z31 (w:=w) (h:=h) (T:=T) ha;have q:=Ź (hs _<|Œ ha)<|hs _<|Œ hi;rw[gM,Ó,ĺ];by_cases z:a=i
  ·subst z;rw[decide_eq_true rfl]at q;generalize Z0 w h T D=Yv,D[a].1=X at*;simp[aC,e,q]
  ·have ne:¬D[a].1=D[i].1:=fun y=>z (by
    have:=(ww (xs:=D.map (·.1)) (i:=a) (j:=i) (h₀:=by simpa using ha) (h₁:=by simpa using hi) hn).mp (by simpa using y);exact this)
   rw[decide_eq_false ne]at q;have ih:=Z26 (w:=w) (h:=h) (T:=T) hi hs hn n (a+1) (.sh<|.int a) (by lia) (by lia) (by lia);generalize Z0 w h T D=Yv,D[i].1=X at*;have st:aC [.sh Yv,.sh<|.str X,.sh<|.int a]=.ok .nx [.sh Yv,.sh<|.str X,.sh<|.int a]:=by simp[aC,e,q]
   show(aC [.sh Yv,.sh<|.str X,.sh<|.int a]).bind _=_;rw[st];exact ih
def Z3M{w h:Nat}{T:List Th}{D:List Dy}{i:Nat}(hi:i<D.length)(hs:∀d∈D,Ě d.1=true)(hn:(D.map (·.1)).Nodup)(hl:D.length<=1000):bP [.sh<|Z0 w h T D,.sh<|.str D[i].1]=.ret (.sh<|.int i):=by
 have yd:=Jb w h T D;have lp:=Z26 (w:=w) (h:=h) (T:=T) hi hs hn D.length 0 .no (by lia) (by lia) (by lia);have rg:=Zr (n:=D.length) (by lia);rw[jA]at rg;have Jp:(D.map bR).length=D.length:=by simp
 have EA:(D.map bR).length<=16777216:=by lia
 rw[<-Jp]at rg;generalize Z0 w h T D=Yv,D[i].1=X at*;rw[Jp]at rg;generalize ((aL 0 D.length).map λ(i:Nat)=>PV.int (i:Int))=RG at*;rw[<-Jp]at rg;generalize D.map bR=DV at*;simp[bP,nk,yd,rg,lp]
def SQ:List (String×MF):=[("answer_dark",cq),("answer_lit",bO),("answer_hours",bo),("answer_first",Ϻ)]
def Z5l{Y:PV}{wd:Str}{x:PV}{i:Nat}{ns:List Int}{f:String}{mf:MF}{r:RV}(r1:Go "ROWS" ZD (.str wd) (.cls "ROWS")=some (.bl false))(r2:Gp "ROWS" ZD (.cls "ROWS") (.str wd)=some (.tup [.int 1,.int ns.length,.cls f]))(dc:bP [.sh Y,.sh x]=.ret (.sh<|.int i))
 (hn:∀n∈ns,Nb n)(hl:ns.length<=100)(hf:SQ.lookup f=some mf)(ha:mf [.sh Y,.sh<|.lst (.int i::ns.map .int)]=.ret r):gE [.sh Y,.bw (.str wd::x::ns.map š)]=.ret r:=by
 have nb:Ł [.bw (.str wd::x::ns.map š),.sh<|.int 2]=.ret (.ow<|ns.map .int):=Z42 (k:=2) (by simp) rfl hn (by lia);have ct:eV (.str wd::x::ns.map š) (some 1) (some 2)=[x]:=by have:=Wu (.str wd::x::ns.map š) (a:=1) (b:=2) (by simp) (by lia);exact this
 have al:ô (.lst [.int i]) (.lst<|ns.map .int)=some (.ow (.int i::ns.map .int)):=qY (by simp;lia);have ln:((ns.map š).length:Int)=ns.length:=by simp
 have l2:(ns.map š).length<=1000:=by simp;lia
 unfold SQ at hf;generalize ns.map š=W at*;have e1:(W.length:Int)+1+1=1+1+(ns.length:Int):=by lia
 have l3:W.length+1+1<=16777216:=by lia
 have e2:(W.length:Int)+1+1=2+(ns.length:Int):=by lia
 simp[gE,qv,ç,r1,r2,ct,e1,nb,jQ,ġ,dc,al,hf,ha]
def Z5m{Y:PV}{wd:Str}{ns:List Int}{f:String}{mf:MF}{r:RV}(r1:Go "ROWS" ZD (.str wd) (.cls "ROWS")=some (.bl false))(r2:Gp "ROWS" ZD (.cls "ROWS") (.str wd)=some (.tup [.int 0,.int ns.length,.cls f]))
 (hn:∀n∈ns,Nb n)(hl:ns.length<=100)(hf:SQ.lookup f=some mf)(ha:mf [.sh Y,.sh<|.lst<|ns.map .int]=.ret r):gE [.sh Y,.bw (.str wd::ns.map š)]=.ret r:=by
 have nb:Ł [.bw (.str wd::ns.map š),.sh<|.int 1]=.ret (.ow<|ns.map .int):=Z42 (k:=1) (by simp) rfl hn (by lia);have ct:eV (.str wd::ns.map š) (some 1) (some 1)=[]:=by have:=Wu (.str wd::ns.map š) (a:=1) (b:=1) (by simp) (by lia);exact this
 have al:ô (.lst []) (.lst<|ns.map .int)=some (.ow<|ns.map .int):=qY (by simp;lia);have ln:((ns.map š).length:Int)=ns.length:=by simp
 have l2:(ns.map š).length<=1000:=by simp;lia
 unfold SQ at hf;generalize ns.map š=W at*;have e1:(W.length:Int)+1=1+0+(ns.length:Int):=by lia
 have l3:W.length+1<=16777216:=by lia
 have e2:(W.length:Int)+1=1+(ns.length:Int):=by lia
 simp[gE,qv,ç,r1,r2,ct,e1,nb,jQ,ġ,al,hf,ha]
def Z1(Y:PV):PV:=.ins "Desk" ["yard"] [Y]
def Z64:Ě (Å "put")=true:=by decide+kernel
def Z5O:Ě (Å "take")=true:=by decide+kernel
def SR{Y:PV}{s:String}{ws:List (List Nat)}{r:RV}(hs:Ě (Å s)=true)(h1:decide (Å s=Å "put")=false)(h2:decide (Å s=Å "take")=false)(hW:∀x∈wC s::ws,Wd x)(hl:ws.length<=100)(aw:gE [.sh Y,.bw (.str s::ws.map sV)]=.ret r):ľ [.sh<|Z1 Y,.sh<|sV<|Z2 (wC s::ws)]=.ret r:=by
 have sp:=SJ (c:=32) (by lia) SK (l:=Z2 (wC s::ws)) (by have:=ZW hW (by simp;lia);lia);rw[Y6 hW (by simp),Ó,<-MG]at sp;have q1:=Ź hs Z64;have q2:=Ź hs Z5O;rw[h1]at q1;rw[h2]at q2;have f:ŏ ["Desk"] (Å "yard") (Z1 Y)=some Y:=by unfold ŏ Z1;simp
 generalize Z1 Y=DV at*;change dU (.str<|S<|Z2 (wC s::ws)) _=_ at sp;show ľ [.sh DV,.sh<|.str<|S<|Z2 (wC s::ws)]=_;simp[ľ,qW,sp,q1,q2,f,aw]
structure Ds(w h:Nat)(T:List Th)(D:List Dz):Prop where
 y:Ew w h T
 l:D.length<=3
 d:∀d∈D,Zw d/\d.2.2.length<=4
 n:(D.map (·.1)).Nodup
 q:(D.map λd=>d.2.2.length).sum<=9
theorem Z43:∀{o:Option P3},Zz o->G5 o
 |none,_=>trivial|some r,h=>by unfold Zz Qy at h;unfold G5 RB;lia
def Ds.day{w h:Nat}{T:List Th}{D:List Dz}(X:Ds w h T D):∀d∈D.map zV,ZI 4 d:=λd hd=>by obtain⟨z,hz,rfl⟩:=Đ.mp hd;obtain⟨⟨_,h1,h2,_,_,h3⟩,h4⟩:=X.d z hz;exact⟨⟨h1,h2⟩,h4,λo ho=>Z43<|h3 o ho⟩
theorem Ds.ok{w h:Nat}{T:List Th}{D:List Dz}(X:Ds w h T D):∀d∈D.map zV,Ě d.1=true/\d.1.length<=1000:=λd hd=>by obtain⟨z,hz,rfl⟩:=Đ.mp hd;obtain⟨_,h1,h2⟩:=(X.d z hz).1.1;refine⟨pU.ok λc hc=>by have:=h2 c hc;lia,?_⟩;show(S z.1).length<=1000;rw[Zs];lia
def Ds.nd{w h:Nat}{T:List Th}{D:List Dz}(X:Ds w h T D):((D.map zV).map (·.1)).Nodup:=by
 have e:(D.map zV).map (·.1)=(D.map (·.1)).map S:=by rw[ę,ę];rfl
 rw[e];exact List.pairwise_map.mpr (X.n.imp λh e=>h<|by simpa using congrArg (λz:Str=>z.cps.toList) e)
abbrev Z4(w h:Nat)(T:List Th)(D:List Dz):PV:=Z0 w h T<|D.map zV
def Ds.dc{w h:Nat}{T:List Th}{D:List Dz}(X:Ds w h T D){i:Nat}(hi:i<D.length):bP [.sh<|Z4 w h T D,.sh<|sV D[i].1]=.ret (.sh<|.int i):=by
 have GY:i<(D.map zV).length:=by simpa using hi
 have:=Z3M (w:=w) (h:=h) (T:=T) GY (λd hd=>(X.ok d hd).1) X.nd (by have:=X.l;simp;lia);rw[wK]at this;exact this
def Ds.nm{w h:Nat}{T:List Th}{D:List Dz}(X:Ds w h T D){i:Nat}(hi:i<D.length):Wd D[i].1:=(X.d _<|Œ hi).1.1.wd
def ZN{j:Nat}(h:j<=1000):Wd (nT (j:Int)):=ZA (Zg<|by lia)
def SS(nm:List Nat)(j:Nat):List Nat:=Z2 [wC "dark",nm,nT (j:Int)]
def Wx(nm:List Nat)(p q:Nat):List Nat:=Z2 [wC "lit",nm,nT (p:Int),nT (q:Int)]
def Z32(p q:Nat):List Nat:=Z2 [wC "first",nT (p:Int),nT (q:Int)]
def Z33(p q:Nat):List Nat:=Z2 [wC "hours",nT (p:Int),nT (q:Int)]
def MJ{s:String}(h:((wC s).length<=11/\(wC s).all (λc=>decide<|33<=c/\c<256)=true):=by decide+kernel):Wd (wC s):=NA h
def Z3O{w h:Nat}{T:List Th}{D:List Dz}(X:Ds w h T D){i j:Nat}(hi:i<D.length)(hj:j<D[i].2.2.length):ľ [.sh<|Z1<|Z4 w h T D,.sh<|sV<|SS D[i].1 j]=.ret (.sh<|sV<|Ė [47] (cX w h (jt w h T D[i].2.2[j]).testBit)):=by
 obtain⟨⟨_,_,_,_,_,h3⟩,h4⟩:=X.d _<|Œ hi;have GY:i<(D.map zV).length:=by simpa using hi
 have eg:(D.map zV)[i].2.2=D[i].2.2:=by rw[wK];rfl
 have a:=Z3J X.y (D:=D.map zV) GY (j:=j) (by rw[eg];exact hj) (by rw[eg];lia) (by simp only[eg];exact Z43<|h3 _<|Œ hj);simp only[eg]at a;have b:=Z5l (Y:=Z4 w h T D) (wd:="dark") (x:=sV D[i].1) (ns:=[(j:Int)]) (f:="answer_dark") (by kernel_rfl) (by kernel_rfl) (X.dc hi) (by simp;exact Zg<|by lia) (by simp) rfl a;exact SR (s:="dark") (ws:=[D[i].1,nT (j:Int)]) (by decide+kernel) (by decide+kernel) (by decide+kernel) (mS MJ<|mS (X.nm hi)<|mS (ZN<|by lia) GL) (by simp) b
def Z4K{w h:Nat}{T:List Th}{D:List Dz}(X:Ds w h T D){i k:Nat}(hi:i<D.length)(hk:k<w*h):ľ [.sh<|Z1<|Z4 w h T D,.sh<|sV<|Wx D[i].1 (k%w) (k/w)]=.ret (.sh<|sV<|NB<|Zb w T D[i].2.2 k):=by
 have GY:i<(D.map zV).length:=by simpa using hi
 have eg:(D.map zV)[i].2.2=D[i].2.2:=by rw[wK];rfl
 have a:=Z4J X.y X.day (by lia) GY hk;rw[eg]at a;have h1:=cz k X.y.w0;have h2:=(ZG (k:=k) (h:=h) X.y.w0).mpr hk;have h3:=X.y.w1;have h4:=X.y.h1;have b:=Z5l (Y:=Z4 w h T D) (wd:="lit") (x:=sV D[i].1) (ns:=[((k%w:Nat):Int),((k/w:Nat):Int)]) (f:="answer_lit") (by kernel_rfl) (by kernel_rfl) (X.dc hi) (mS (Zg<|by lia)<|mS (Zg<|by lia) GL) (by simp) rfl a;exact SR (s:="lit") (ws:=[D[i].1,nT ((k%w:Nat):Int),nT ((k/w:Nat):Int)]) (by decide+kernel) (by decide+kernel) (by decide+kernel) (mS MJ<|mS (X.nm hi)<|mS (ZN<|by lia)<|mS (ZN<|by lia) GL) (by simp) b
def Z34{w h:Nat}{T:List Th}{D:List Dz}(X:Ds w h T D){k:Nat}(hk:k<w*h):ľ [.sh<|Z1<|Z4 w h T D,.sh<|sV<|Z32 (k%w)<|k/w]=.ret (.sh<|sV<|J2 (D.map zV)<|(ß (D.map zV).length).findSome? (Zv w T k<|D.map zV)):=by have a:=Z30 X.y X.day (by lia) (by have:=X.l;simp;lia) (λd hd=>(X.ok d hd).2) hk;have h1:=cz k X.y.w0;have h2:=(ZG (k:=k) (h:=h) X.y.w0).mpr hk;have h3:=X.y.w1;have h4:=X.y.h1;have b:=Z5m (Y:=Z4 w h T D) (wd:="first") (ns:=[((k%w:Nat):Int),((k/w:Nat):Int)]) (f:="answer_first") (by kernel_rfl) (by kernel_rfl) (mS (Zg<|by lia)<|mS (Zg<|by lia) GL) (by simp) rfl a;exact SR (s:="first") (ws:=[nT ((k%w:Nat):Int),nT ((k/w:Nat):Int)]) (by decide+kernel) (by decide+kernel) (by decide+kernel) (mS MJ<|mS (ZN<|by lia)<|mS (ZN<|by lia) GL) (by simp) b
def Z35{w h:Nat}{T:List Th}{D:List Dz}(X:Ds w h T D){k:Nat}(hk:k<w*h)(hn:Nb (iM w T (D.map zV) (λ_=>0) k)):ľ [.sh<|Z1<|Z4 w h T D,.sh<|sV<|Z33 (k%w)<|k/w]=.ret (.sh<|š<|iM w T (D.map zV) (λ_=>0) k):=by have a:=Z2Z X.y X.day hk hn;have h1:=cz k X.y.w0;have h2:=(ZG (k:=k) (h:=h) X.y.w0).mpr hk;have h3:=X.y.w1;have h4:=X.y.h1;have b:=Z5m (Y:=Z4 w h T D) (wd:="hours") (ns:=[((k%w:Nat):Int),((k/w:Nat):Int)]) (f:="answer_hours") (by kernel_rfl) (by kernel_rfl) (mS (Zg<|by lia)<|mS (Zg<|by lia) GL) (by simp) rfl a;exact SR (s:="hours") (ws:=[nT ((k%w:Nat):Int),nT ((k/w:Nat):Int)]) (by decide+kernel) (by decide+kernel) (by decide+kernel) (mS MJ<|mS (ZN<|by lia)<|mS (ZN<|by lia) GL) (by simp) b
def Z5n{nm:List Nat}(h:Wd nm){p q:Nat}(hp:p<=1000)(hq:q<=1000):Ď [.sh<|.lst [.str "lit",sV nm,.int p,.int q]]=.ret (.sh<|sV<|Wx nm p q):=
 ZQ (ws:=[(.str "lit",wC "lit"),(sV nm,nm),(.int p,nT p),(.int q,nT q)]) (mS (ZX _)<|mS rfl<|mS (Zh<|Zg<|by lia)<|mS (Zh<|Zg<|by lia) GL) (mS MJ<|mS h<|mS (ZN hp)<|mS (ZN hq) GL) (by simp)
def Z44{s:String}(h:Wd (wC s)){p q:Nat}(hp:p<=1000)(hq:q<=1000):Ď [.sh<|.lst [.str s,.int p,.int q]]=.ret (.sh<|sV<|Z2 [wC s,nT p,nT q]):=
 ZQ (ws:=[(.str s,wC s),(.int p,nT p),(.int q,nT q)]) (mS (ZX _)<|mS (Zh<|Zg<|by lia)<|mS (Zh<|Zg<|by lia) GL) (mS h<|mS (ZN hp)<|mS (ZN hq) GL) (by simp)
def Z9(w h:Nat)(T:List Th)(D:List Dz):DS:=D.map λd=>(S d.1,d.2.2.map λo=>PV.lst<|(cX w h (jt w h T o).testBit).map sV)
theorem Z11{α:Type}(k:α->Str)(v:α->PV):∀(l:List α) {a:α},a∈l->(l.map k).Nodup->mX (l.map k) (l.map v) (k a)=some (v a)
 |[],_,h,_=>by simp at h|b::l,a,h,hn=>by
  rw[Ó,Ó];unfold mX;by_cases z:k b=k a
  ·rw[if_pos z];rcases þ.mp h with rfl|h
   ·rfl
   ·rw[Ó,Ž]at hn;exact absurd (z▸rX h) hn.1
  ·rw[if_neg z];rcases þ.mp h with rfl|h
   ·exact absurd rfl z
   ·rw[Ó,Ž]at hn;exact Z11 k v l h hn.2
def Z65{w h:Nat}{T:List Th}{D:List Dz}(X:Ds w h T D){d:Dz}(hd:d∈D):mX ((Z9 w h T D).map (·.1)) ((Z9 w h T D).map λe=>.lst e.2) (S d.1)=some (.lst<|d.2.2.map λo=>PV.lst<|(cX w h (jt w h T o).testBit).map sV):=by
 have e1:(Z9 w h T D).map (·.1)=D.map λd=>S d.1:=by unfold Z9;rw[ę];rfl
 have e2:((Z9 w h T D).map λe=>PV.lst e.2)=D.map λd=>.lst (d.2.2.map λo=>PV.lst<|(cX w h (jt w h T o).testBit).map sV):=by unfold Z9;rw[ę];rfl
 rw[e1,e2];have nd:(D.map λd=>S d.1).Nodup:=by have:=X.nd;rw[ę]at this;exact this
 exact Z11 (λd:Dz=>S d.1) (λd=>.lst<|d.2.2.map λo=>PV.lst<|(cX w h (jt w h T o).testBit).map sV) D hd nd
def Z5o{w h k:Nat}(p:Nat->Bool)(hw:0<w)(hk:k<w*h):((cX w h p).map sV)[k/w]?=some (sV<|ZB w p<|k/w)/\(ZB w p<|k/w)[k%w]?=some (sg<|p k):=by
 have h1:=cz k hw;have h2:=(ZG (k:=k) (h:=h) hw).mpr hk;refine⟨by unfold cX;simp[h2],?_⟩;unfold ZB;have e:k/w*w+k%w=k:=by rw[lC];exact wR k w
 simp[h1,e]
def Z5P{l:List Nat}{i c:Nat}(h:l[i]?=some c)(hl:l.length<=100000):æ (sV l) (.int i)=some (sV [c]):=by
 have h1:(S l).length<=16777216:=by rw[Zs];lia
 have h2:(S l).cps.toList=l:=rfl;have h3:i<l.length:=by
  rcases Nat.lt_or_ge i l.length with z|z
  ·exact z
  ·rw[wF z]at h;cases h
 have h4:nY l (i:Int)=some c:=by rw[zA];exact h
 show(if(S l).length<=16777216then(nY (S l).cps.toList (i:Int)).map λc=>PV.str ⟨#[c]⟩else none)=_;rw[if_pos h1,h2,h4];rfl
def Z5Q(b:Bool):Ĺ (sV [sg b]) (.str ".")=some (.bl<|!b):=by cases b<;>kernel_rfl
def Z5p{w h:Nat}{T:List Th}{D:List Dz}(X:Ds w h T D){d:Dz}(hd:d∈D){k:Nat}(hk:k<w*h):ġ (gN 4) (ay<|Ê Ĺ (Ê æ (Ê æ (Ê æ (Ai (é 2)<|é 3)<|Â 4)<|Â 1)<|Â 0)<|mC<|.str ".") (aW cS<|É (Â 4) å) ((ß d.2.2.length).map λ(i:Nat)=>PV.int (i:Int)) [.sh<|.int ((k%w:Nat):Int),.sh<|.int ((k/w:Nat):Int),.sh<|fX<|Z9 w h T D,.sh<|.str<|S d.1,.no] []=some ((Zb w T d.2.2 k).map λ(j:Nat)=>š (j:Int)):=by
 obtain⟨os,Jq⟩:∃os,d.2.2=os:=⟨_,rfl⟩;have hl:=Z65 X hd;have ho:os.length<=4:=by rw[<-Jq];exact(X.d d hd).2
 rw[Jq]at hl⊢;have h1:=cz k X.y.w0;have h3:=X.y.w1;have hc:=dq (g:=gN 4) (mt:=ay<|Ê Ĺ (Ê æ (Ê æ (Ê æ (Ai (é 2)<|é 3)<|Â 4)<|Â 1)<|Â 0)<|mC<|.str ".") (me:=aW cS<|É (Â 4) å) (λ(j:Nat)=>PV.int (j:Int)) (λ(j:Nat)=>š (j:Int)) (λj=>!kz w T (os.getD j none) k) (λc=>∃a,c=[.sh<|.int ((k%w:Nat):Int),.sh<|.int ((k/w:Nat):Int),.sh<|fX<|Z9 w h T D,.sh<|.str<|S d.1,a]) (ß os.length) [.sh<|.int ((k%w:Nat):Int),.sh<|.int ((k/w:Nat):Int),.sh<|fX<|Z9 w h T D,.sh<|.str<|S d.1,.no] [] ⟨_,rfl⟩ (by simp;lia) (by
  rintro j hj c ⟨a,rfl⟩;have hj:=Ţ.mp hj;obtain⟨p1,p2⟩:=Z5o (h:=h) (jt w h T<|os.getD j none).testBit X.y.w0 hk;have hb:(jt w h T<|os.getD j none).testBit k=kz w T (os.getD j none) k:=by rw[jt,Zm];simp[hk]
  rw[hb]at p2;have p3:=Z5P p2 (by rw[SO];lia);have hx:(os.map λo=>PV.lst<|(cX w h (jt w h T o).testBit).map sV)[j]?=some (.lst<|(cX w h (jt w h T<|os.getD j none).testBit).map sV):=by rw[ů,aJ,ţ hj];rfl
  have st:=Zh (Zg<|show j<=100000 by lia);have es:=Z5Q<|kz w T (os.getD j none) k;unfold fX;generalize (Z9 w h T D).map (·.1)=A,((Z9 w h T D).map λe=>PV.lst e.2)=B,(os.map λo=>PV.lst<|(cX w h (jt w h T o).testBit).map sV)=OV,(cX w h (jt w h T<|os.getD j none).testBit).map sV=PV1,sV (ZB w (jt w h T<|os.getD j none).testBit (k/w))=RW,((k%w:Nat):Int)=x at*;generalize hy:(k/w:Nat)=y,kz w T (os.getD j none) k=b at*;generalize sV [sg b]=Z,S d.1=nm at*;refine⟨[.sh<|.int x,.sh<|.int y,.sh<|.zn A B,.sh<|.str nm,.sh<|.int j],[.sh<|.int x,.sh<|.int y,.sh<|.zn A B,.sh<|.str nm,.sh<|.int j],by simp,?_,λ_=>⟨_,rfl⟩,λ_=>⟨[.sh<|.int x,.sh<|.int y,.sh<|.zn A B,.sh<|.str nm,.sh<|.int j],by simp[st],_,rfl⟩⟩;simp[Ai,hl,hx,p1,p3,es])
 rw[ϕ]at hc;exact hc
def QA{a b:List Nat}(ha:a.length<=10000)(hb:b.length<=10000):ô (sV a) (sV b)=some (.sh<|sV<|a++b):=by
 have l2:(S a).length<=10000:=by rw[Zs];exact ha
 have l3:(S b).length<=10000:=by rw[Zs];exact hb
 unfold sV ô;simp only;rw[if_pos<|by lia];congr 3;exact eI (by simp[sP])
def Wy{j:Nat}(h:j<=100000):pU (nT (j:Int)):=λc hc=>by have:=(ZA<|Zg h).2 c hc;lia
def Z5q:∀{J:List Nat},(∀j∈J,j<=100)->Ĺ (.lst<|J.map λ(j:Nat)=>š (j:Int)) (.lst [])=some (.bl J.isEmpty):=by
 intro J h;have dk:∀J:List Nat,(∀j∈J,j<=100)->aF (J.map λ(j:Nat)=>š (j:Int))=true:=by
  intro J
  induction J with
  |nil=>intro _;rfl|cons j J ih=>intro h;rw[Ó];unfold aF;rw[ih λx hx=>h x<|õ _ hx,ŭ];show Ϗ (.str<|S<|nT (j:Int))=true;unfold Ϗ;exact(Wy (by have:=h j (by simp);lia)).ok
 have dp:∀J:List Nat,jR (J.map λ(j:Nat)=>š (j:Int))=0:=by
  intro J
  induction J with
  |nil=>rfl|cons j J ih=>rw[Ó];unfold jR;rw[ih];rfl
 have e:o_ (.lst<|J.map λ(j:Nat)=>š (j:Int)) (.lst [])=true:=by unfold o_;simp[Ϗ,aF,rn,jR,dk J h,dp J]
 unfold Ĺ;rw[if_pos e];cases J with
 |nil=>rfl|cons j J=>rfl
def eqF{F:List Nat}(h:pU F):Ĺ (sV F) (.str "-")=some (.bl<|decide<|F=[45]):=by have:=Ź h.ok (show Ě (S [45])=true from pU.ok (by intro c hc;simp at hc;lia));rw[show Å "-"=S [45] by decide+kernel];show Ĺ (.str<|S F) (.str<|S [45])=_;rw[this];congr 2;exact decide_eq_decide.mpr ⟨λe=>by simpa using congrArg (λz:Str=>z.cps.toList) e,λe=>by rw[e]⟩
def Wz{F:List Nat}(h:pU F):cO (sV F) (sV F)=some (.bl false):=by have:=F7 h.ok h.ok;rw[decide_eq_true rfl]at this;exact this
def Z3P{J:List Nat}(h:∀j∈J,j<=100):pU (NB J):=by
 unfold NB;split
 ·intro c hc;simp at hc;lia
 ·intro c hc;rcases SH _ hc with e|⟨y,hy,e⟩
  ·lia
  ·obtain⟨j,hj,rfl⟩:=Đ.mp hy;exact Wy (by have:=h j hj;lia) c e
def C9(F nm:List Nat):List Nat->List Nat
 |[]=>F|j::_=>if F=[45]then nm++[32]++nT (j:Int)else F
def Z2v{w h:Nat}{T:List Th}{D:List Dz}(X:Ds w h T D){d:Dz}(hd:d∈D){k:Nat}(hk:k<w*h){t:Int}{F:List Nat}(hF:pU F)(DY s3 HP s12:ŗ):∃a b,Ϩ [.sh<|Z1<|Z4 w h T D,DY,.sh<|fX<|Z9 w h T D,s3,.sh<|.int t,.sh<|sV F,.sh<|.int ((k%w:Nat):Int),.sh<|.int ((k/w:Nat):Int),.sh<|.str<|S d.1,.sh<|.int d.2.1,.sh<|.lst<|d.2.2.map ϒ,HP,s12]=.ok .nx [.sh<|Z1<|Z4 w h T D,DY,.sh<|fX<|Z9 w h T D,s3,.sh<|.int<|t+d.2.1*(Zb w T d.2.2 k).length,.sh<|sV<|C9 F d.1<|Zb w T d.2.2 k,.sh<|.int ((k%w:Nat):Int),.sh<|.int ((k/w:Nat):Int),.sh<|.str<|S d.1,.sh<|.int d.2.1,.sh<|.lst<|d.2.2.map ϒ,a,b]:=by
 have h1:=cz k X.y.w0;have h2:=(ZG (k:=k) (h:=h) X.y.w0).mpr hk;have h3:=X.y.w1;have h4:=X.y.h1;obtain⟨i,hi,rfl⟩:=wI hd;obtain⟨⟨nm,t1,t2,_,_,_⟩,l4⟩:=X.d _ hd;have jn:=Z5n (X.nm hi) (p:=k%w) (q:=k/w) (by lia) (by lia);have sl:=Z4K X hi hk;have du:=Z5p X hd hk;have hj:∀j∈Zb w T D[i].2.2 k,j<=100:=λj hj=>by have:=Ww hj;lia
 have hl:=Z1C w k T D[i].2.2;have nl:=Z3P hj;have nf:=Wz nl;have ef:=eqF hF;have ed:=Z5q hj;have rg:=Zr (n:=D[i].2.2.length) (by lia);have ol:(D[i].2.2.map ϒ).length=D[i].2.2.length:=by simp
 have ml:∀x,Ĭ D[i].2.1 x=true:=λx=>ş (by lia) (by lia);have lj:=Z1D hj (by lia);have a1:=QA (a:=D[i].1) (b:=[32]) (by have:=nm.2.1;lia) (by simp);have WA:PV.str (Å " ")=sV [32]:=by rw[MG];congr 1
 have o2:(D[i].2.2.map ϒ).length<=16777216:=by lia
 change Ď [.sh<|.lst [.str "lit",.str<|S D[i].1,.int ((k%w:Nat):Int),.int ((k/w:Nat):Int)]]=_ at jn;change ô (.str<|S D[i].1) _=_ at a1;rw[<-WA]at a1;have du0:((Zb w T D[i].2.2 k).map λ(j:Nat)=>š (j:Int))=((Zb w T D[i].2.2 k).map λ(j:Nat)=>(j:Int)).map š:=by rw[ę];rfl
 have Jd:(Å "say"=Å "yard")=False:=eq_false (by decide+kernel);unfold Z1 at*;unfold NB at sl nf;have ll:(Zb w T D[i].2.2 k).length<=16777216:=by lia
 generalize Z4 w h T D=Yv,fX (Z9 w h T D)=DI,sV (Wx D[i].1 (k%w) (k/w))=RL,((ß D[i].2.2.length).map λ(i:Nat)=>PV.int (i:Int))=RG at*;rw[<-ol]at rg;generalize ((k%w:Nat):Int)=x,((k/w:Nat):Int)=y,D[i].2.2.map ϒ=OS,hJ:Zb w T D[i].2.2 k=J,D[i].2.1=Ay at*;cases J with
 |nil=>
  simp at du sl nf ed;have jd:eX (.str " ") [.lst [.str "-"]]=some (sV [45]):=by kernel_rfl
  have al:ô (.lst []) (.lst [.str "-"])=some (.ow [.str "-"]):=qY (by simp);refine⟨.sh<|sV [45],.ow [],?_⟩;simp[Ϩ,jn,Jd,sl,rg,jQ,du,ed,al,jd,nf,zt,iZ,zF,uo,C9]
  done
 |cons j js=>
  rw[if_neg<|by simp]at sl nf;rw[<-du0]at lj;have e0:((j::js).map λ(j:Nat)=>š (j:Int))=š (j:Int)::js.map λ(j:Nat)=>š (j:Int):=rfl;have al:ô (.lst<|(j::js).map λ(j:Nat)=>š (j:Int)) (.lst [])=some (.ow<|(j::js).map λ(j:Nat)=>š (j:Int)):=by rw[qY (by simp at hl⊢;lia),jw]
  have nb:=Zg (show j<=100000 by have:=hj j (by simp);lia);have a2:=QA (a:=D[i].1++[32]) (b:=nT (j:Int)) (by simp;have:=nm.2.1;lia) (by have:=(ZU nb.1 nb.2).2;lia);change ô _ (š (j:Int))=_ at a2;have dl:((j::js).map λ(j:Nat)=>š (j:Int)).length=(j::js).length:=by simp
  rw[e0]at du ed al lj dl;generalize (js.map λ(j:Nat)=>š (j:Int))=W at*;generalize š (j:Int)=V,sV (Z2<|(j::js).map λ(j:Nat)=>nT (j:Int))=TL at*;refine⟨.sh TL,.ow (V::W),?_⟩;have WB:W.length=js.length:=by simpa using dl
  have dl2:W.length+1<=16777216:=by rw[WB];simpa using ll
  by_cases z:F=[45]
  ·subst z;rw[decide_eq_true rfl]at ef;simp[Ϩ,jn,Jd,sl,rg,jQ,du,ed,al,lj,nf,zt,iZ,zF,uo,ml,C9,ef,a1,a2,WB]
   done
  ·rw[decide_eq_false z]at ef;simp[Ϩ,jn,Jd,sl,rg,jQ,du,ed,al,lj,nf,zt,iZ,zF,uo,ml,C9,ef,z,WB]
   done
def Zj(w k:Nat)(T:List Th)(D:List Dz)(t:Int):Int:=D.foldl (λt d=>t+d.2.1*(Zb w T d.2.2 k).length) t
def MK(w k:Nat)(T:List Th)(D:List Dz)(F:List Nat):List Nat:=D.foldl (λF d=>C9 F d.1<|Zb w T d.2.2 k) F
def Z4L{F nm J:List Nat}(hF:pU F)(hn:pU nm)(hJ:∀j∈J,j<=100):pU (C9 F nm J):=by
 cases J with
 |nil=>exact hF|cons j js=>
  show pU (if F=[45]then nm++[32]++nT (j:Int)else F);split
  ·intro c hc;rcases Ů.mp hc with hc|hc
   ·rcases Ů.mp hc with hc|hc
    ·exact hn c hc
    ·simp at hc;lia
   ·exact Wy (by have:=hJ j (by simp);lia) c hc
  ·exact hF
def Z5r{l:List Nat}(h:Nm l):pU l:=λc hc=>by have:=h.2.2 c hc;lia
theorem Z0B{w h:Nat}{T:List Th}{D:List Dz}(X:Ds w h T D){k:Nat}(hk:k<w*h)(DY s3:ŗ):∀(ds:List Dz),(∀d∈ds,d∈D)->∀(t:Int) (F:List Nat) (s8 s9 Ff HP s12:ŗ),pU F->pU (MK w k T ds F)/\∃a b c d e,ĺ (gT 3<|ð (gN 8)<|ð (gN 9)<|ð (gN 10) ű) Ϩ ((ds.map zV).map bR) [.sh<|Z1<|Z4 w h T D,DY,.sh<|fX<|Z9 w h T D,s3,.sh<|.int t,.sh<|sV F,.sh<|.int ((k%w:Nat):Int),.sh<|.int ((k/w:Nat):Int),s8,s9,Ff,HP,s12]=.ok .nx [.sh<|Z1<|Z4 w h T D,DY,.sh<|fX<|Z9 w h T D,s3,.sh<|.int<|Zj w k T ds t,.sh<|sV<|MK w k T ds F,.sh<|.int ((k%w:Nat):Int),.sh<|.int ((k/w:Nat):Int),a,b,c,d,e]
 |[],_,t,F,s8,s9,Ff,HP,s12,hF=>⟨hF,s8,s9,Ff,HP,s12,rfl⟩|d::ds,hm,t,F,s8,s9,Ff,HP,s12,hF=>by
  have hd:=hm d (by simp);obtain⟨⟨nm,_⟩,l4⟩:=X.d _ hd;have hF2:=Z4L hF (Z5r nm) (J:=Zb w T d.2.2 k) λj hj=>by have:=Ww hj;lia
  obtain⟨u,v,st⟩:=Z2v X hd hk (t:=t) hF DY s3 HP s12;obtain⟨q1,a,b,c,e,f,q2⟩:=Z0B X hk DY s3 ds (λx hx=>hm x<|õ _ hx) (t+d.2.1*(Zb w T d.2.2 k).length) (C9 F d.1<|Zb w T d.2.2 k) (.sh<|.str<|S d.1) (.sh<|.int d.2.1) (.sh<|.lst<|d.2.2.map ϒ) u v hF2;refine⟨q1,a,b,c,e,f,?_⟩;rw[Ó,Ó,ĺ];show(Ϩ [.sh<|Z1<|Z4 w h T D,DY,.sh<|fX<|Z9 w h T D,s3,.sh<|.int t,.sh<|sV F,.sh<|.int ((k%w:Nat):Int),.sh<|.int ((k/w:Nat):Int),.sh<|.str<|S d.1,.sh<|.int d.2.1,.sh<|.lst<|d.2.2.map ϒ,HP,s12]).bind _=_;rw[st];exact q2
theorem Z27{w k:Nat}{T:List Th}:∀{D:List Dz}{F:List Nat},¬F=[45]->MK w k T D F=F
 |[],_,_=>rfl|d::D,F,h=>by
  have e:C9 F d.1 (Zb w T d.2.2 k)=F:=by
   unfold C9;split
   ·rfl
   ·rw[if_neg h]
  show MK w k T D (C9 F d.1<|Zb w T d.2.2 k)=F;rw[e];exact Z27 h
theorem Z0i{p:Nat->Bool}:∀l:List Nat,l.find? p=(l.filter p).head?
 |[]=>rfl|x::l=>by
  rw[da,r_];cases p x
  ·exact Z0i l
  ·rfl
theorem Z45{w k:Nat}{T:List Th}:∀(D1 D0:List Dz),(∀d∈D1,Nm d.1)->J2 ((D0++D1).map zV) ((aL D0.length D1.length).findSome? (Zv w T k<|(D0++D1).map zV))=MK w k T D1 [45]
 |[],D0,_=>rfl|d::D1,D0,hn=>by
  have ih:=Z45 (w:=w) (k:=k) (T:=T) D1 (D0++[d])<|λx hx=>hn x<|õ _ hx;rw[ly,List.singleton_append,ő,Bz]at ih;have hg:((D0++d::D1).map zV).getD D0.length gK=zV d:=by rw[aJ];simp
  have hf:Zv w T k ((D0++d::D1).map zV) D0.length=((Zb w T d.2.2 k).head?).map λj=>(D0.length,j):=by unfold Zv;rw[hg,Z0i];rfl
  rw[Ĕ,gM,lB,hf];cases hJ:Zb w T d.2.2 k with
  |nil=>simp only[List.head?_nil,Option.map_none];rw[ih];show _=MK w k T D1 (C9 [45] d.1 (Zb w T d.2.2 k));rw[hJ];rfl|cons j js=>
   simp only[List.head?_cons,wT];have e1:J2 ((D0++d::D1).map zV) (some (D0.length,j))=d.1++[32]++nT (j:Int):=by unfold J2;dsimp only;rw[hg];rfl
   rw[e1];show _=MK w k T D1 (C9 [45] d.1 (Zb w T d.2.2 k));rw[hJ];have e2:C9 [45] d.1 (j::js)=d.1++[32]++nT (j:Int):=by unfold C9;exact if_pos rfl
   rw[e2];refine(Z27 λz=>?_).symm;have:=congrArg bq z;have h1:=(hn d<|by simp).1;simp at this;lia
def Z36{w h:Nat}{T:List Th}{D:List Dz}(X:Ds w h T D){k:Nat}(hk:k<w*h):bQ [.sh<|Z1<|Z4 w h T D,.sh<|.lst<|(D.map zV).map bR,.sh<|fX<|Z9 w h T D,.sh<|.tup [.int ((k%w:Nat):Int),.int ((k/w:Nat):Int)]]=.ret (.sh<|.int<|Zj w k T D 0):=by
 have h1:=cz k X.y.w0;have h2:=(ZG (k:=k) (h:=h) X.y.w0).mpr hk;have h3:=X.y.w1;have h4:=X.y.h1;have QB:pU [45]:=by intro c hc;simp at hc;lia
 obtain⟨p1,a,b,c,d,e,lp⟩:=Z0B X hk (.sh<|.lst<|(D.map zV).map bR) (.sh<|.tup [.int ((k%w:Nat):Int),.int ((k/w:Nat):Int)]) D (λ_ h=>h) 0 [45] .no .no .no .no .no QB;have sf:=Z34 X hk;have jf:=Z44 (s:="first") MJ (p:=k%w) (q:=k/w) (by lia) (by lia);have fi:=Z45 (w:=w) (k:=k) (T:=T) D [] (λd hd=>(X.d d hd).1.1);rw[ϕ,fE,<-jA,Ę]at*;rw[fi]at sf;have nf:=Wz p1;have Jd:(Å "say"=Å "yard")=False:=eq_false (by decide+kernel);have ds:=Wv;unfold Z32 at sf;unfold Z1 at*;generalize Z4 w h T D=Yv,fX (Z9 w h T D)=DI,((k%w:Nat):Int)=x,((k/w:Nat):Int)=y,(D.map zV).map bR=DV at*;simp[bQ,nn,ç,ds,lp,jf,sf,Jd,nf]
def Z3Q(nm:List Nat)(j:Nat):SS nm j=wC "dark "++nm++[32]++nT (j:Int):=by
 have:wC "dark "=wC "dark"++[32]:=by decide+kernel
 rw[this];show wC "dark"++[32]++(nm++[32]++nT (j:Int))=_;simp
def Z5s{w h:Nat}(p:Nat->Bool):∀y∈cX w h p,47∉y:=λy hy z=>by obtain⟨q,_,rfl⟩:=Đ.mp hy;obtain⟨x,_,e⟩:=Đ.mp z;unfold sg at e;split at e<;>lia
def Zn(l:List Nat):Nat:=(l.filter λc=>decide<|c=46).length
def Z37{l:List Nat}(hl:l.length<=100000)(h:pU l):ġ (gN 0) (ay<|Ê Ĺ (Â 0)<|mC<|.str ".") (é 0) (l.map λc=>.str ⟨#[c]⟩) [.no] []=some ((l.filter λc=>decide<|c=46).map λc=>.str ⟨#[c]⟩):=by
 have hc:=dq (g:=gN 0) (mt:=ay<|Ê Ĺ (Â 0)<|mC<|.str ".") (me:=é 0) (λ(c:Nat)=>PV.str ⟨#[c]⟩) (λ(c:Nat)=>PV.str ⟨#[c]⟩) (λc=>decide<|c=46) (λd=>∃a,d=[a]) l [.no] [] ⟨_,rfl⟩ (by simp;lia) (by
  rintro c hc d ⟨a,rfl⟩;have e:Ĺ (.str ⟨#[c]⟩) (.str ".")=some (.bl<|decide<|c=46):=by have h1:=Ź (a:=S [c]) (b:=S [46]) (pU.ok λx hx=>by simp at hx;rw[hx];exact h c hc) (pU.ok λx hx=>by simp at hx;lia);rw[show Å "."=S [46] by decide+kernel];rw[show(⟨#[c]⟩:Str)=S [c]from rfl,h1];congr 2;exact decide_eq_decide.mpr ⟨λe=>by simpa using congrArg (λz:Str=>z.cps.toList) e,λe=>by rw[e]⟩
  refine⟨[.sh<|.str ⟨#[c]⟩],[.sh<|.str ⟨#[c]⟩],rfl,by simp[e],λ_=>⟨_,rfl⟩,λ_=>⟨[.sh<|.str ⟨#[c]⟩],by simp,_,rfl⟩⟩)
 rw[ϕ]at hc;exact hc
def Z4M{w h:Nat}(p:Nat->Bool):pU (Ė [47] (cX w h p)):=λc hc=>by
 rcases SH _ hc with e|⟨y,hy,e⟩
 ·lia
 ·obtain⟨q,_,rfl⟩:=Đ.mp hy;obtain⟨x,_,rfl⟩:=Đ.mp e;unfold sg;split<;>lia
def Z4N{w h:Nat}(hw:w<=60)(hh:h<=1000)(p:Nat->Bool):(Ė [47] (cX w h p)).length<=61000:=by
 have:=SI (c:=47) (cX w h p) 60 (λy hy=>by obtain⟨q,_,rfl⟩:=Đ.mp hy;rw[SO];exact hw);have l:(cX w h p).length=h:=by unfold cX;simp
 rw[l]at this;lia
def NC:ė .no=true:=rfl
def ZJ(p:PV):ė (.sh p)=true:=rfl
def Z5R(p:List PV):ė (.ow p)=true:=rfl
def WC{i:Nat}{m:M Fl}{ρ ρ':Ć}{d:DS}(h:m (ρ.set i .pin)=.ok .nx ρ')(hp:(ρ'.set i .no).all ė=true)(hi:ρ'[i]?=some .pin):il i m ρ d=some (ρ'.set i .no,d):=by unfold il;rw[h];dsimp only;rw[if_pos ⟨hp,by rw[hi];rfl⟩]
def Z7(ns w h v th days tx dk wh k nm Ay tn td:ŗ):Ć:=[ns,w,h,v,th,days,tx,dk,.no,wh,.no,.no,k,.no,.no,nm,Ay,tn,td]
noncomputable abbrev ZZ:MD:=nO (il 8<|ý 18<|gq "say" [("Desk",ľ)] (é 7) (à (Ú<|ü ô (Ú<|ü ô (Ú<|ü ô (mC<|.str "dark ")<|Â 15)<|mC<|.str " ")<|aW cS<|É (Â 12) å) Ø))
 (nO (Eh 8 15<|Ú<|yD dU (Â 18)<|É (mC<|.str "/") å)
 (il 8<|ý 9<|ü ô (Â 9)<|Ê ą (Â 16)<|aW aX<|É (Ú<|Ī [] 1 (ī 18) (gN 0) (ay<|Ê Ĺ (Â 0)<|mC<|.str ".") (é 0)) å))
def Z4O{w h j:Nat}{Yv:PV}{l:List Nat}{Ay:Int}{p:Nat->Bool}(nm:Nm l)(t1:1<=Ay)(t2:Ay<=1000000000)(w1:w<=60)(h1:h<=1000)(h0:0<h)(hj:j<=100000)(sd:ľ [.sh<|Z1 Yv,.sh<|sV<|SS l j]=.ret (.sh<|sV<|Ė [47] (cX w h p))){s0 s1 s2 s3 s4 s5 s6 qy nq:ŗ}(hp:([s0,s1,s2,s3,s4,s5,s6,qy,nq].all ė)=true){t:Int}{E:DS}(hE:(E.all λe=>decide<|e.1≠S l)=true){ps:List PV}(hps:ps.length<=1000):
 ZZ (Z7 s0 s1 s2 s3 s4 s5 s6 (.sh<|Z1 Yv) (.sh<|.int t) (.sh<|.int j) (.sh<|.str<|S l) (.sh<|.int Ay) qy nq) (E++[(S l,ps)])=some (Z7 s0 s1 s2 s3 s4 s5 s6 (.sh<|Z1 Yv) (.sh<|.int<|t+Ay*Zn (Ė [47] (cX w h p))) (.sh<|.int j) (.sh<|.str<|S l) (.sh<|.int Ay) qy<|.sh<|sV<|Ė [47] (cX w h p),E++[(S l,ps++[PV.lst<|(cX w h p).map sV])]):=by
 have nb:=Zg hj;have nl:=(ZU nb.1 nb.2).2;have d0:PV.str (Å "dark ")=sV (wC "dark "):=MG _;have dl:(wC "dark ").length=5:=by decide+kernel
 have ln:=nm.2.1;have a1:=QA (a:=wC "dark ") (b:=l) (by lia) (by lia);have a2:=QA (a:=wC "dark "++l) (b:=[32]) (by simp[dl];lia) (by simp);have a3:=QA (a:=wC "dark "++l++[32]) (b:=nT (j:Int)) (by simp[dl];lia) (by lia);have WA:PV.str (Å " ")=sV [32]:=by rw[MG];congr 1
 rw[<-Z3Q]at a3;rw[<-d0]at a1;rw[<-WA]at a2;have st:=Zh nb;change ô _ (š (j:Int))=_ at a3;change ô _ (.str<|S l)=_ at a1;have pl:=Z4N w1 h1 p;have pe:cX w h p≠[]:=λz=>by have:=congrArg bq z;unfold cX at this;simp at this;lia
 have dc:=Z37 (by lia)<|Z4M (w:=w) (h:=h) p;have sp:=SJ (c:=47) (by lia) c47 (l:=Ė [47] (cX w h p)) (by lia);rw[Sp.jV 47 _ pe<|Z5s _]at sp;have ml:∀x,Ĭ Ay x=true:=λx=>ş (by lia) (by lia);have dl2:(((Ė [47] (cX w h p)).filter λc=>decide<|c=46).map λc=>PV.str ⟨#[c]⟩).length=Zn (Ė [47] (cX w h p)):=by rw[Ę];rfl
 have Zaj:Zn (Ė [47] (cX w h p))<=61000:=ř (wJ _ _) pl;have Jd:(Å "say"=Å "yard")=False:=eq_false (by decide+kernel);have gl:(E++[(S l,ps)]).getLast?=some (S l,ps):=by simp
 have gd:(E++[(S l,ps)]).dropLast=E:=rY;change dU (.str<|S<|Ė [47] (cX w h p)) _=_ at sp;change ľ _=.ret (.sh<|.str<|S<|Ė [47] (cX w h p))at sd;have hS:(S<|Ė [47] (cX w h p)).cps.toList=Ė [47] (cX w h p):=rfl;show ZZ _ _=some (Z7 s0 s1 s2 s3 s4 s5 s6 _ _ _ _ _ qy<|.sh<|.str<|S<|Ė [47] (cX w h p),_);rw[<-hS]at dc;unfold Z1 at*;generalize (((Ė [47] (cX w h p)).filter λc=>decide<|c=46).map λc=>PV.str ⟨#[c]⟩)=FL at*;generalize Zn (Ė [47] (cX w h p))=N,(cX w h p).map sV=PL,S (Ė [47] (cX w h p))=TJ,sV (SS l j)=RD at*;generalize š (j:Int)=JV at*;generalize sV (wC "dark "++l++[32])=A2,sV (wC "dark "++l)=A1 at*;simp only[ſ,ϗ,ŭ,ú]at hp;obtain⟨p0,p1,p2,p3,p4,p5,p6,QC,ND⟩:=hp;have f1:FL.length<=16777216:=by lia
 generalize S l=NM at*;have pk:∀a b:ŗ,ė a=true->ė b=true->((Z7 s0 s1 s2 s3 s4 s5 s6 (.sh<|.ins "Desk" ["yard"] [Yv]) a (.sh<|.int j) (.sh<|.str NM) (.sh<|.int Ay) qy b).set 8 .no).all ė=true:=λa b ha hb=>by simp only[Z7,eh,en,ſ,ϗ,NC,ZJ,p0,p1,p2,p3,p4,p5,p6,QC,ha,hb,ŭ]
 have em:Ú (yD dU (Â 18)<|É (mC<|.str "/") å) ((Z7 s0 s1 s2 s3 s4 s5 s6 (.sh<|.ins "Desk" ["yard"] [Yv]) (.sh<|.int t) (.sh<|.int j) (.sh<|.str NM) (.sh<|.int Ay) qy<|.sh<|.str TJ).set 8 .pin)=.ok (.lst PL) ((Z7 s0 s1 s2 s3 s4 s5 s6 (.sh<|.ins "Desk" ["yard"] [Yv]) (.sh<|.int t) (.sh<|.int j) (.sh<|.str NM) (.sh<|.int Ay) qy<|.sh<|.str TJ).set 8 .pin):=by simp[Z7,sp]
 unfold ZZ nO;rw[WC (i:=8) (ρ':=(Z7 s0 s1 s2 s3 s4 s5 s6 (.sh<|.ins "Desk" ["yard"] [Yv]) (.sh<|.int t) (.sh<|.int j) (.sh<|.str NM) (.sh<|.int Ay) qy<|.sh<|.str TJ).set 8 .pin) (by simp[Z7,a1,a2,a3,st,Jd,sd]) (pk _ _ rfl rfl) rfl];dsimp only;unfold Eh;rw[gl,gd];show(match(if NM=NM/\_/\_ then(match Ú _ ((Z7 s0 s1 s2 s3 s4 s5 s6 (.sh<|.ins "Desk" ["yard"] [Yv]) (.sh<|.int t) (.sh<|.int j) (.sh<|.str NM) (.sh<|.int Ay) qy<|.sh<|.str TJ).set 8 .pin)with
  |.ok p ρ'=>_|_=>none)else none:Option (Ć×DS))with
  |some (d,d1)=>_|none=>none)=_
 rw[if_pos ⟨rfl,hE,by dsimp only;lia⟩,em];dsimp only;rw[if_pos ⟨pk _ _ rfl rfl,rfl⟩];exact WC (i:=8) (ρ':=(Z7 s0 s1 s2 s3 s4 s5 s6 (.sh<|.ins "Desk" ["yard"] [Yv]) (.sh<|.int<|t+Ay*N) (.sh<|.int j) (.sh<|.str NM) (.sh<|.int Ay) qy<|.sh<|.str TJ).set 8 .pin) (by simp[Z7,jQ,dc,ml,dl2]) (pk _ _ rfl rfl) rfl
def GN(w h:Nat)(T:List Th)(d:Dz)(os:List (Option P3))(t:Int):Int:=os.foldl (λt o=>t+d.2.1*Zn (Ė [47] (cX w h (jt w h T o).testBit))) t
theorem Z0C{w h:Nat}{T:List Th}{D:List Dz}(X:Ds w h T D)(h0:0<h){i:Nat}(hi:i<D.length){s0 s1 s2 s3 s4 s5 s6 qy:ŗ}(hp:([s0,s1,s2,s3,s4,s5,s6,qy].all ė)=true){E:DS}(hE:(E.all λe=>decide<|e.1≠S D[i].1)=true):
 ∀(f a:Nat),a+f=D[i].2.2.length->∀(t:Int) (s12 nq:ŗ),ė s12=true->ė nq=true->∃b c,ė b=true/\ė c=true/\pE 8 (gN 12) ZZ ((aL a f).map λ(i:Nat)=>PV.int (i:Int)) (Z7 s0 s1 s2 s3 s4 s5 s6 (.sh<|Z1<|Z4 w h T D) (.sh<|.int t) s12 (.sh<|.str<|S D[i].1) (.sh<|.int D[i].2.1) qy nq) (E++[(S D[i].1,(D[i].2.2.take a).map λo=>PV.lst<|(cX w h (jt w h T o).testBit).map sV)])=some (Z7 s0 s1 s2 s3 s4 s5 s6 (.sh<|Z1<|Z4 w h T D) (.sh<|.int<|GN w h T D[i] (D[i].2.2.drop a) t) b (.sh<|.str<|S D[i].1) (.sh<|.int D[i].2.1) qy c,E++[(S D[i].1,D[i].2.2.map λo=>PV.lst<|(cX w h (jt w h T o).testBit).map sV)])
 |0,a,e,t,s12,nq,h12,h18=>by
  refine⟨s12,nq,h12,h18,?_⟩;have ea:a=D[i].2.2.length:=by lia
  rw[ea,List.take_length,List.drop_length];rfl
 |f+1,a,e,t,s12,nq,h12,h18=>by
  have ha:a<D[i].2.2.length:=by lia
  have l4:=(X.d _<|Œ hi).2;have Xp:=hp;simp only[ſ,ϗ,ŭ,ú]at hp;obtain⟨p0,p1,p2,p3,p4,p5,p6,QC⟩:=hp;obtain⟨⟨nm,o1,o2,_⟩,_⟩:=X.d _<|Œ hi;have b:=Z4O nm o1 o2 X.y.w1 X.y.h1 h0 (by lia) (Z3O X hi ha) (s0:=s0) (s1:=s1) (s2:=s2) (s3:=s3) (s4:=s4) (s5:=s5) (s6:=s6) (qy:=qy) (nq:=nq) (by simp only[ſ,ϗ,p0,p1,p2,p3,p4,p5,p6,QC,h18,ŭ]) (t:=t) hE (ps:=(D[i].2.2.take a).map λo=>PV.lst<|(cX w h (jt w h T o).testBit).map sV) (by simp;lia);obtain⟨u,v,hu,hv,ih⟩:=Z0C X h0 hi Xp hE f (a+1) (by lia) (t+D[i].2.1*Zn (Ė [47] (cX w h (jt w h T D[i].2.2[a]).testBit))) (.sh<|.int a) (.sh<|sV<|Ė [47] (cX w h (jt w h T D[i].2.2[a]).testBit)) rfl rfl;refine⟨u,v,hu,hv,?_⟩;rw[gM,Ó];have e1:(D[i].2.2.take (a+1)).map (λo=>PV.lst<|(cX w h (jt w h T o).testBit).map sV)=(D[i].2.2.take a).map (λo=>PV.lst<|(cX w h (jt w h T o).testBit).map sV)++[PV.lst<|(cX w h (jt w h T D[i].2.2[a]).testBit).map sV]:=by rw[BG ha,Ĝ];rfl
  rw[e1]at ih;have e2:GN w h T D[i] (D[i].2.2.drop a) t=GN w h T D[i] (D[i].2.2.drop (a+1)) (t+D[i].2.1*Zn (Ė [47] (cX w h (jt w h T D[i].2.2[a]).testBit))):=by rw[fI ha];rfl
  rw[e2];unfold pE;have g1:gN 12 (PV.int (a:Int)) ((Z7 s0 s1 s2 s3 s4 s5 s6 (.sh<|Z1<|Z4 w h T D) (.sh<|.int t) s12 (.sh<|.str<|S D[i].1) (.sh<|.int D[i].2.1) qy nq).set 8 .pin)=some ((Z7 s0 s1 s2 s3 s4 s5 s6 (.sh<|Z1<|Z4 w h T D) (.sh<|.int t) (.sh<|.int a) (.sh<|.str<|S D[i].1) (.sh<|.int D[i].2.1) qy nq).set 8 .pin):=rfl;rw[g1];dsimp only;rw[if_pos ⟨by simp only[Z7,eh,en,ſ,ϗ,NC,ZJ,p0,p1,p2,p3,p4,p5,p6,QC,h18,ŭ],rfl⟩];show(match ZZ (Z7 s0 s1 s2 s3 s4 s5 s6 (.sh<|Z1<|Z4 w h T D) (.sh<|.int t) (.sh<|.int a) (.sh<|.str<|S D[i].1) (.sh<|.int D[i].2.1) qy nq) _ with
   |some (g,d2)=>_|none=>none)=_
  rw[b];exact ih
noncomputable abbrev ZK:MD:=nO (wb 15)
 (jW 8 (ŷ Ϟ<|É (aW aX<|É (Â 17) å) å) (gN 12)
 ZZ)
def GO(w h:Nat)(T:List Th)(D:List Dz)(t:Int):Int:=D.foldl (λt d=>GN w h T d d.2.2 t) t
def Z5S{w h:Nat}{T:List Th}{D:List Dz}(X:Ds w h T D)(h0:0<h){i:Nat}(hi:i<D.length){s0 s1 s2 s3 s4 s5 s6 s12 nq:ŗ}(hp:([s0,s1,s2,s3,s4,s5,s6,s12,nq].all ė)=true)(t:Int):∃b c,ė b=true/\ė c=true/\ZK (Z7 s0 s1 s2 s3 s4 s5 s6 (.sh<|Z1<|Z4 w h T D) (.sh<|.int t) s12 (.sh<|.str<|S D[i].1) (.sh<|.int D[i].2.1) (.sh<|.lst<|D[i].2.2.map ϒ) nq) (Z9 w h T<|D.take i)=some (Z7 s0 s1 s2 s3 s4 s5 s6 (.sh<|Z1<|Z4 w h T D) (.sh<|.int<|GN w h T D[i] D[i].2.2 t) b (.sh<|.str<|S D[i].1) (.sh<|.int D[i].2.1) (.sh<|.lst<|D[i].2.2.map ϒ) c,Z9 w h T<|D.take<|i+1):=by
 have l4:=(X.d _<|Œ hi).2;simp only[ſ,ϗ,ŭ,ú]at hp;obtain⟨p0,p1,p2,p3,p4,p5,p6,QD,ND⟩:=hp;have hE:((Z9 w h T<|D.take i).all λe=>decide<|e.1≠S D[i].1)=true:=by
  rw[cy];intro e he;refine decide_eq_true λz=>?_;unfold Z9 at he;obtain⟨d,hd,rfl⟩:=Đ.mp he;obtain⟨j,hj,rfl⟩:=wI hd;rw[List.getElem_take]at z;have hj':j<i:=by simp at hj;lia
  have z':D[j].1=D[i].1:=by simpa using congrArg (λz:Str=>z.cps.toList) z
  have:=(ww (xs:=D.map (·.1)) (i:=j) (j:=i) (h₀:=by simp;lia) (h₁:=by simpa using hi) X.n).mp (by simpa using z');lia
 have el:(Z9 w h T<|D.take i).length<16777216:=by unfold Z9;simp;have:=X.l;lia
 obtain⟨b,c,hb,hc,lp⟩:=Z0C X h0 hi (s0:=s0) (s1:=s1) (s2:=s2) (s3:=s3) (s4:=s4) (s5:=s5) (s6:=s6) (qy:=.sh<|.lst<|D[i].2.2.map ϒ) (by simp only[ſ,ϗ,p0,p1,p2,p3,p4,p5,p6,ZJ,ŭ]) hE D[i].2.2.length 0 (by lia) t s12 nq QD ND;refine⟨b,c,hb,hc,?_⟩;rw[rW,ž,lz]at lp;have et:Z9 w h T (D.take<|i+1)=Z9 w h T (D.take i)++[(S D[i].1,D[i].2.2.map λo=>PV.lst<|(cX w h (jt w h T o).testBit).map sV)]:=by unfold Z9;rw[BG hi,Ĝ];rfl
 rw[et];have pt:wb 15 (Z7 s0 s1 s2 s3 s4 s5 s6 (.sh<|Z1<|Z4 w h T D) (.sh<|.int t) s12 (.sh<|.str<|S D[i].1) (.sh<|.int D[i].2.1) (.sh<|.lst<|D[i].2.2.map ϒ) nq) (Z9 w h T<|D.take i)=some (Z7 s0 s1 s2 s3 s4 s5 s6 (.sh<|Z1<|Z4 w h T D) (.sh<|.int t) s12 (.sh<|.str<|S D[i].1) (.sh<|.int D[i].2.1) (.sh<|.lst<|D[i].2.2.map ϒ) nq,Z9 w h T (D.take i)++[(S D[i].1,[])]):=by show(if _/\_ then _ else none)=_;rw[if_pos ⟨hE,el⟩]
 have rg:=Zr (n:=D[i].2.2.length) (by lia);have ol:(D[i].2.2.map ϒ).length=D[i].2.2.length:=by simp
 have o2:(D[i].2.2.map ϒ).length<=16777216:=by lia
 have em:ŷ Ϟ (É (aW aX<|É (Â 17) å) å) ((Z7 s0 s1 s2 s3 s4 s5 s6 (.sh<|Z1<|Z4 w h T D) (.sh<|.int t) s12 (.sh<|.str<|S D[i].1) (.sh<|.int D[i].2.1) (.sh<|.lst<|D[i].2.2.map ϒ) nq).set 8 .pin)=.ok ((ß D[i].2.2.length).map λ(i:Nat)=>PV.int (i:Int)) ((Z7 s0 s1 s2 s3 s4 s5 s6 (.sh<|Z1<|Z4 w h T D) (.sh<|.int t) s12 (.sh<|.str<|S D[i].1) (.sh<|.int D[i].2.1) (.sh<|.lst<|D[i].2.2.map ϒ) nq).set 8 .pin):=by generalize ((ß D[i].2.2.length).map λ(i:Nat)=>PV.int (i:Int))=RG at*;rw[<-ol]at rg;generalize D[i].2.2.map ϒ=OS at*;simp[Z7,rg]
 unfold ZK nO;rw[pt];dsimp only;unfold jW;rw[em];dsimp only;rw[if_pos ⟨by simp only[Z7,eh,en,ſ,ϗ,NC,ZJ,p0,p1,p2,p3,p4,p5,p6,QD,ND,ŭ],rfl⟩,jA];exact lp
theorem Z0j{w h:Nat}{T:List Th}{D:List Dz}(X:Ds w h T D)(h0:0<h){s0 s1 s2 s3 s4 s5 s6:ŗ}(hp:([s0,s1,s2,s3,s4,s5,s6].all ė)=true):∀(f a:Nat),a+f=D.length->∀(t:Int) (s12 NE NF qy nq:ŗ),([s12,NE,NF,qy,nq].all ė)=true->∃b c d e g,([b,c,d,e,g].all ė)=true/\pE 8 (gT 3<|ð (gN 15)<|ð (gN 16)<|ð (gN 17) ű) ZK (((D.drop a).map zV).map bR) (Z7 s0 s1 s2 s3 s4 s5 s6 (.sh<|Z1<|Z4 w h T D) (.sh<|.int t) s12 NE NF qy nq) (Z9 w h T<|D.take a)=some (Z7 s0 s1 s2 s3 s4 s5 s6 (.sh<|Z1<|Z4 w h T D) (.sh<|.int<|GO w h T (D.drop a) t) b c d e g,Z9 w h T D)
 |0,a,e,t,s12,NE,NF,qy,nq,hq=>by
  refine⟨s12,NE,NF,qy,nq,hq,?_⟩;have ea:a=D.length:=by lia
  rw[ea,List.take_length,List.drop_length];rfl
 |f+1,a,e,t,s12,NE,NF,qy,nq,hq=>by
  have ha:a<D.length:=by lia
  have Xp:=hp;simp only[ſ,ϗ,ŭ,ú]at hp hq;obtain⟨p0,p1,p2,p3,p4,p5,p6⟩:=hp;obtain⟨QD,p15,p16,QC,ND⟩:=hq;obtain⟨b,c,hb,hc,st⟩:=Z5S X h0 ha (s0:=s0) (s1:=s1) (s2:=s2) (s3:=s3) (s4:=s4) (s5:=s5) (s6:=s6) (s12:=s12) (nq:=nq) (by simp only[ſ,ϗ,p0,p1,p2,p3,p4,p5,p6,QD,ND,ŭ]) t;obtain⟨u,v,x,y,z,hh,ih⟩:=Z0j X h0 Xp f (a+1) (by lia) (GN w h T D[a] D[a].2.2 t) b (.sh<|.str<|S D[a].1) (.sh<|.int D[a].2.1) (.sh<|.lst<|D[a].2.2.map ϒ) c (by simp only[ſ,ϗ,ZJ,hb,hc,ŭ]);refine⟨u,v,x,y,z,hh,?_⟩;rw[fI ha,Ó,Ó];unfold pE;have g1:gT 3 (ð (gN 15)<|ð (gN 16)<|ð (gN 17) ű) (bR<|zV D[a]) ((Z7 s0 s1 s2 s3 s4 s5 s6 (.sh<|Z1<|Z4 w h T D) (.sh<|.int t) s12 NE NF qy nq).set 8 .pin)=some ((Z7 s0 s1 s2 s3 s4 s5 s6 (.sh<|Z1<|Z4 w h T D) (.sh<|.int t) s12 (.sh<|.str<|S D[a].1) (.sh<|.int D[a].2.1) (.sh<|.lst<|D[a].2.2.map ϒ) nq).set 8 .pin):=rfl;rw[g1];dsimp only;rw[if_pos ⟨by simp only[Z7,eh,en,ſ,ϗ,NC,ZJ,p0,p1,p2,p3,p4,p5,p6,QD,ND,ŭ],rfl⟩];show(match ZK (Z7 s0 s1 s2 s3 s4 s5 s6 (.sh<|Z1<|Z4 w h T D) (.sh<|.int t) s12 (.sh<|.str<|S D[a].1) (.sh<|.int D[a].2.1) (.sh<|.lst<|D[a].2.2.map ϒ) nq) _ with
   |some (i,d2)=>_|none=>none)=_
  rw[st];exact ih
def cnt(n:Nat)(f:Nat->Bool):Nat:=((ß n).filter f).length
def Z4P(a b:Nat)(f:Nat->Bool):cnt (a+b) f=cnt a f+cnt b λx=>f (a+x):=by unfold cnt;rw[List.range_add,List.filter_append,ő,wL,Ę];rfl
def Z38{n:Nat}{f g:Nat->Bool}(h:∀k<n,f k=g k):cnt n f=cnt n g:=by unfold cnt;rw[List.filter_congr λk hk=>h k<|Ţ.mp hk]
def Z1F(a b:List Nat):Zn (a++b)=Zn a+Zn b:=by unfold Zn;rw[List.filter_append,ő]
theorem Z12:∀ys:List (List Nat),Zn (Ė [47] ys)=(ys.map Zn).sum
 |[]=>rfl|[x]=>by simp[Ė]|x::y::r=>by have ih:=Z12 (y::r);show Zn (x++[47]++Ė [47] (y::r))=_;rw[Z1F,Z1F,ih];simp[Zn]
def Z3R(w:Nat)(p:Nat->Bool)(q:Nat):Zn (ZB w p q)=cnt w λx=>!p (q*w+x):=by unfold Zn ZB cnt;rw[wL,Ę];congr 1;apply List.filter_congr;intro x _;show decide (sg (p<|q*w+x)=46)=_;unfold sg;cases p (q*w+x)<;>rfl
theorem Z1G(w:Nat)(p:Nat->Bool):∀h:Nat,Zn (Ė [47] (cX w h p))=cnt (w*h) λk=>!p k
 |0=>by unfold cX cnt;simp[Ė,Zn]|h+1=>by have ih:=Z1G w p h;rw[Z12]at ih⊢;unfold cX at ih⊢;rw[rZ,Ĝ,Ĝ,List.sum_append,ih,Nat.mul_succ,Z4P];simp[Z3R,lC]
def lk(w:Nat)(T:List Th)(os:List (Option P3))(k:Nat):Nat:=(os.filter λo=>!kz w T o k).length
def Z4Q(w k:Nat)(T:List Th)(os:List (Option P3)):(Zb w T os k).length=lk w T os k:=by unfold Zb lk;have e:=congrArg (λl=>(l.filter λo=>!kz w T o k).length)<|Z0z os;rw[wL,Ę]at e;exact e
theorem SU{w k:Nat}{T:List Th}:∀(D:List Dz) (t:Int),Zj w k T D t=t+(D.map λd=>d.2.1*(lk w T d.2.2 k:Int)).sum
 |[],t=>by simp[Zj]|d::D,t=>by have ih:=SU (w:=w) (k:=k) (T:=T) D<|t+d.2.1*(Zb w T d.2.2 k).length;show Zj w k T D (t+d.2.1*(Zb w T d.2.2 k).length)=_;rw[ih,Z4Q,Ó,ϖ];lia
theorem Z46{w k:Nat}{T:List Th}(a:Int):∀(os:List (Option P3)) (H:Nat->Int),os.foldl (λH o=>gi w T a o H) H k=H k+a*(lk w T os k:Int)
 |[],H=>by simp[lk]|o::os,H=>by
  rw[br,Z46 a os];unfold gi lk;rw[r_];cases kz w T o k
  ·simp[rJ];lia
  ·simp
theorem Z28{w k:Nat}{T:List Th}:∀(D:List Dz) (H:Nat->Int),iM w T (D.map zV) H k=H k+(D.map λd=>d.2.1*(lk w T d.2.2 k:Int)).sum
 |[],H=>by simp[iM]|d::D,H=>by have ih:=Z28 (w:=w) (k:=k) (T:=T) D<|J_ w T (zV d) H;show iM w T (D.map zV) (J_ w T (zV d) H) k=_;rw[ih];have e:J_ w T (zV d) H k=H k+d.2.1*(lk w T d.2.2 k:Int):=Z46 d.2.1 d.2.2 H;rw[e,Ó,ϖ];lia
def Z3S{w k:Nat}{T:List Th}(D:List Dz):iM w T (D.map zV) (λ_=>0) k=Zj w k T D 0:=by rw[Z28,SU]
def Z5T(w:Nat)(T:List Th)(os:List (Option P3))(k:Nat):lk w T os k<=os.length:=wJ _ _
theorem Z39{w k:Nat}{T:List Th}:∀{D:List Dz},(∀d∈D,1<=d.2.1/\d.2.1<=1000000000)->0<=(D.map λd=>d.2.1*(lk w T d.2.2 k:Int)).sum/\(D.map λd=>d.2.1*(lk w T d.2.2 k:Int)).sum<=1000000000*(((D.map λd=>d.2.2.length).sum:Nat):Int)
 |[],_=>by simp|d::D,h=>by
  obtain⟨i1,i2⟩:=Z39 (w:=w) (k:=k) (T:=T) (D:=D) λx hx=>h x<|õ _ hx;obtain⟨a1,a2⟩:=h d (by simp);have l:=Z5T w T d.2.2 k;rw[Ó,Ó,ϖ,ϖ];have m1:0<=d.2.1*(lk w T d.2.2 k:Int):=wr (by lia) (by lia);have m2:d.2.1*(lk w T d.2.2 k:Int)<=1000000000*(d.2.2.length:Int):=Int.mul_le_mul a2 (by lia) (by lia) (by lia);have m3:((d.2.2.length+(D.map λd=>d.2.2.length).sum:Nat):Int)=(d.2.2.length:Int)+(((D.map λd=>d.2.2.length).sum:Nat):Int):=by lia
  rw[m3,rJ];lia
def Z5t{w h:Nat}{T:List Th}{D:List Dz}(X:Ds w h T D)(k:Nat):0<=Zj w k T D 0/\Nb (Zj w k T D 0):=by obtain⟨i1,i2⟩:=Z39 (w:=w) (k:=k) (T:=T) (D:=D) λd hd=>⟨(X.d d hd).1.2.1,(X.d d hd).1.2.2.1⟩;have q:=X.q;rw[SU];unfold Nb;lia
theorem Z29{α:Type}(f:α->Bool):∀os:List α,(os.map λo=>if f o then(1:Int)else 0).sum=((os.filter f).length:Int)
 |[]=>rfl|o::os=>by rw[Ó,ϖ,Z29 f os,r_];cases f o<;>simp<;>lia
theorem WD{α:Type}:∀os:List α,(os.map λ_=>(0:Int)).sum=0
 |[]=>rfl|o::os=>by rw[Ó,ϖ,WD os];rfl
theorem WE{α:Type}(f g:α->Int):∀os:List α,(os.map λo=>f o+g o).sum=(os.map f).sum+(os.map g).sum
 |[]=>rfl|o::os=>by rw[Ó,Ó,Ó,ϖ,ϖ,ϖ,WE f g os];lia
theorem Z2a{α:Type}(a:Int)(f:α->Int):∀os:List α,(os.map λo=>a*f o).sum=a*(os.map f).sum
 |[]=>by simp|o::os=>by rw[Ó,Ó,ϖ,ϖ,Z2a a f os,rJ]
theorem Z1H{α:Type}(f:α->Nat->Bool)(os:List α):∀L:List Nat,(L.map λk=>((os.filter λo=>f o k).length:Int)).sum=(os.map λo=>((L.filter λk=>f o k).length:Int)).sum
 |[]=>(WD os).symm|k::L=>by rw[Ó,ϖ,Z1H f os L,<-Z29 (λo=>f o k) os,<-WE];congr 1;apply lA;intro o _;rw[r_];cases f o k<;>simp<;>lia
theorem Z3a{w h:Nat}{T:List Th}(d:Dz):∀(os:List (Option P3)) (t:Int),GN w h T d os t=t+d.2.1*(os.map λo=>(cnt (w*h) λk=>!kz w T o k:Int)).sum
 |[],t=>by simp[GN]|o::os,t=>by
  have ih:=Z3a (w:=w) (h:=h) (T:=T) d os<|t+d.2.1*Zn (Ė [47] (cX w h (jt w h T o).testBit));show GN w h T d os (t+d.2.1*Zn (Ė [47] (cX w h (jt w h T o).testBit)))=_;have e:Zn (Ė [47] (cX w h (jt w h T o).testBit))=cnt (w*h) λk=>!kz w T o k:=by rw[Z1G];apply Z38;intro k hk;rw[jt,Zm];simp[hk]
  rw[ih,e,Ó,ϖ,rJ];lia
theorem Z3b{w h:Nat}{T:List Th}:∀(D:List Dz) (t:Int),GO w h T D t=t+(D.map λd=>d.2.1*(d.2.2.map λo=>(cnt (w*h) λk=>!kz w T o k:Int)).sum).sum
 |[],t=>by simp[GO]|d::D,t=>by have ih:=Z3b (w:=w) (h:=h) (T:=T) D<|GN w h T d d.2.2 t;show GO w h T D (GN w h T d d.2.2 t)=_;rw[ih,Z3a,Ó,ϖ];lia
def Z3T{w h:Nat}{T:List Th}(D:List Dz):((ß<|w*h).map λk=>Zj w k T D 0).sum=GO w h T D 0:=by
 have g:∀D:List Dz,((ß<|w*h).map λk=>(D.map λd=>d.2.1*(lk w T d.2.2 k:Int)).sum).sum=(D.map λd=>d.2.1*(d.2.2.map λo=>(cnt (w*h) λk=>!kz w T o k:Int)).sum).sum:=by
  intro D
  induction D with
  |nil=>exact WD _|cons d D ih=>
   have e:((ß<|w*h).map λk=>((d::D).map λd=>d.2.1*(lk w T d.2.2 k:Int)).sum)=(ß<|w*h).map λk=>d.2.1*(lk w T d.2.2 k:Int)+(D.map λd=>d.2.1*(lk w T d.2.2 k:Int)).sum:=by apply lA;intro k _;rw[Ó,ϖ]
   rw[e,WE,ih,Z2a,Ó,ϖ];congr 2;exact Z1H (λo k=>!kz w T o k) d.2.2<|ß<|w*h
 rw[Z3b,Int.zero_add,<-g D];congr 1;apply lA;intro k _;rw[SU,Int.zero_add]
def ZR{x:Int}(h:sm x):Pl x:=⟨by have:=h.1;lia,by have:=h.2;lia⟩
def Z3c{t:Th}(h:SM t):Z3 t.1 t.2=true:=by
 rcases h with⟨x,y,z,rfl,hx,hy,hz⟩|⟨x,y,z,a,b,c,d,e,f,rfl,h1,h2,h3,h4,h5,h6,h7,h8,h9⟩|⟨_,_,hg⟩
 ·exact Z5K (ZR hx) (ZR hy) hz
 ·exact Z5i (ZR h1) (ZR h2) (by lia) (ZR h4) (ZR h5) (by lia) (ZR h7) (ZR h8) (by lia)
 ·exact hg
theorem Z1I(ns:List Int){w h:Int}(hw:1<=w/\w<=20)(hh:1<=h/\h<=20)(v:Int):∀(ks:List Nat),(∀k∈ks,k<=100)->∀(acc:List PV) (s1:ŗ),acc.length+ks.length<=1000->∃T:List Th,ġ (gN 4) Ģ (Ú<|Ý ϓ<|à (Ú<|ü ô (Ú<|Ý ō<|Ì 3<|à (Ú<|ü ô (Ç 2)<|Â 4) Ø)<|Â 2)<|Ì 0<|Ì 1 Ø) (ks.map λ(i:Nat)=>PV.int (i:Int)) [.sh<|.int w,.sh<|.int h,.sh<|.int v,.sh<|.lst<|ns.map .int,s1] acc=some (acc++T.map C8)/\T.length=ks.length/\∀t∈T,Z3 t.1 t.2=true
 |[],_,acc,s1,_=>⟨[],by simp[ġ],rfl,by simp⟩|k::ks,hk,acc,s1,hl=>by
  rw[Ĕ]at hl;obtain⟨p,e0,_⟩:=ZY ns<|2+k;obtain⟨t,e1,e2⟩:=Z5L (p+v) hw hh;obtain⟨T,q1,q2,q3⟩:=Z1I ns hw hh v ks (λx hx=>hk x<|õ _ hx) (acc++[C8 t]) (.sh<|.int k) (by simp;lia);refine⟨t::T,?_,by simp[q2],?_⟩
  ·have hc:acc.length<16777216:=by lia
   have ew:PV.lst (.str t.1::t.2.map .int)=C8 t:=rfl;rw[Ó,ġ,Ó];obtain⟨W,hW⟩:∃W,PV.str t.1::t.2.map .int=W:=⟨_,rfl⟩;rw[hW]at e1 ew;simp[e0,e1,hc,ew];simpa using q1
  ·intro x hx;rcases þ.mp hx with rfl|hx
   ·exact Z3c e2
   ·exact q3 x hx
def WF(k w:Nat)(w0:0<w)(w1:w<=60):ĥ (.int (k:Int)) (.int (w:Int))=some (.int ((k%w:Nat):Int)):=by
 have e:vG (k:Int) (w:Int)=true:=by unfold vG;simp;lia
 rw[sZ,if_pos e,rD _<|by lia];rfl
def Z3d(k w:Nat)(w0:0<w)(w1:w<=60):bU (.int (k:Int)) (.int (w:Int))=some (.int ((k/w:Nat):Int)):=by have e:kK (k:Int) (w:Int)=true:=zB (by lia) (ř (pj (n:=200) (by lia)<|by lia)<|by decide);rw[ym,if_pos e,nZ _<|by lia];rfl
def Z66(w h:Nat)(T:List Th)(D:List Dz):List PV:=ju (w*h) λk=>Zj w k T D 0
def Z3U{w h:Nat}{T:List Th}{D:List Dz}(X:Ds w h T D):ġ (gN 4) Ģ (Ú<|Ý bQ<|Ì 0<|Ì 1<|Ì 2<|à (ŵ<|É (Ê ĥ (Â 4)<|Â 3)<|É (Ê bU (Â 4)<|Â 3) å) Ø) ((ß<|w*h).map λ(i:Nat)=>PV.int (i:Int)) [.sh<|Z1<|Z4 w h T D,.sh<|.lst<|(D.map zV).map bR,.sh<|fX<|Z9 w h T D,.sh<|.int w,.no] []=some (Z66 w h T D):=by
 have hc:=Ğ (g:=gN 4) (mt:=Ģ) (me:=Ú<|Ý bQ<|Ì 0<|Ì 1<|Ì 2<|à (ŵ<|É (Ê ĥ (Â 4)<|Â 3)<|É (Ê bU (Â 4)<|Â 3) å) Ø) (λ(i:Nat)=>PV.int (i:Int)) (λk=>PV.int<|Zj w k T D 0) (λb=>∃a,b=[.sh<|Z1<|Z4 w h T D,.sh<|.lst<|(D.map zV).map bR,.sh<|fX<|Z9 w h T D,.sh<|.int w,a]) (ß<|w*h) [.sh<|Z1<|Z4 w h T D,.sh<|.lst<|(D.map zV).map bR,.sh<|fX<|Z9 w h T D,.sh<|.int w,.no] [] ⟨_,rfl⟩ (by have:=X.y.wh;simp;lia) (by
  rintro k hk b ⟨a,rfl⟩;have e:=Z36 X<|Ţ.mp hk;have w0:=X.y.w0;have w1:=X.y.w1;have m1:=WF k w w0 w1;have m2:=Z3d k w w0 w1;generalize Z1 (Z4 w h T D)=DV,(D.map zV).map bR=DD,fX (Z9 w h T D)=DI,((k%w:Nat):Int)=x,((k/w:Nat):Int)=y at*;refine⟨[.sh DV,.sh<|.lst DD,.sh DI,.sh<|.int w,.sh<|.int k],_,[.sh DV,.sh<|.lst DD,.sh DI,.sh<|.int w,.sh<|.int k],rfl,rfl,?_,_,rfl⟩;simp[-sZ,-ym,m1,m2,e])
 rw[ϕ]at hc;exact hc
theorem Z3e(H:Nat->Int)(N:Nat)(hN:N<=1000)(a0 a1 a2 a3 a4 a5 a6 a7 a8 a9 NO NP NQ NR NT NU:ŗ):∀(f a:Nat),a+f=N->∀s12,∃b,ĺ (gN 12) nU ((aL a f).map λ(i:Nat)=>PV.int (i:Int)) [a0,a1,a2,a3,a4,a5,a6,a7,a8,a9,.ow<|ju N H,.sh<|.int<|Za a λk=>decide<|0<H k,s12,NO,NP,NQ,NR,NT,NU]=.ok .nx [a0,a1,a2,a3,a4,a5,a6,a7,a8,a9,.ow<|ju N H,.sh<|.int<|Za N λk=>decide<|0<H k,b,NO,NP,NQ,NR,NT,NU]
 |0,a,e,s12=>⟨s12,by rw[show a=N by lia];rfl⟩|f+1,a,e,s12=>by
  obtain⟨b,ih⟩:=Z3e H N hN a0 a1 a2 a3 a4 a5 a6 a7 a8 a9 NO NP NQ NR NT NU f (a+1) (by lia)<|.sh<|.int a;refine⟨b,?_⟩;have hx:(ju N H)[a]?=some (.int<|H a):=by unfold ju;simp[show a<N by lia]
  have lt:=Sv (λk=>decide<|0<H k) a;have so:qI 1 (a:Int)=true:=V4 (by lia);rw[gM,Ó,ĺ];have st:nU [a0,a1,a2,a3,a4,a5,a6,a7,a8,a9,.ow<|ju N H,.sh<|.int<|Za a λk=>decide<|0<H k,.sh<|.int a,NO,NP,NQ,NR,NT,NU]=.ok .nx [a0,a1,a2,a3,a4,a5,a6,a7,a8,a9,.ow<|ju N H,.sh<|.int<|Za (a+1) λk=>decide<|0<H k,.sh<|.int a,NO,NP,NQ,NR,NT,NU]:=by
   by_cases hp:0<H a
   ·have e1:Za (a+1) (fun k=>decide<|0<H k)=Za a (fun k=>decide<|0<H k)+2^a:=by
     show Za a _+(if decide (0<H a)=true then 2^a else 0)=_;rw[if_pos<|decide_eq_true hp]
    have ob:FC (.int (Za a (λk=>decide<|0<H k):Nat)) (.int<|(1:Int)*2^a)=some (.int (Za (a+1) (λk=>decide<|0<H k):Nat)):=by
     have e2:(1:Int)*2^a=((2^a:Nat):Int):=by rw[Int.one_mul,Int.natCast_pow];rfl
     rw[e2,e1];show some (PV.int<|eG _ _)=_;have e3:=Nat.two_pow_add_eq_or_of_lt lt 1;rw[Nat.mul_one]at e3;rw[Ss,Nat.or_comm,<-e3,oo]
    generalize ju N H=L at*;rw[Int.one_mul]at ob;simp[nU,hx,hp,so,ob]
   ·have e1:Za (a+1) (fun k=>decide<|0<H k)=Za a (fun k=>decide<|0<H k):=by
     show Za a _+(if decide (0<H a)=true then 2^a else 0)=_;rw[if_neg<|by simpa using hp];rfl
    rw[e1];simp[nU,hx,hp]
  show(nU [a0,a1,a2,a3,a4,a5,a6,a7,a8,a9,.ow<|ju N H,.sh<|.int<|Za a λk=>decide<|0<H k,.sh<|.int a,NO,NP,NQ,NR,NT,NU]).bind _=_;rw[st];exact ih
def Zq{A B:M Fl}{ρ ρ1:Ć}(h:A ρ=.ok .nx ρ1):è A B ρ=B ρ1:=by show(A ρ).bind _=_;rw[h];rfl
def Z5u{i:Nat}{m:M RV}{b a:Ć}{r:RV}(h:m b=.ok r a):ý i m b=.ok .nx (a.set i r.slot):=by show(m b).bind _=_;rw[h];rfl
def ZC{i:Nat}{m:M RV}{a:Ć}{r:RV}(h:m a=.ok r a):ý i m a=.ok .nx (a.set i r.slot):=Z5u h
def Z47{A B:M Fl}{a:Ć}(h:A a=.ok .nx a):è A B a=B a:=Zq h
def WG(n:Nat)(H:Nat->Int):ju n H=((ß n).map H).map .int:=by unfold ju;simp
def Z5U(n:Nat)(H:Nat->Int):Ĺ (.lst<|ju n H) (.lst<|ju n H)=some (.bl true):=by rw[WG];exact D8 (by unfold Ϗ;exact zP _) (by unfold rn;have:=F8<|(ß n).map H;lia)
def Z5v(n:Nat)(H:Nat->Int):Ev .non (.lst<|ju n H)=some (.bl false):=by
 rw[WG];have d:=zP<|(ß n).map H;have a:((((ß n).map H).map PV.int).any λy=>cx y .non)=false:=by rw[wy];intro y hy;obtain⟨z,_,rfl⟩:=Đ.mp hy;intro q;cases q
 show(if(Ϗ .non&&aF (((ß n).map H).map PV.int)&&decide (rn .non<=60))=true then some (PV.bl<|if false=true then _ else(((ß n).map H).map PV.int).any λy=>cx y .non)else none)=_;rw[d,a];rfl
theorem Z1K:∀l:List Int,bp (l.map .int)=some l
 |[]=>rfl|x::l=>by show(bp<|l.map .int).map _=_;rw[Z1K l];rfl
def Z5V{w h:Nat}{T:List Th}{D:List Dz}(X:Ds w h T D)(h0:0<h){s0 s1 s2 s3 s4 s6:ŗ}(hp:([s0,s1,s2,s3,s4,s6].all ė)=true):∃b c d e g,([b,c,d,e,g].all ė)=true/\nO (il 8<|ý 9<|Ļ<|Ç 0) (jW 8 (ī 5) (gT 3<|ð (gN 15)<|ð (gN 16)<|ð (gN 17) ű) ZK) (Z7 s0 s1 s2 s3 s4 (.ow<|(D.map zV).map bR) s6 (.sh<|Z1<|Z4 w h T D) .no .no .no .no .no .no) []=some (Z7 s0 s1 s2 s3 s4 (.sh<|.lst<|(D.map zV).map bR) s6 (.sh<|Z1<|Z4 w h T D) (.sh<|.int<|GO w h T D 0) b c d e g,Z9 w h T D):=by
 simp only[ſ,ϗ,ŭ,ú]at hp;obtain⟨p0,p1,p2,p3,p4,p6⟩:=hp;obtain⟨b,c,d,e,g,hq,lp⟩:=Z0j X h0 (s0:=s0) (s1:=s1) (s2:=s2) (s3:=s3) (s4:=s4) (s5:=.sh<|.lst<|(D.map zV).map bR) (s6:=s6) (by simp only[ſ,ϗ,ZJ,p0,p1,p2,p3,p4,p6,ŭ]) D.length 0 (by lia) 0 .no .no .no .no .no rfl;refine⟨b,c,d,e,g,hq,?_⟩;rw[rW,lz]at lp;have b1:il 8 (ý 9<|Ļ<|Ç 0) (Z7 s0 s1 s2 s3 s4 (.ow<|(D.map zV).map bR) s6 (.sh<|Z1<|Z4 w h T D) .no .no .no .no .no .no) []=some (Z7 s0 s1 s2 s3 s4 (.ow<|(D.map zV).map bR) s6 (.sh<|Z1<|Z4 w h T D) (.sh<|.int 0) .no .no .no .no .no,[]):=
  WC (ρ':=(Z7 s0 s1 s2 s3 s4 (.ow<|(D.map zV).map bR) s6 (.sh<|Z1<|Z4 w h T D) (.sh<|.int 0) .no .no .no .no .no).set 8 .pin) rfl (by simp only[Z7,eh,en,ſ,ϗ,NC,ZJ,Z5R,p0,p1,p2,p3,p4,p6,ŭ]) rfl
 unfold nO;rw[b1];dsimp only;have em:ī 5 ((Z7 s0 s1 s2 s3 s4 (.ow<|(D.map zV).map bR) s6 (.sh<|Z1<|Z4 w h T D) (.sh<|.int 0) .no .no .no .no .no).set 8 .pin)=.ok ((D.map zV).map bR) ((Z7 s0 s1 s2 s3 s4 (.sh<|.lst<|(D.map zV).map bR) s6 (.sh<|Z1<|Z4 w h T D) (.sh<|.int 0) .no .no .no .no .no).set 8 .pin):=rfl;unfold jW;rw[em];dsimp only;rw[if_pos ⟨by simp only[Z7,eh,en,ſ,ϗ,NC,ZJ,p0,p1,p2,p3,p4,p6,ŭ],rfl⟩];exact lp
def Z3V(ns:List Int)(hn:ns.length<=63):wg [.sh<|.lst<|ns.map .int]=.ret (.sh<|.bl true):=by
 obtain⟨v0,k0,g0⟩:=ZY ns 0;obtain⟨v1,k1,g1⟩:=ZY ns 1;obtain⟨w,hw⟩:∃w:Nat,1+v0%4=w:=⟨(1+v0%4).toNat,by lia⟩;obtain⟨h,hh⟩:∃h:Nat,1+v0/4%3=h:=⟨(1+v0/4%3).toNat,by lia⟩;obtain⟨n,NL⟩:∃n:Nat,v1%4=n:=⟨(v1%4).toNat,by lia⟩;have w1:1<=w/\w<=4:=by lia
 have h1:1<=h/\h<=3:=by lia
 have wh:w*h<=12:=eA w1.2 h1.2;have wh0:0<w*h:=Nat.mul_pos w1.1 h1.1;obtain⟨T,t1,t2,t3⟩:=Z1I ns (w:=w) (h:=h) (by lia) (by lia) v1 (ß n) (λk hk=>by have:=Ţ.mp hk;lia) [] .no (by simp;lia);rw[ϕ]at t1;rw[rQ]at t2;obtain⟨D,d1,d2,d3,d4,d5⟩:=Z5k ns;have nd:=Z61 d2.2 d4;have X:Ds w h T D:=⟨⟨by lia,by lia,by lia,by lia,by lia,t3⟩,d2.2,d3,nd,d5⟩;have tx:=Z4F (w:=w) (h:=h) (by lia) (by lia) t3 (by lia) (D:=D) (λd hd=>(d3 d hd).1) (by lia);have rd:=Z4B (w:=w) (h:=h) (by lia) (by lia) t3 (by lia) (D:=D) (λd hd=>(d3 d hd).1) (by lia) nd;have dk:tu [.sh<|sV<|C7 w h T D]=.ok ["yard"] [Z0 w h T<|D.map zV]:=by generalize sV (C7 w h T D)=TX,Z0 w h T (D.map zV)=Yv at*;simp[tu,dO,ja,km,IR.of,putN,A4,rd]
 obtain⟨b,c,d,e,g,hq,rg⟩:=Z5V X (by lia) (s0:=.sh<|.lst<|ns.map .int) (s1:=.sh<|.int w) (s2:=.sh<|.int h) (s3:=.sh<|.int v1) (s4:=.ow<|T.map C8) (s6:=.sh<|sV<|C7 w h T D) rfl;simp only[ſ,ϗ,ŭ,ú]at hq;obtain⟨hb,hc,hd,he,hg⟩:=hq;have to:=Z3U X;have mo:Ĭ (w:Int) (h:Int)=true:=ş (by lia) (by lia);have r1:=Zr (n:=n) (by lia);have r2:=Zr (n:=w*h) (by lia);have cw:((w*h:Nat):Int)=(w:Int)*(h:Int):=lu w h;have hw':(v0%4).natAbs=(v0%4).natAbs:=rfl;have DVl:(T.map C8).length<=1000:=by simp;lia
 rw[cw]at r2;unfold wg ď;show FR.of (Bo [.sh<|.lst<|ns.map .int,.no,.no,.no,.no,.no,.no,.no,.no,.no,.no,.no,.no,.no,.no,.no,.no,.no,.no])=_;unfold Bo;generalize hNS:ns.map PV.int=NS,hTX:sV (C7 w h T D)=TX,hTW:T.map C8=TW,hDV:(D.map zV).map bR=DV,hRN:((ß n).map λ(i:Nat)=>PV.int (i:Int))=RN at*;rw[Zq<|ZC (r:=.sh<|.int w)<|by simp[k0,hw]];rw[Zq<|ZC (r:=.sh<|.int h)<|by simp[k0,hh,RV.slot]];rw[Zq<|ZC (r:=.sh<|.int v1)<|by simp[k1,RV.slot]];rw[Zq<|ZC (r:=.ow TW)<|by simp[RV.slot,NL,r1,jQ,t1]];rw[Zq<|ZC (r:=.ow DV)<|by simp[RV.slot,d1]];rw[Zq<|ZC (r:=.sh TX)<|by simp[RV.slot,tx]];rw[Zq<|ZC (r:=.sh<|Z1<|Z4 w h T D)<|by simp[RV.slot,dk,Z1]];unfold C2;rw[if_pos ⟨by rfl,by simp[RV.slot]⟩];show FR.of (match nO (il 8<|ý 9<|Ļ<|Ç 0) (jW 8 (ī 5) (gT 3<|ð (gN 15)<|ð (gN 16)<|ð (gN 17) ű) ZK) (Z7 (.sh<|.lst NS) (.sh<|.int w) (.sh<|.int h) (.sh<|.int v1) (.ow TW) (.ow DV) (.sh TX) (.sh<|Z1<|Z4 w h T D) .no .no .no .no .no .no) []with
  |none=>ĵ.bad|some (a,d2)=>_)=_
 rw[rg];dsimp only;show FR.of (è _ _ [.sh<|.lst NS,.sh<|.int w,.sh<|.int h,.sh<|.int v1,.ow TW,.sh<|.lst DV,.sh TX,.sh<|Z1<|Z4 w h T D,.sh<|fX<|Z9 w h T D,.sh<|.int<|GO w h T D 0,.no,.no,b,.no,.no,c,d,e,g])=_;obtain⟨m,rfl⟩:∃m:Nat,v1=(m:Int):=⟨v1.toNat,by lia⟩;have NI:m%(w*h)<w*h:=cz _ wh0;have hH:iM w T (D.map zV) (λ_=>0)=λk=>Zj w k T D 0:=funext λk=>Z3S D;have ho:=YQ X.y X.day;rw[hH]at ho;have ev:=Z4p X.y X.day (by simp;lia);have hev:Za (w*h) (ME w T<|D.map zV)=Za (w*h) λk=>decide (0<Zj w k T D 0):=Z1L λk hk=>by obtain⟨_,g2⟩:=YT w T k (D.map zV) (λ_=>0) X.day;rw[hH]at g2;rw[dZ,g2,decide_eq_true_eq]
 rw[hev]at ev;have nb:=(Z5t X<|m%(w*h)).2;have sh:=Z35 X NI (by rw[hH];exact nb);rw[hH]at sh;dsimp only at sh;have lw:m%(w*h)%w<w:=cz _ w1.1;have lh:m%(w*h)/w<h:=(ZG (h:=h) w1.1).mpr NI;have jh:=Z44 (s:="hours") MJ (p:=m%(w*h)%w) (q:=m%(w*h)/w) (by lia) (by lia);have st:=Zh nb;have nf:=Wz (F:=nT<|Zj w (m%(w*h)) T D 0) λc hc=>by have:=(ZA nb).2 c hc;lia
 change cO (š _) (š _)=_ at nf;have ma:=WF m (w*h) wh0 (by lia);have mw:=WF (m%(w*h)) w w1.1 (by lia);have mh:=Z3d (m%(w*h)) w w1.1 (by lia);have nin:=Z5v (w*h) λk=>Zj w k T D 0;have efn:=Z5U (w*h) λk=>Zj w k T D 0;have sm:yo [.lst<|ju (w*h) λk=>Zj w k T D 0]=some (.int<|GO w h T D 0):=by rw[ik,WG,Z1K];show some (PV.int _)=_;rw[Z3T]
 have QE:(ju (w*h) λk=>Zj w k T D 0).length=w*h:=by unfold ju;simp
 have tl2:(ju (w*h) λk=>Zj w k T D 0).length<=16777216:=by lia
 have ix:(ju (w*h) λk=>Zj w k T D 0)[m%(w*h)]?=some (.int<|Zj w (m%(w*h)) T D 0):=by unfold ju;simp[NI]
 have Jd:(Å "say"=Å "yard")=False:=eq_false (by decide+kernel);have r3:=Zr (n:=w*h) (by lia);rw[jA]at r3;obtain⟨b',bl⟩:=Z3e (λk=>Zj w k T D 0) (w*h) (by lia) (.sh<|.lst NS) (.sh<|.int w) (.sh<|.int h) (.sh<|.int m) (.ow TW) (.sh<|.lst DV) (.sh TX) (.sh<|Z1<|Z4 w h T D) (.sh<|fX<|Z9 w h T D) (.sh<|.int<|GO w h T D 0) .no .no c d e g (w*h) 0 (by lia) b;change ĺ (gN 12) nU _ [.sh<|.lst NS,.sh<|.int w,.sh<|.int h,.sh<|.int m,.ow TW,.sh<|.lst DV,.sh TX,.sh<|Z1<|Z4 w h T D,.sh<|fX<|Z9 w h T D,.sh<|.int<|GO w h T D 0,.ow<|ju (w*h) λk=>Zj w k T D 0,.sh<|.int 0,b,.no,.no,c,d,e,g]=_ at bl;change ġ _ _ _ _ _ _=some (ju (w*h) λk=>Zj w k T D 0)at to;generalize hRW:((ß<|w*h).map λ(i:Nat)=>PV.int (i:Int))=RW,hRV:((aL 0<|w*h).map λ(i:Nat)=>PV.int (i:Int))=RV',hTL:(ju (w*h) λk=>Zj w k T D 0)=TL,((Za (w*h) λk=>decide (0<Zj w k T D 0):Nat):Int)=BB,fX (Z9 w h T D)=DI,GO w h T D 0=WH at*;change cT _=.ret (.sh<|Z4 w h T D)at rd;generalize Zj w (m%(w*h)) T D 0=TT at*;unfold Z33 at sh;generalize sV (Z2 [wC "hours",nT ((m%(w*h)%w:Nat):Int),nT ((m%(w*h)/w:Nat):Int)])=RH at*;unfold Z1 at*;change gF [.sh<|Z4 w h T D]=_ at ev;change mN [.sh<|Z4 w h T D]=_ at ho;generalize Z4 w h T D=Yv at*;rw[Zq<|ZC (r:=.ow TL)<|by simp[mo,r2,jQ,x_,to]];rw[Z47<|by simp[-ik,RV.slot,nin,sm]];rw[Zq<|ZC (r:=.sh<|.int 0)<|by simp];rw[<-QE]at r3;rw[Zq (ρ1:=[.sh<|.lst NS,.sh<|.int w,.sh<|.int h,.sh<|.int m,.ow TW,.sh<|.lst DV,.sh TX,.sh<|.ins "Desk" ["yard"] [Yv],.sh DI,.sh<|.int WH,.ow TL,.sh<|.int BB,b',.no,.no,c,d,e,g])<|by simp[RV.slot,r3,bl]];rw[Zq<|ZC (r:=.sh Yv)<|by simp[rd]];have ma':ĥ (.int (m:Int)) (.int (TL.length:Int))=some (.int ((m%(w*h):Nat):Int)):=by rw[QE];exact ma
 rw[Zq<|ZC (r:=.sh<|.int ((m%(w*h):Nat):Int))<|by simp[-sZ,RV.slot,ma']];generalize ((m%(w*h)%w:Nat):Int)=px,((m%(w*h)/w:Nat):Int)=py at*;generalize hA:m%(w*h)=A,š TT=VV at*;rw[Z47<|by simp[-sZ,-ym,RV.slot,mw,mh,jh,sh,Jd,ix,st,nf]];simp[ev,ho,efn]
def Z5w{l:l_}{q:ä}{nr:List Str}{XP:(Str->Option Á)->Ñ->Prop}{YP:Þ->Ñ->Prop}{d:DefRec}{K:gX->Î}(hn:l.most=some 63)(MN:d.params.defaults=[])
 (hY:∀(w:Þ) (h:Ñ),YP w h->(K w.params).In h)
 (F:∀(w:Þ) (mg:Str→Option Á) (fa:À) (h:Ñ),(K w.params).In h→h.Ns Ĥ mg→mg d.name=some (.ref fa)→
   ∃fd:ċ,(∀(s:Ã) (u:Á),fO s fd ⟨[u],[]⟩ [("_law_script",u)])/\∀base:Ñ,(K w.params).In base->base.Ns Ĥ mg->∃cm,b_ l.prog w (K w.params) mg base DM 14 fa fd ["_law_script"] (vE ⟨K w.params,cm⟩ 1 wg)):
 sS q nr XP YP l.row.toRowW d [] (λf vs=>sx f vs):=
 P.FH (k:=14) (x:="_law_script") (CX:=DM) (m:=wg) hn MN ⟨rfl,by decide,by decide⟩ hY F Z3V (λ_ _ _ _ z=>z)
end
end T
open PySem PySem.W PyProof.Rows
set_option maxRecDepth 100000 in
set_option maxHeartbeats 0 in
theorem PySem.Challenge.cw_shadowpost_k84_whole_hours_two_ways_holds : PySem.Challenge.rw_shadowpost_k84_whole_hours_two_ways.Holds := by
 refine Tp ?_
 k_fill
 refine T.Z5w (l:=PySem.Challenge.rw_shadowpost_k84_whole_hours_two_ways) rfl rfl (λw h Y=>by first|exact PySem.W.kIn_of Y|exact PySem.W.km_in_of Y) ?F
 case F=>
  intro w mg fa h KX G QH;apply T.okL (V:=⟨_,w,Tp.heap_39 w.params,mg,P.cmK<|Tp.heap_39 w.params⟩)
  any_goals first|exact QH|apply P.Vu KX G|apply P.Vv KX G|apply P.Vw KX G|apply P.Vx KX G|apply P.Vy KX G (by (repeat intro _);rfl)|apply P.Vz KX G (by (repeat intro _);rfl)|apply P.VA (by (repeat intro _);rfl)|apply P.VB (by (repeat intro _);rfl)|apply P.LK|apply P.MA
  any_goals first|kernel_rfl|(unfold P.Na L2.ff;kernel_rfl)
  all_goals skip
